import PyProof.Rows.All
import Wide.All
import OpenK.AllK
import Wide.FinOn
import Lean
import PyProof.EqAt
import PyProof.EqKinds
import PyProof.TupleCall
import PySem.Str
import PySem.Builtin.Int.W1All
import PyProof.NeKinds
import PyProof.ZipIter
import PyProof.SumWalkG
import PyProof.MinMaxWalk
import PyProof.WalksMore
import PyProof.SeqI3
import PyProof.WalkInts
import PyProof.Rows.CallKwBuiltin
import PyProof.Rows.Tup
import PyProof.CollectIter
import PyProof.EnumMake
import PyProof.TupleOfSeq
import PyProof.ListNew
import PyProof.ReprLoop
import PyProof.StationsW
import PyProof.ExcClass3
import PyProof.Rows.CatchBare
import OpenK.KOwn
import KE.KIsAll
import PyProof.NsDelKeeps
import PyProof.RulesAs
import PyProof.ExcArgsOwn
import PyProof.ListRange
import KE.RegKIsAll
import KE.KRevIter
import PyProof.Rows.SortRuns
import KE.KSortTup
import PyProof.DictWalks
import KE.KDictList
import KE.KItemsList
import PyProof.SetScanFacts
import PyProof.SetKind
import PyProof.Rows.SetFrom
import PyProof.ExcBaseAll.ValueError
import PySem.Challenge.RW_hourhaul_k24_fullest_told
set_option Elab.async false
set_option linter.all false
set_option maxRecDepth 100000
set_option genSizeOf false
set_option compiler.extract_closed false
set_option bootstrap.genMatcherCode false
open List(replicate getElem?_set_ne mem_cons mem_map size_toArray getElem?_set_self length_map map_cons map_map all_eq_true length_cons mem_cons_of_mem getElem?_map mem_singleton length_append nodup_cons mem_append getElem?_append_left lookup_cons mem_of_getElem? find?_cons mem_append_right any_cons getElem?_eq_getElem append_nil append_assoc drop_eq_getElem_cons getElem_mem map_congr_left mem_cons_self all_cons replicate_succ length_range getD foldl map filterMap_cons length_take getElem?_append_right not_mem_nil length_nil nodup_append reverse_cons flatten_cons foldl_cons map_nil drop_eq_nil_iff pairwise_map map_append of_mem_zip nil_append map_id)
open PySem.W(mg_none_of keepIn methodObj mg_of kitx_dict)
open PySem.Heap(lt_size get?_push_of_some get?_push_size size_push get?_update_other SameBut get?_update_self)
open Nat(le_refl ne_of_lt lt_of_lt_of_le zero_le le_trans lt_irrefl le_of_lt lt_succ_of_lt ne_of_gt le_succ lt_trans)
open PySem.Builtin.Tuple(tupleExact tupleItemsOf)
open Bool(and_eq_true or_eq_true false_eq_true not_eq_true')
open Array(length_toList getElem_toList getElem?_toList toList)
open PySem.Builtin.List(listExtendWith listLengthHint listSameRef listTooLong)
open Option(map_eq_some_iff bind_some isSome_map getD_none)
open PySem.Builtin.SmallTypes(nextOf)
open PySem.SetTable(grown fits)
open PySem.Builtin.Slice(slicePlaces sliceAdjust sliceApplied)
open PySem.SeqAt.EqAt(int_str str_int none_bool none_int none_str bool_none bool_bool bool_int bool_str int_none int_bool int_int str_none str_bool str_str)
open PySem.F(plainAttrs_list slot_tuple_add entry_tuple_add args_tuple_add_2 slot_tuple_mul)
open Int(toNat_natCast sub_zero mul_comm mul_add mul_neg)
open PySem.SeqAt.RcAt(lists_lengths)
open PySem.SeqAt.RcNeAt(int_list str_list list_int list_str)
theorem du{h:PySem.Heap}{o b:PySem.Obj}{a:PySem.Addr}(e:h.get? a=some o):(h.push b).get? a=some o:=PySem.Heap.get?_push_of_some _ e
theorem dU{b:Type}{l:List b}{i:Nat}{a:b}(h:l[i]?=some a):∃h:i<l.length,l[i]=a:=List.getElem?_eq_some_iff.mp h
theorem fZ{b:Type}{l:List b}{i j:Nat}{a:b}(h:j≠i):(l.set i a)[j]?=l[j]?:=List.getElem?_set_ne (Ne.symm h)
theorem vy{n:Nat}:0<=n:=Nat.zero_le n
theorem cQ{n:Nat}:n<=n:=Nat.le_refl n
section
namespace L2
open PySem PySem.Spec PyProof.Rows
variable{w:World}{h:Heap}{t' i:Nat}{M:Model}{A:Around}{s:Shared}{pos:Pos}{pins:List (Addr×Obj)}{op:CmpOp}{K:PySem.W.Frag}{tg:Expr}{us:List Value}
noncomputable abbrev Key:=Sum Int Str
noncomputable def pJ:Key->Value->Bool|.inl k,v=>Value.isInt k v|.inr x,v=>Value.isStrOf x v
noncomputable def aaN(w:World):Key->Int|.inl k=>hashInt k|.inr x=>hashStr w x
theorem bD:∀{k:Key}{v:Value},pJ k v=true->(∃i t,k=Sum.inl i/\v=Value.int i t)\/(∃x t,k=Sum.inr x/\v=Value.str x t)|.inl i,v,h=>by obtain⟨t,e⟩:=Value.isInt_shape (k:=i) (v:=v) h;exact .inl ⟨i,t,rfl,e⟩|.inr x,v,h=>by obtain⟨t,e⟩:=Value.isStrOf_shape (x:=x) (v:=v) h;exact .inr ⟨x,t,rfl,e⟩
theorem CN(i:Int)(t:Tok):pJ (.inl i) (.int i t)=true:=by simp[pJ,Value.isInt]
theorem Dl(x:Str)(t:Tok):pJ (.inr x) (.str x t)=true:=by simp[pJ,Value.isStrOf]
theorem QR(a b:Int):decide ((Sum.inl a:Key)=Sum.inl b)=(a==b):=by
 by_cases e:a=b;.subst e;simp
 .have h:¬(Sum.inl a:Key)=Sum.inl b:=λq=>e (Sum.inl.inj q);rw[decide_eq_false h];exact(beq_eq_false_iff_ne.mpr e).symm
theorem O8(a b:Str):decide ((Sum.inr a:Key)=Sum.inr b)=decide (a=b):=by
 by_cases e:a=b;.subst e;simp
 .have h:¬(Sum.inr a:Key)=Sum.inr b:=λq=>e (Sum.inr.inj q);rw[decide_eq_false h,decide_eq_false e]
theorem R0(a:Int)(b:Str):decide ((Sum.inl a:Key)=Sum.inr b)=false:=decide_eq_false (λq=>nomatch q)
theorem Q8(a:Str)(b:Int):decide ((Sum.inr a:Key)=Sum.inl b)=false:=decide_eq_false (λq=>nomatch q)
noncomputable def bC(prog:Program)(w:World):PySem.KeyKind prog w Key where
 is:=pJ;hash:=aaN w;inj:=λv a b g f=>by
  rcases bD g with⟨i,t,rfl,rfl⟩|⟨x,t,rfl,rfl⟩
  . rcases bD f with⟨j,u,rfl,e⟩|⟨y,u,rfl,e⟩;.injection e with e1 _;rw[e1]
    .exact nomatch e
  . rcases bD f with⟨j,u,rfl,e⟩|⟨y,u,rfl,e⟩;.exact nomatch e
    .injection e with e1 _;rw[e1]
 byValue:=λk v h=>by rcases bD h with⟨i,t,rfl,rfl⟩|⟨x,t,rfl,rfl⟩<;>rfl
 pyHash:=λc h=>by
  rcases bD c with⟨i,t,rfl,rfl⟩|⟨x,t,rfl,rfl⟩;.exact wpAny_pyHash_int h
  .exact wpAny_pyHash_str h
 eqBool:=λl c h=>by
  rcases bD l with⟨i,t,rfl,rfl⟩|⟨x,t,rfl,rfl⟩
  . rcases bD c with⟨j,u,rfl,rfl⟩|⟨y,u,rfl,rfl⟩;.rw[QR]at h;exact wpAny_eqBool_int h
    .rw[R0]at h;exact int_str i t y u _ _ _ _ h
  . rcases bD c with⟨j,u,rfl,rfl⟩|⟨y,u,rfl,rfl⟩;.rw[Q8]at h;exact str_int x t j u _ _ _ _ h
    .rw[O8]at h;exact wpAny_eqBool_str h
 «strs»:=λk x t v h=>by
  rcases bD h with⟨i,u,rfl,e⟩|⟨y,u,rfl,e⟩;.exact nomatch e
  .injection e with e1 _;subst e1;cases v<;>rfl
theorem wJ(prog:Program)(w:World)(i:Int)(t:Tok):(bC prog w).is (.inl i) (.int i t)=true:=CN i t
theorem vH(prog:Program)(w:World)(x:Str)(t:Tok):(bC prog w).is (.inr x) (.str x t)=true:=Dl x t
inductive V where|non|bl(b:Bool)|int(i:Int)|str(x:Str)|byt(b:Array UInt8)|flt(b:UInt64)|ref(a:Addr)|ty(n:String)deriving DecidableEq
def RelV:V->Value->Prop|.non,u=>u=Value.none|.bl b,u=>u=Value.bool b|.int i,u=>∃t,u=Value.int i t|.str x,u=>∃t,u=Value.str x t|.byt b,u=>∃t,u=Value.bytes b t|.flt b,u=>∃t,u=Value.float b t|.ref a,u=>u=Value.ref a|.ty n,u=>u=Value.type n
abbrev Vals:List V->List Value->Prop:=Paired RelV
theorem Vals.length{xs:List V}{us:List Value}(r:Vals xs us):xs.length=us.length:=Paired.length r
theorem Vals.get:∀{xs:List V}{us:List Value}{i:Nat}{x:V},Vals xs us->xs[i]?=some x->∃u,us[i]?=some u/\RelV x u|_,_,_,_,.nil,e=>by simp at e|_,_,0,_,.cons r _,e=>by simp at e;subst e;exact⟨_,rfl,r⟩|_,_,i+1,x,.cons _ t,e=>by obtain⟨u,h1,a⟩:=Vals.get (i:=i) (x:=x) t (by simpa using e);exact⟨u,by simpa using h1,a⟩
theorem Vals.set{x:V}{u:Value}(r:RelV x u):∀{xs:List V}{us:List Value}(i:Nat),Vals xs us->Vals (xs.set i x) (us.set i u)|_,_,_,.nil=>.nil|_,_,0,.cons _ t=>.cons r t|_,_,i+1,.cons q t=>.cons q (Vals.set r i t)
theorem Vals.append:∀{xs ys:List V}{us ws:List Value},Vals xs us->Vals ys ws->Vals (xs++ys) (us++ws)|_,_,_,_,.nil,s=>s|_,_,_,_,.cons r t,s=>.cons r (Vals.append t s)
theorem Vals.take:∀{xs:List V}{us:List Value}(n:Nat),Vals xs us->Vals (xs.take n) (us.take n)|_,_,0,_=>.nil|_,_,_+1,.nil=>.nil|_,_,n+1,.cons r t=>.cons r (Vals.take n t)
theorem Vals.drop:∀{xs:List V}{us:List Value}(n:Nat),Vals xs us->Vals (xs.drop n) (us.drop n)|_,_,0,r=>r|_,_,_+1,.nil=>.nil|_,_,n+1,.cons _ t=>Vals.drop n t
def qZ:Option V->Option Value->Prop|some v,some u=>RelV v u|none,none=>True|_,_=>False
def KV{a:Type}:List (a×V)->List (a×Value)->Prop:=Paired λ(p:a×V)(q:a×Value)=>p.1=q.1/\RelV p.2 q.2
noncomputable def kV:Key->V|.inl i=>.int i|.inr x=>.str x
inductive HO where|lst(xs:List V)|tup(xs:List V)|dK(kvs:List (Key×V))|dT(kvs:List (List Key×V))|set(S:Int->Bool)(n:Nat)|ins(C dx:Addr)(fs:List (Str×V))|own(x:Addr)|xd(fs:List (Str×V))|met(f x:Addr)|xF(lo hi:Int)|cG(o:Obj)(u:HO)|Td(ps:Array Value)|ext(φ:Heap->Prop)
noncomputable abbrev Hp:=Addr->Option HO
variable{H:Hp}
noncomputable def upd(H:Hp)(a:Addr)(o:HO):Hp:=λb=>if b=a then some o else H b
theorem aD{a:Addr}{o:HO}:upd H a o a=some o:=by unfold upd;rw[if_pos rfl]
theorem ao{a b:Addr}{o:HO}(h:b≠a):upd H a o b=H b:=by unfold upd;rw[if_neg h]
theorem Aq{a:Addr}{o u:HO}:upd (upd H a o) a u=upd H a u:=by funext b;unfold upd;split<;>rfl
theorem Xm{a b:Addr}{o u:HO}(h:H a=some o)(h':H b=some u)(d:o≠u):a≠b:=by intro e;subst e;rw[h]at h';exact d (Option.some.inj h')
theorem gb{a b:Addr}{o:HO}(h:H a=some o)(h':H b=none):a≠b:=by intro e;subst e;rw[h]at h';cases h'
section
variable(P:Program)(w:World)
def bI(H:Hp)(h:Heap)(a:Addr):HO->Prop|.lst xs=>xs.length<=sizeLine/\∃(b:List Value)(n:Nat),Vals xs b/\h.get? a=some {cls:=.type "list",data:=.seq b.toArray n}|.tup xs=>xs.length<=sizeLine/\∃b:List Value,Vals xs b/\IsTup h a b.toArray|.dK kvs=>kvs.length<=sizeLine/\(a==sysModules)=false/\∃vs,KV kvs vs/\h.DictOf (bC P w) a vs|.dT kvs=>kvs.length<=sizeLine/\(a==sysModules)=false/\∃xs:List (List Key×Addr×Value),Paired (λ(p:List Key×V)(q:List Key×Addr×Value)=>p.1=q.1/\H q.2.1=some (.tup (p.1.map kV))/\RelV p.2 q.2.2) kvs xs/\∃o es ep,h.get? a=some o/\o.ExactDict/\o.data=.dict es ep/\es.toList=xs.map (entryOfKey (tupleKind (bC P w)))/\(xs.map (·.1)).Nodup|.set S n=>h.SetOf (intKind P w) a S n|.ins C e fs=>H e=some (.own a)/\fs.length<=1000/\e≠a/\h.get? a=some (PySem.W.instObj C e)/\∃c,h.Ns1 e c/\(∀f,qZ (fs.lookup f) (c f))/\PySem.Within c (fs.map (·.1))|.own _=>∃o,h.get? a=some o|.xd fs=>∃c,h.Ns1 a c/\∀f,qZ (fs.lookup f) (c f)|.xF lo k=>∃t u v,h.get? a=some {cls:=.type "range",data:=.fields #[.int lo t,.int k u,.int 1 v]}|.cG o u=>h.get? a=some o/\bI H h a u|.Td ps=>h.get? a=some {cls:=.none,data:=.fields ps}|.met f x=>h.get? a=some (methodObj (.ref f) (.ref x))|.ext g=>g h/\(∃o,h.get? a=some o)/\∀h1 j:Heap,g h1->(∀o,h1.get? a=some o->j.get? a=some o)->g j
def mJ(H:Hp)(h:Heap):Prop:=∀a o,H a=some o->bI P w H h a o
end
section
variable{P:Program}{w:World}{H H':Hp}{h h':Heap}{a:Addr}{o:HO}
theorem bI.lt(x:bI P w H h a o):a<h.objs.size:=by cases o with|lst xs=>obtain⟨_,_,_,_,e⟩:=x;exact lt_size e|tup xs=>obtain⟨_,_,_,p⟩:=x;exact p.lt|dK kvs=>obtain⟨_,_,_,_,o,_,_,e,_⟩:=x;exact lt_size e|dT kvs=>obtain⟨_,_,_,_,o,_,_,e,_⟩:=x;exact lt_size e|set S n=>obtain⟨o,_,_,_,e,_⟩:=x;exact lt_size e|ins C b fs=>obtain⟨_,_,_,e,_⟩:=x;exact lt_size e|own y=>obtain⟨_,e⟩:=x;exact lt_size e|xd fs=>obtain⟨_,⟨_,_,_,e,_⟩,_⟩:=x;exact lt_size e|xF lo c=>obtain⟨_,_,_,e⟩:=x;exact lt_size e|cG g u=>obtain⟨e,_⟩:=x;exact lt_size e|Td ps=>exact lt_size (show h.get? a=some _ from x)|met f y=>exact lt_size (show h.get? a=some _ from x)|ext j=>obtain⟨_,⟨_,e⟩,_⟩:=x;exact lt_size e
theorem Paired.R5{g j:Type}{F G:g->j->Prop}:∀{c:List g}{e:List j},Paired F c e->(∀a b,F a b->G a b)->Paired G c e|_,_,.nil,_=>.nil|_,_,.cons r t,f=>.cons (f _ _ r) (Paired.R5 t f)
theorem bI.stay(x:bI P w H h a o)(k:∀b u,(b=a\/H b=some (.own a))->h.get? b=some u->h'.get? b=some u)(ho:∀b,H b=some (.own a)->H' b=some (.own a))(ht:∀b xs,H b=some (.tup xs)->H' b=some (.tup xs)):bI P w H' h' a o:=by induction o with|lst xs=>obtain⟨z,j,n,r,e⟩:=x;exact⟨z,j,n,r,k _ _ (.inl rfl) e⟩|tup xs=>obtain⟨z,j,r,g,e,c⟩:=x;exact⟨z,j,r,g,k _ _ (.inl rfl) e,c⟩|dK kvs=>obtain⟨z,y,vs,r,g,es,ep,e,c⟩:=x;exact⟨z,y,vs,r,g,es,ep,k _ _ (.inl rfl) e,c⟩|dT kvs=>obtain⟨z,y,xs,r,g,es,ep,e,c⟩:=x;exact⟨z,y,xs,Paired.R5 r λp q z=>⟨z.1,ht _ _ z.2.1,z.2.2⟩,g,es,ep,k _ _ (.inl rfl) e,c⟩|set S n=>obtain⟨g,es,ep,t,e,c⟩:=x;exact⟨g,es,ep,t,k _ _ (.inl rfl) e,c⟩|ins C G fs=>obtain⟨d,z,ne,e,l,⟨m,es,ep,B,c⟩,r⟩:=x;exact⟨ho _ d,z,ne,k _ _ (.inl rfl) e,l,⟨m,es,ep,k _ _ (.inr d) B,c⟩,r⟩|own y=>obtain⟨g,e⟩:=x;exact⟨g,k _ _ (.inl rfl) e⟩|xd fs=>obtain⟨l,⟨m,es,ep,e,c⟩,r⟩:=x;exact⟨l,⟨m,es,ep,k _ _ (.inl rfl) e,c⟩,r⟩|xF lo I=>obtain⟨t,u,v,e⟩:=x;exact⟨t,u,v,k _ _ (.inl rfl) e⟩|cG g u E=>obtain⟨e,q⟩:=x;exact⟨k _ _ (.inl rfl) e,E q⟩|Td ps=>have e:h.get? a=some {cls:=.none,data:=.fields ps}:=x;show h'.get? a=some {cls:=.none,data:=.fields ps};exact k a _ (.inl rfl) e|met f y=>have e:h.get? a=some (methodObj (.ref f) (.ref y)):=x;show h'.get? a=some (methodObj (.ref f) (.ref y));exact k a _ (.inl rfl) e|ext J=>obtain⟨p,⟨o,e⟩,st⟩:=x;exact⟨st _ _ p λo q=>k _ _ (.inl rfl) q,⟨o,k _ _ (.inl rfl) e⟩,st⟩
theorem mJ.lt(x:mJ P w H h)(e:H a=some o):a<h.objs.size:=(x a o e).lt
theorem mJ.fresh(x:mJ P w H h)(e:h.objs.size<=a):H a=none:=by cases q:H a with|none=>rfl|some u=>exact absurd (lt_of_lt_of_le (x.lt q) e) (lt_irrefl _)
theorem mJ.kept(x:mJ P w H h)(k:∀b u,h.get? b=some u->h'.get? b=some u):mJ P w H h':=λa o e=>(x a o e).stay (λb u _ q=>k b u q) (λ_ q=>q) λ_ _ q=>q
theorem mJ.laid(x:mJ P w H h)(k:∀b u,h.get? b=some u->h'.get? b=some u)(l:h.objs.size<=a)(f:bI P w (upd H a o) h' a o):mJ P w (upd H a o) h':=λb u e=>by
 have g:=x.fresh l;by_cases j:b=a;.subst j;rw[aD]at e;cases e;exact f
 .rw[ao j]at e;exact(x b u e).stay (λc v _ q=>k c v q) (λc q=>by rw[ao (gb q g)];exact q) λc xs q=>by rw[ao (gb q g)];exact q
end
def Rd(H:Hp)(a:Addr)(u:HO):Prop:=H a=some u\/∃o,H a=some (.cG o u)
theorem Rd.ok{P:Program}{a:Addr}{u:HO}(r:Rd H a u)(x:mJ P w H h):bI P w H h a u:=by
 rcases r with r|⟨o,r⟩;.exact x a u r
 .obtain⟨_,q⟩:=x a _ r;exact q
def W5:Option HO->Prop|some (.lst _)=>True|some (.dK _)=>True|some (.dT _)=>True|some (.set _ _)=>True|some (.ins _ _ _)=>True|some (.ext _)=>True|_=>False
section
variable{P:Program}{w:World}{H:Hp}{h h':Heap}{x e:Addr}{o':HO}
theorem mJ.write(ok:mJ P w H h)(f:W5 (H x))(he:e=x\/H e=some (.own x))(k:∀b u,b≠e->h.get? b=some u->h'.get? b=some u)(j:∃u,h'.get? e=some u)(l:bI P w (upd H x o') h' x o'):mJ P w (upd H x o') h':=λb u q=>by
 have n:∀c y,H c=some (.own y)->c≠x:=λc y r z=>by subst z;rw[r]at f;exact f
 have m:∀c xs,H c=some (.tup xs)->c≠x:=λc xs r z=>by subst z;rw[r]at f;exact f
 by_cases g:b=x;.subst g;rw[aD]at q;cases q;exact l
 . rw[ao g]at q;by_cases a:b=e
   . have o:H b=some (.own x):=by
      rcases he with z|z;.exact absurd (a.trans z) g
      .rw[a];exact z
     rw[q]at o;cases o;obtain⟨v,p⟩:=j;exact⟨v,by rw[a];exact p⟩
   . refine(ok b u q).stay (λc v hc r=>k c v ?_ r) (λc r=>by rw[ao (n c b r)];exact r) λc xs r=>by rw[ao (m c xs r)];exact r
     rcases hc with rfl|hc;.exact a
     . rintro rfl;rcases he with z|z;.exact n c b hc z
       .rw[hc]at z;cases z;exact g rfl
end
structure Un(fs ex:List Addr)(H H':Hp)(h h':Heap):Prop where
 keep:∀b o,h.get? b=some o->H b=none->b∉fs->b∉ex->h'.get? b=some o
 slot:∀b o,h.get? b=some o->H b=none->b∈fs->b∉ex->∃sl,h'.get? b=some {o with slots:=sl}free:∀b o,h.get? b=some o->H b=none->b∉ex->H' b=none
 there:∀b o,h.get? b=some o->b∉ex->∃o',h'.get? b=some o'
 tups:∀b xs,H b=some (.tup xs)->H' b=some (.tup xs)qR:∀b o u,H b=some (.cG o u)->H' b=some (.cG o u)uU:∀b ps,H b=some (.Td ps)->∃more,H' b=some (.Td (ps++more))
section
variable{fs fs' ex ex':List Addr}{H H1 H2:Hp}{h h1 h2 h':Heap}{a x e:Addr}{o:HO}
theorem Un.any(u:Un fs ex H H1 h h1){b:Addr}{c:Obj}(q:h.get? b=some c)(n:H b=none)(f:b∉ex):∃sl,h1.get? b=some {c with slots:=sl}:=by
 by_cases g:b∈fs;.exact u.slot b c q n g f
 .exact⟨c.slots,u.keep b c q n g f⟩
theorem Un.kept(k:∀b u,h.get? b=some u->h'.get? b=some u):Un fs ex H H h h':=⟨λb c q _ _ _=>k b c q,λb c q _ _ _=>⟨c.slots,k b c q⟩,λ_ _ _ n _=>n,λb c q _=>⟨c,k b c q⟩,λ_ _ q=>q,λ_ _ _ q=>q,λ_ ps q=>⟨#[],by rw[q];simp⟩⟩
theorem Un.refl:Un fs ex H H h h:=Un.kept λ_ _ q=>q
theorem Un.laid(k:∀b u,h.get? b=some u->h'.get? b=some u)(f:h.objs.size<=a)(c:H a=none):Un fs ex H (upd H a o) h h' where
 keep:=λb u q _ _ _=>k b u q;slot:=λb u q _ _ _=>⟨u.slots,k b u q⟩;free:=λb u q n _=>by rw[ao (ne_of_lt (lt_of_lt_of_le (lt_size q) f))];exact n
 there:=λb u q _=>⟨u,k b u q⟩;tups:=λb xs q=>by rw[ao (gb q c)];exact q
 qR:=λb u xs q=>by rw[ao (gb q c)];exact q
 uU:=λb ps q=>⟨#[],by rw[ao (gb q c),q];simp⟩
theorem Un.write(f:W5 (H x))(he:e=x\/H e=some (.own x))(k:∀b u,b≠e->h.get? b=some u->h'.get? b=some u)(g:∃u,h'.get? e=some u):Un fs ex H (upd H x o) h h':=by
 have l:∀b,H b=none->b≠x:=λb n z=>by subst z;rw[n]at f;exact f
 have m:∀b,H b=none->b≠e:=λb n z=>by
  subst z;rcases he with r|r;.exact l b n r
  .rw[n]at r;cases r
 have j:∀b u,H b=some u->¬ W5 (some u)->b≠x:=λb u q p z=>by subst z;rw[q]at f;exact p f
 refine⟨λb u q n _ _=>k b u (m b n) q,λb u q n _ _=>⟨u.slots,k b u (m b n) q⟩,λb u q n _=>by rw[ao (l b n)];exact n,λb u q _=>?_,λb xs q=>by rw[ao (j b _ q λz=>z)];exact q,λb u xs q=>by rw[ao (j b _ q λz=>z)];exact q,λb ps q=>⟨#[],by rw[ao (j b _ q λz=>z),q];simp⟩⟩;by_cases c:b=e;.subst c;exact g
 .exact⟨u,k b u c q⟩
end
noncomputable def Zi(h:Heap)(H:Hp):List Addr:=(List.range h.objs.size).filter λa=>(H a).isSome
noncomputable def uQ(h:Heap)(H:Hp):Heap:=PySem.W.hideAll h (Zi h H)
theorem Cv(h:Heap)(H:Hp):(uQ h H).objs.size=h.objs.size:=PySem.W.hideAll_size _ _
theorem IW{b:Addr}{o:Obj}(e:h.get? b=some o)(n:H b=none):(uQ h H).get? b=some o:=PySem.W.hideAll_get _ e λa=>by have q:(H b).isSome=true:=(List.mem_filter.mp a).2;rw[n]at q;simp at q
theorem KJ{b:Addr}{o:Obj}(e:(uQ h H).get? b=some o):h.get? b=some o/\H b=none:=by have a:h.get? b=some o:=PySem.W.of_hideAll (Zi h H) e;refine⟨a,?_⟩;cases q:H b with|none=>rfl|some x=>have c:b∈Zi h H:=List.mem_filter.mpr ⟨List.mem_range.mpr (lt_size a),by simp[q]⟩;have z:(uQ h H).get? b=none:=PySem.W.hideAll_none (Zi h H) c;rw[z]at e;cases e
structure Mod(K:PySem.W.Frag)(mg:Str->Option Value)(base:Heap):Prop where
 qW:K.In base
 glob:base.Ns mainGlobals mg
 blt:∃mb,base.Ns builtinsNs mb/\∀x:Str,x≠"__name__"->mb x=bootBuiltins x
 nolimit:base.NoLimit
structure Cx where
 prog:Program
 w:World
 K:PySem.W.Frag
 mg:Str->Option Value
 base:Heap
 A:Around
 N:List Str
 s₀:Shared
 H₀:Hp
 env:Env
 outer:List Env
 stack:List Env
 ex:List Addr
 fn:Str->Bool
 calm:Bool
 pn:List (Addr×Obj)xe:Value->Shared->Prop
variable{X:Cx}
noncomputable def frs(l:List Env):List Addr:=l.filterMap (·.frame)
noncomputable abbrev Cx.fs(X:Cx):List Addr:=frs X.outer
def xK(a:Scope)(x:Str):Prop:=a.names.lookup x=some .local\/a.names.lookup x=some .cell\/a.names.lookup x=some .free
def Loc(a:Scope)(x:Str):Prop:=a.names.lookup x=some .local\/a.names.lookup x=some .cell
def Look(env:Env)(h:Heap)(m:Str->Option Value)(x:Str)(u:Value):Prop:=(env.kindOf x=some .local/\m x=some u)\/((env.kindOf x=some .cell\/env.kindOf x=some .free)/\∃c,env.cells.lookup x=some c/\h.IsCell c (some u))
structure Cx.Ok(X:Cx):Prop where
 mod:Mod X.K X.mg X.base
 kind:X.env.scope.kind=.function
 glob:X.env.globals=mainGlobals
 blt:X.env.builtins=builtinsNs
 above:X.s₀.heap.objs.size<=X.env.locals
 inj:∀x y c,X.env.cells.lookup x=some c->X.env.cells.lookup y=some c->x=y
 has:∀x,(X.env.kindOf x=some .cell\/X.env.kindOf x=some .free)->∃c,X.env.cells.lookup x=some c
 cab:∀x c,X.fn x=true->X.env.cells.lookup x=some c->X.s₀.heap.objs.size<=c
 hd:X.calm=true->X.A.handled=none
 frames:X.A.frames=some X.stack
 Z5:X.stack=X.outer\/(X.stack=X.env::X.outer/\X.env.frame=some X.env.locals)exf:∀b∈X.ex,b≠X.env.locals/\∀x c,X.env.cells.lookup x=some c->c≠b
 bs:∀b o,X.base.get? b=some o->X.s₀.heap.get? b=some o/\X.H₀ b=none
 Ou:X.base.objs.size<=X.s₀.heap.objs.size
 Jb:∀b o,X.base.get? b=some o->b∉X.ex
 My:∀b∈X.ex,b∉X.fs
 pK:X.s₀.heap.FunFrames X.base X.outer
 Vf:∀b∈X.fs,X.H₀ b=none
structure Inv(X:Cx)(pins:List (Addr×Obj))(σ:List (Option V))(H:Hp)(s:Shared):Prop where
 ok:X.Ok
 os:s.os=X.s₀.os
 bare:AllBare s.gens
 base:Un X.fs X.ex X.H₀ H X.s₀.heap s.heap
 loc:∃m,s.heap.Ns X.env.locals m/\∀(i:Nat)(x:Str)(v:V),X.N[i]?=some x->σ[i]?=some (some v)->xK X.env.scope x->∃u,RelV v u/\Look X.env s.heap m x u
 cell:∀x c,X.env.cells.lookup x=some c->∃v,s.heap.IsCell c v
 free:H X.env.locals=none
 ik:∀x c,X.env.cells.lookup x=some c->H c=none
 pin:∀p∈X.pn++pins,s.heap.get? p.1=some p.2/\H p.1=none/\p.1≠X.env.locals/\p.1∉X.fs/\∀v,p.2.data≠.cell v
 hok:mJ X.prog X.w H s.heap
 len:σ.length=X.N.length
section
variable{X:Cx}{pins:List (Addr×Obj)}{σ:List (Option V)}{H H':Hp}{s:Shared}{h':Heap}
theorem Cx.Ok.abO(ok:X.Ok){b:Addr}{o:Obj}(e:X.base.get? b=some o):b∉X.fs:=λa=>by have:=(ok.pK.mem a).1;rw[e]at this;cases this
theorem Inv.bs(I:Inv X pins σ H s):∀b o,X.base.get? b=some o->s.heap.get? b=some o/\H b=none:=λb o e=>⟨I.base.keep b o (I.ok.bs b o e).1 (I.ok.bs b o e).2 (I.ok.abO e) (I.ok.Jb b o e),I.base.free b o (I.ok.bs b o e).1 (I.ok.bs b o e).2 (I.ok.Jb b o e)⟩
theorem Inv.bk(I:Inv X pins σ H s):∀b o,X.base.get? b=some o->s.heap.get? b=some o:=λb o e=>(I.bs b o e).1
theorem Inv.mod(I:Inv X pins σ H s):Mod X.K X.mg X.base:=I.ok.mod
theorem Inv.SJ(I:Inv X pins σ H s):X.K.In s.heap:=I.ok.mod.qW.keeps I.bk
theorem Inv.lt(I:Inv X pins σ H s):X.env.locals<s.heap.objs.size:=let⟨_,hn,_⟩:=I.loc;hn.lt
theorem Inv.sz(I:Inv X pins σ H s):X.s₀.heap.objs.size<=s.heap.objs.size:=le_trans I.ok.above (le_of_lt I.lt)
theorem Inv.abL(I:Inv X pins σ H s){a:Addr}(h:s.heap.objs.size<=a):a∉X.fs:=λb=>by obtain⟨_,o,ho,_⟩:=I.ok.pK.mem b;exact absurd (lt_of_lt_of_le (lt_size ho) (le_trans I.sz h)) (lt_irrefl _)
theorem Inv.Rm(I:Inv X pins σ H s):∀x c,X.env.cells.lookup x=some c->c≠X.env.locals:=λx c e z=>by obtain⟨v,o,ho,hd⟩:=I.cell x c e;obtain⟨m,⟨f,es,ep,a,b,_⟩,_⟩:=I.loc;rw[z,a]at ho;cases ho;rw[b]at hd;cases hd
theorem Inv.pK(I:Inv X pins σ H s):s.heap.FunFrames X.base X.outer:=by
 have all:∀(l:List Env),(∀b∈frs l,b∈X.fs)->X.s₀.heap.FunFrames X.base l->s.heap.FunFrames X.base l:=by intro l;induction l with|nil=>intro _ _;trivial|cons env r g=>intro hs j;obtain⟨k,⟨L,o,a,m,ho,hd⟩,hr⟩:=j;have c:L∈X.fs:=hs L (by unfold frs;rw[filterMap_cons,a];exact mem_cons_self);obtain⟨sl,e⟩:=I.base.slot L o ho (I.ok.Vf L c) c λz=>I.ok.My L z c;exact⟨k,⟨L,_,a,m,e,hd⟩,g (λb f=>hs b (by unfold frs;rw[filterMap_cons,a];exact mem_cons_of_mem _ f)) hr⟩
 exact all X.outer (λ_ f=>f) I.ok.pK
theorem Inv.stack(I:Inv X pins σ H s):s.heap.FunFrames X.base X.stack:=by
 rcases I.ok.Z5 with e|⟨e,a⟩;.rw[e];exact I.pK
 .rw[e];obtain⟨m,b,_⟩:=I.loc;refine .cons (by rw[I.ok.kind];decide) a b ?_ I.pK;exact Heap.get?_none_of_le (le_trans I.ok.Ou I.ok.above)
theorem Inv.ux(I:Inv X pins σ H s):∀b∈frs X.stack,b∈X.env.locals::X.fs:=λb a=>by
 rcases I.ok.Z5 with e|⟨e,c⟩;.rw[e]at a;exact mem_cons_of_mem _ a
 .rw[e]at a;unfold frs at a;rw[filterMap_cons,c]at a;exact a
theorem Inv.zR(I:Inv X pins σ H s):∀b∈frs X.stack,H b=none:=λb hb=>by
 rcases mem_cons.mp (I.ux b hb)with e|hb;.rw[e];exact I.free
 .obtain⟨_,o,ho,_⟩:=I.ok.pK.mem hb;exact I.base.free b o ho (I.ok.Vf b hb) λz=>I.ok.My b z hb
theorem Inv.step{g':Array GenState}{d':Drawn}{ch:List Addr}(I:Inv X pins σ H s)(f:∀b∈ch,(b∈X.ex\/X.s₀.heap.objs.size<=b)/\b≠X.env.locals/\(∀x c,X.env.cells.lookup x=some c->c≠b)/\∀p∈X.pn++pins,p.1≠b)(keep:∀b o,b≠X.env.locals->b∉X.fs->b∉ch->s.heap.get? b=some o->H b=none->h'.get? b=some o)(slot:∀b o,b≠X.env.locals->b∈X.fs->b∉ch->s.heap.get? b=some o->H b=none->∃sl,h'.get? b=some {o with slots:=sl})(free:∀b o,b∉ch->s.heap.get? b=some o->H b=none->H' b=none)(there:∀b o,b∉ch->s.heap.get? b=some o->∃y,h'.get? b=some y)(tups:∀b xs,H b=some (.tup xs)->H' b=some (.tup xs))(qR:∀b o u,H b=some (.cG o u)->H' b=some (.cG o u))(uU:∀b ps,H b=some (.Td ps)->∃more,H' b=some (.Td (ps++more)))(ns:∀m,s.heap.Ns X.env.locals m->h'.Ns X.env.locals m)(hok:mJ X.prog X.w H' h')(O:AllBare g'):Inv X pins σ H' {s with heap:=h',gens:=g',drawn:=d',toks:=t'}:=by
 have B:∀b o,X.s₀.heap.get? b=some o->b≠X.env.locals:=λb o e=>ne_of_lt (lt_of_lt_of_le (lt_size e) I.ok.above);have G:∀b o,X.s₀.heap.get? b=some o->b∉X.ex->b∉ch:=λb o e a t=>by
  rcases(f b t).1 with z|z;.exact a z
  .exact absurd (lt_of_lt_of_le (lt_size e) z) (lt_irrefl _)
 have g:∀x c,X.env.cells.lookup x=some c->∀v,s.heap.IsCell c v->h'.IsCell c v:=λx c e v⟨o,ho,hd⟩=>by
  have C:c∉ch:=λz=>(f c z).2.2.1 x c e rfl;by_cases hc:c∈X.fs;.obtain⟨sl,q⟩:=slot c o (I.Rm x c e) hc C ho (I.ik x c e);exact⟨_,q,hd⟩
  .exact⟨o,keep c o (I.Rm x c e) hc C ho (I.ik x c e),hd⟩
 refine⟨I.ok,I.os,O,⟨λb o e n t a=>?_,λb o e n t a=>?_,λb o e n a=>?_,λb o e a=>?_,λb xs e=>tups b xs (I.base.tups b xs e),λb o xs e=>qR b o xs (I.base.qR b o xs e),λb ps e=>?_⟩,?_,λx c e=>?_,?_,λx c e=>?_,λp L=>?_,hok,I.len⟩;.exact keep b o (B b o e) t (G b o e a) (I.base.keep b o e n t a) (I.base.free b o e n a)
 .obtain⟨sl,j⟩:=I.base.slot b o e n t a;obtain⟨J,E⟩:=slot b _ (B b o e) t (G b o e a) j (I.base.free b o e n a);exact⟨J,E⟩
 .obtain⟨y,j⟩:=I.base.there b o e a;exact free b y (G b o e a) j (I.base.free b o e n a)
 .obtain⟨y,j⟩:=I.base.there b o e a;exact there b y (G b o e a) j
 .obtain⟨m1,j⟩:=I.base.uU b ps e;obtain⟨Q,E⟩:=uU b _ j;exact⟨m1++Q,by rw[E,Array.append_assoc]⟩
 . obtain⟨m,U,W⟩:=I.loc;refine⟨m,ns m U,λi x v j E Y=>?_⟩;obtain⟨u,r,l⟩:=W i x v j E Y;refine⟨u,r,?_⟩;rcases l with l|⟨k,c,e,z⟩;.exact .inl l
   .exact .inr ⟨k,c,e,g x c e _ z⟩
 .obtain⟨v,z⟩:=I.cell x c e;exact⟨v,g x c e v z⟩
 .obtain⟨m,⟨o,_,_,ho,_⟩,_⟩:=I.loc;exact free _ o (λz=>(f _ z).2.1 rfl) ho I.free
 .obtain⟨v,o,ho,hd⟩:=I.cell x c e;exact free c o (λz=>(f c z).2.2.1 x c e rfl) ho (I.ik x c e)
 .obtain⟨e,n,ne,N,d⟩:=I.pin p L;have C:p.1∉ch:=λz=>(f p.1 z).2.2.2 p L rfl;exact⟨keep p.1 p.2 ne N C e n,free p.1 p.2 C e n,ne,N,d⟩
theorem Inv.un(I:Inv X pins σ H s)(u:Un X.fs [] H H' s.heap h')(hok:mJ X.prog X.w H' h'):Inv X pins σ H' {s with heap:=h',toks:=t'}:=by obtain⟨m,⟨o,es,ep,ho,r⟩,_⟩:=id I.loc;obtain⟨sl,g⟩:=u.any ho I.free (by simp);exact I.step (g':=s.gens) (d':=s.drawn) (ch:=[]) (λ_ z=>nomatch z) (λb o _ c _ e n=>u.keep b o e n c (by simp)) (λb o _ c _ e n=>u.slot b o e n c (by simp)) (λb o _ e n=>u.free b o e n (by simp)) (λb o _ e=>u.there b o e (by simp)) u.tups u.qR u.uU (λl j=>by obtain⟨p,es',f,a,k⟩:=j;rw[ho]at a;cases a;exact⟨_,es',f,g,k⟩) hok I.bare
theorem Inv.call{g':Array GenState}{d':Drawn}{ch:List Addr}(I:Inv X pins σ H s)(u:Un (frs X.stack) ch H H' s.heap h')(hok:mJ X.prog X.w H' h')(k:AllBare g')(a:∀b∈ch,(b∈X.ex\/X.s₀.heap.objs.size<=b)/\b≠X.env.locals/\(∀x c,X.env.cells.lookup x=some c->c≠b)/\∀p∈X.pn++pins,p.1≠b):Inv X pins σ H' {s with heap:=h',gens:=g',drawn:=d',toks:=t'}:=by obtain⟨m,⟨o,es,ep,ho,r⟩,_⟩:=id I.loc;obtain⟨sl,g⟩:=u.any ho I.free λz=>(a _ z).2.1 rfl;exact I.step (ch:=ch) a (λb o g l hc e n=>u.keep b o e n (λz=>(mem_cons.mp (I.ux b z)).elim g l) hc) (λb o _ _ hc e n=>u.any e n hc) (λb o hc e n=>u.free b o e n hc) (λb o hc e=>u.there b o e hc) u.tups u.qR u.uU (λv q=>by obtain⟨y,es',j,f,t⟩:=q;rw[ho]at f;cases f;exact⟨_,es',j,g,t⟩) hok k
theorem Inv.turned{a:Addr}(I:Inv X pins σ H s)(k:∀b o,b≠a->s.heap.get? b=some o->h'.get? b=some o)(j:H a=none)(g:a≠X.env.locals)(h1:a∈X.ex\/X.s₀.heap.objs.size<=a)(l:∀x c,X.env.cells.lookup x=some c->c≠a)(t:∀p∈X.pn++pins,p.1≠a):Inv X pins σ H {s with heap:=h',toks:=t'}:=by
 have f:∀b u,H b=some u->b≠a:=λb u e z=>by rw[z,j]at e;cases e
 refine I.step (g':=s.gens) (d':=s.drawn) (ch:=[a]) (λb y=>?_) (λb o _ _ hc e _=>k b o (λz=>hc (by simp[z])) e) (λb o _ _ hc e _=>⟨o.slots,k b o (λz=>hc (by simp[z])) e⟩) (λ_ _ _ _ n=>n) (λb o hc e=>⟨o,k b o (λz=>hc (by simp[z])) e⟩) (λ_ _ e=>e) (λ_ _ _ e=>e) (λb ps e=>⟨#[],by rw[e];simp⟩) (λm B=>?_) (λb u e=>?_) I.bare
 . have e:b=a:=by simpa using y
   subst e;exact⟨h1,g,l,t⟩
 .obtain⟨o,es,ep,ho,r⟩:=B;exact⟨o,es,ep,k _ o (Ne.symm g) ho,r⟩
 . refine(I.hok b u e).stay (λc v hc q=>k c v ?_ q) (λ_ q=>q) λ_ _ q=>q;rcases hc with z|z;.rw[z];exact f b u e
   .exact f c _ z
theorem Inv.tok(I:Inv X pins σ H s)(t:Nat):Inv X pins σ H {s with toks:=t}:=I.un (h':=s.heap) (t':=t) Un.refl I.hok
theorem Inv.kept{t':Nat}(I:Inv X pins σ H s)(k:∀b u,s.heap.get? b=some u->h'.get? b=some u):Inv X pins σ H {s with heap:=h',toks:=t'}:=I.un (Un.kept k) (I.hok.kept k)
theorem Inv.laid{a:Addr}{o:HO}{t':Nat}(I:Inv X pins σ H s)(k:∀b u,s.heap.get? b=some u->h'.get? b=some u)(c:s.heap.objs.size<=a)(e:bI X.prog X.w (upd H a o) h' a o):Inv X pins σ (upd H a o) {s with heap:=h',toks:=t'}:=I.un (Un.laid k c (I.hok.fresh c)) (I.hok.laid k c e)
theorem Inv.write{x e:Addr}{o:HO}{t':Nat}(I:Inv X pins σ H s)(f:W5 (H x))(he:e=x\/H e=some (.own x))(k:∀b u,b≠e->s.heap.get? b=some u->h'.get? b=some u)(a:∃u,h'.get? e=some u)(c:bI X.prog X.w (upd H x o) h' x o):Inv X pins σ (upd H x o) {s with heap:=h',toks:=t'}:=I.un (Un.write f he k a) (I.hok.write f he k a c)
theorem Inv.Ar{a:List (Addr×Obj)}(I:Inv X pins σ H s)(h:∀p∈a,s.heap.get? p.1=some p.2/\H p.1=none/\p.1≠X.env.locals/\p.1∉X.fs/\∀v,p.2.data≠.cell v):Inv X a σ H s:=⟨I.ok,I.os,I.bare,I.base,I.loc,I.cell,I.free,I.ik,λp b=>(mem_append.mp b).elim (λz=>I.pin p (List.mem_append_left _ z)) (h p),I.hok,I.len⟩
theorem vL{N:List Str}(c:N.Nodup){j:Nat}{x:Str}(a:N[i]?=some x)(b:N[j]?=some x):i=j:=by obtain⟨h1,e⟩:=dU a;obtain⟨g,f⟩:=dU b;exact(List.getElem_inj c).mp (e.trans f.symm)
theorem rK{E:Value->Shared->Prop}{x:Str}{v:V}{u:Value}{Q:Unit->Shared->Prop}(I:Inv X pins σ H s)(hN:X.N.Nodup)(O:X.N[i]?=some x)(l:Loc X.env.scope x)(r:RelV v u)(h:∀s',Inv X pins (σ.set i (some v)) H s'->(∃a,SameBut a s.heap s'.heap/\(a=X.env.locals\/X.env.cells.lookup x=some a))->Q () s')(hf:X.fn x=true\/X.env.scope.names.lookup x=some .local:=by first|exact .inl rfl|exact .inr rfl|assumption):wpAny M A (storeName X.env x u) Q E s:=by
 obtain⟨m,hn,hl⟩:=id I.loc;have U:(X.env.scope.kind==.class||(X.env.scope.kind==.module&&X.env.locals !=X.env.globals))=false:=by rw[I.ok.kind];rfl
 have C:i<σ.length:=by rw[I.len];exact(dU O).1
 have Rm:=I.Rm;have f:∀{a:Addr}{h':Heap},(∃o,s.heap.get? a=some o/\H a=none)->SameBut a s.heap h'->mJ X.prog X.w H h':=λ{a h'}ha hs b ob e=>by
  obtain⟨_,_,t⟩:=ha;refine(I.hok b ob e).stay (λc w' hc q=>(hs.2 c ?_).trans q) (λ_ q=>q) λ_ _ q=>q;rintro rfl;rcases hc with rfl|hc;.rw[t]at e;cases e
  .rw[t]at hc;cases hc
 rcases l with hk|hk
 . refine wpAny_storeName_local hk hn (λh' ac hs=>?_) U;obtain⟨oL,_,_,ae,_⟩:=id hn;refine h _ ⟨I.ok,I.os,I.bare,⟨λb o e n G l=>?_,λb o e n G l=>?_,I.base.free,λb o e l=>?_,I.base.tups,I.base.qR,I.base.uU⟩,⟨_,ac,λj y v' g B e3=>?_⟩,λy c e=>?_,I.free,I.ik,λp hp=>?_,f ⟨oL,ae,I.free⟩ hs,by simpa using I.len⟩ ⟨_,hs,.inl rfl⟩;.exact(hs.2 b (ne_of_lt (lt_of_lt_of_le (lt_size e) I.ok.above))).trans (I.base.keep b o e n G l)
   .obtain⟨sl,g⟩:=I.base.slot b o e n G l;exact⟨sl,(hs.2 b (ne_of_lt (lt_of_lt_of_le (lt_size e) I.ok.above))).trans g⟩
   .obtain⟨o',g⟩:=I.base.there b o e l;exact⟨o',(hs.2 b (ne_of_lt (lt_of_lt_of_le (lt_size e) I.ok.above))).trans g⟩
   . by_cases J:j=i;.subst J;rw[O]at g;cases g;rw[getElem?_set_self C]at B;cases B;exact⟨u,r,.inl ⟨hk,by simp⟩⟩
     . rw[fZ J]at B;obtain⟨u',r',q⟩:=hl j y v' g B e3;refine⟨u',r',?_⟩;rcases q with⟨k,e⟩|⟨k,c,e,z⟩;.refine .inl ⟨k,?_⟩;have:y≠x:=λe=>J (vL hN g (e▸O));simp[this,e]
       .exact .inr ⟨k,c,e,z.sameBut hs (Rm y c e)⟩
   .obtain⟨w',z⟩:=I.cell y c e;exact⟨w',z.sameBut hs (Rm y c e)⟩
   .obtain⟨e,n,ne,nf,d⟩:=I.pin p hp;exact⟨(hs.2 p.1 ne).trans e,n,ne,nf,d⟩
 . have L:X.fn x=true:=by
    rcases hf with z|z;.exact z
    .rw[z]at hk;cases hk
   obtain⟨c,hc⟩:=I.ok.has x (.inl hk);obtain⟨w',z⟩:=I.cell x c hc;refine wpAny_storeName_cell I.ok.kind hk hc z (λh' W hs=>?_);obtain⟨oc,Y,af⟩:=id z;refine h {s with heap:=h'} ⟨I.ok,I.os,I.bare,⟨λb o e n G l=>?_,λb o e n G l=>?_,I.base.free,λb o e l=>?_,I.base.tups,I.base.qR,I.base.uU⟩,⟨m,hn.sameBut hs (Ne.symm (Rm x c hc)),λj y v' g B e3=>?_⟩,λy c' e=>?_,I.free,I.ik,λp hp=>?_,f ⟨oc,Y,I.ik x c hc⟩ hs,by simpa using I.len⟩ ⟨c,hs,.inr hc⟩;.exact(hs.2 b (ne_of_lt (lt_of_lt_of_le (lt_size e) (I.ok.cab x c L hc)))).trans (I.base.keep b o e n G l)
   .obtain⟨sl,g⟩:=I.base.slot b o e n G l;exact⟨sl,(hs.2 b (ne_of_lt (lt_of_lt_of_le (lt_size e) (I.ok.cab x c L hc)))).trans g⟩
   .obtain⟨o',g⟩:=I.base.there b o e l;exact⟨o',(hs.2 b (ne_of_lt (lt_of_lt_of_le (lt_size e) (I.ok.cab x c L hc)))).trans g⟩
   . by_cases J:j=i;.subst J;rw[O]at g;cases g;rw[getElem?_set_self C]at B;cases B;exact⟨u,r,.inr ⟨.inl hk,c,hc,W⟩⟩
     . rw[fZ J]at B;obtain⟨u',r',q⟩:=hl j y v' g B e3;refine⟨u',r',?_⟩;rcases q with q|⟨k,c',e,z'⟩;.exact .inl q
       .refine .inr ⟨k,c',e,z'.sameBut hs ?_⟩;rintro rfl;exact J (vL hN g (I.ok.inj _ _ _ e hc▸O))
   . by_cases Z:c'=c;.subst Z;exact⟨_,W⟩
     .obtain⟨w2,z2⟩:=I.cell y c' e;exact⟨w2,z2.sameBut hs Z⟩
   .obtain⟨e,n,ne,nf,d⟩:=I.pin p hp;refine⟨(hs.2 p.1 ?_).trans e,n,ne,nf,d⟩;intro q;rw[q,Y]at e;have q':oc=p.2:=Option.some.inj e;exact d w' (by rw[<-q'];exact af)
theorem wy{E:Value->Shared->Prop}{x:Str}{v:V}{u:Value}{Q:Unit->Shared->Prop}(I:Inv X pins σ H s)(b:X.N.Nodup)(c:X.N[i]?=some x)(e:Loc X.env.scope x)(r:RelV v u)(h:∀a,Inv X pins (σ.set i (some v)) H a->Q () a)(f:X.fn x=true\/X.env.scope.names.lookup x=some .local:=by first|exact .inl rfl|exact .inr rfl|assumption):wpAny M A (storeName X.env x u) Q E s:=rK I b c e r (λa g _=>h a g) f
end
abbrev XK:=Value->Option Addr->Hp->Prop
noncomputable abbrev St:=List (Option V)
abbrev VK:=V->Hp->Prop
abbrev TE:=St->Hp->VK->Prop
abbrev TT:=St->Hp->(Bool->Hp->Prop)->Prop
abbrev TA:=St->Hp->(List V->Hp->Prop)->Prop
structure Ends where
 nx:St->Hp->Prop
 rt:VK
 bk:St->Hp->Prop:=λ_ _=>False
 ct:St->Hp->Prop:=λ_ _=>False
abbrev TS:=Ends->St->Hp->Prop
inductive EP(X:Cx)(pins:List (Addr×Obj))(σ:St)(Q:VK)(u:Value)(s':Shared):Prop where|mk(v:V)(H':Hp)(q0:Inv X pins σ H' s')(q1:RelV v u)(q2:Q v H')
def TP(X:Cx)(pins:List (Addr×Obj))(σ:St)(Q:Bool->Hp->Prop)(b:Bool)(c:Shared):Prop:=∃a,Inv X pins σ a c/\Q b a
inductive AP(X:Cx)(pins:List (Addr×Obj))(σ:St)(Q:List V->Hp->Prop)(us:List Value)(s':Shared):Prop where|mk(vs:List V)(H':Hp)(q0:Inv X pins σ H' s')(q1:Vals vs us)(q2:Q vs H')
def SP(X:Cx)(pins:List (Addr×Obj))(D:Ends)(f:Flow)(c:Shared):Prop:=match f with|.next=>∃a b,Inv X pins a b c/\D.nx a b|.brk=>∃a b,Inv X pins a b c/\D.bk a b|.cont=>∃a b,Inv X pins a b c/\D.ct a b|.ret u=>∃v a b,Inv X pins a b c/\RelV v u/\D.rt v b
def PE(X:Cx)(e:Expr)(t:TE):Prop:=∀(pins:List (Addr×Obj))(s:Shared)(σ:St)(H:Hp)(Q:VK),Inv X pins σ H s->t σ H Q->wpAny (model X.prog X.w) X.A (eval e X.env) (EP X pins σ Q) X.xe s
def PT(X:Cx)(e:Expr)(t:TT):Prop:=∀(pins:List (Addr×Obj))(s:Shared)(σ:St)(H:Hp)(Q:Bool->Hp->Prop),Inv X pins σ H s->t σ H Q->wpAny (model X.prog X.w) X.A (isTrue e X.env (eval e X.env)) (TP X pins σ Q) X.xe s
def PW(X:Cx)(e:Expr)(t:TT):Prop:=∀(a:Sem Value)(pins:List (Addr×Obj))(s:Shared)(σ:St)(H:Hp)(Q:Bool->Hp->Prop),Inv X pins σ H s->t σ H Q->wpAny (model X.prog X.w) X.A (isTrue e X.env a) (TP X pins σ Q) X.xe s
theorem PW.pt{e:Expr}{t:TT}(h:PW X e t):PT X e t:=h _
def PA(X:Cx)(es:List Expr)(t:TA):Prop:=∀(pos:Pos)(pins:List (Addr×Obj))(s:Shared)(σ:St)(H:Hp)(Q:List V->Hp->Prop),Inv X pins σ H s->t σ H Q->wpAny (model X.prog X.w) X.A (spliced (backTo pos (starEach es X.env))) (AP X pins σ Q) X.xe s
def PS(X:Cx)(st:Stmt)(t:TS):Prop:=∀(pins:List (Addr×Obj))(s:Shared)(σ:St)(H:Hp)(D:Ends),Inv X pins σ H s->t D σ H->wpAny (model X.prog X.w) X.A (exec st X.env) (SP X pins D) X.xe s
def sH(X:Cx)(st:List Stmt)(t:TS):Prop:=∀(pins:List (Addr×Obj))(s:Shared)(σ:St)(H:Hp)(D:Ends),Inv X pins σ H s->t D σ H->wpAny (model X.prog X.w) X.A (execs st X.env) (SP X pins D) X.xe s
theorem bV{b:Type}{t:Sem b}{Q c:b->Shared->Prop}{E:Value->Shared->Prop}(h:wpAny M A t Q E s)(e:∀a s,Q a s->c a s):wpAny M A t c E s:=wpAny_mono h e λ_ _ x=>x
section
variable{X:Cx}
def dD(i:Nat):TE:=λσ H Q=>∃v,σ[i]?=some (some v)/\Q v H
def tC(v:V):TE:=λ_ H Q=>Q v H
theorem eV{x:Str}(f:X.N[i]?=some x)(g:xK X.env.scope x)(hd:(x==("__debug__":Str))=false:=by decide)(b:(x==("__classdict__":Str))=false:=by decide):PE X (.Name x pos) (dD i):=by
 intro pins s σ H Q I h;obtain⟨v,e,h⟩:=h;obtain⟨m,j,k⟩:=I.loc;obtain⟨u,r,l⟩:=k i x v f e g;have fin:EP X pins σ Q u s:=⟨v,H,I,r,h⟩;rcases l with⟨hk,n⟩|⟨hk,c,hc,a⟩;.exact wpAny_Name (wpAny_loadName_local I.ok.kind hk j n fin) hd
 . rcases hk with hk|hk;.exact wpAny_Name (wpAny_loadName_cell I.ok.kind hk hc a fin) hd
   .exact wpAny_Name (wpAny_loadName_free I.ok.kind hk hc a fin b) hd
theorem o6{i j pos}:PE X (.Constant (.int i) j pos) (tC (.int i)):=λ_ _ _ H _ I h=>wpAny_Constant_int ⟨.int i,H,I.tok _,⟨_,rfl⟩,h⟩
theorem Ng{b j pos}:PE X (.Constant (.bool b) j pos) (tC (.bl b)):=λ_ _ _ H _ I h=>Constant_bool ⟨.bl b,H,I,rfl,h⟩
theorem QS{j pos}:PE X (.Constant .none j pos) (tC .non):=λ_ _ _ H _ I h=>Constant_none ⟨.non,H,I,rfl,h⟩
def Gl(X:Cx)(x:Str):Prop:=X.env.kindOf x=some .globalImplicit
theorem Kc{E:Value->Shared->Prop}{σ:St}{x:Str}{u:Value}{Q:Value->Shared->Prop}(I:Inv X pins σ H s)(a:Gl X x)(b:X.mg x=some u)(h:Q u s)(hd:(x==("__debug__":Str))=false:=by decide):wpAny (model X.prog X.w) X.A (eval (.Name x pos) X.env) Q E s:=Calls.Name_function_global I.ok.kind a (Calls.loadGlobal_global (by rw[I.ok.glob];exact I.mod.glob.keeps I.bk) b h) hd
theorem jh{E:Value->Shared->Prop}{σ:St}{x:Str}{u:Value}{Q:Value->Shared->Prop}(I:Inv X pins σ H s)(a:Gl X x)(b:X.mg x=none)(c:bootBuiltins x=some u)(h:Q u s)(e:x≠"__name__":=by decide)(hd:(x==("__debug__":Str))=false:=by decide):wpAny (model X.prog X.w) X.A (eval (.Name x pos) X.env) Q E s:=by obtain⟨g,h1,f⟩:=I.mod.blt;exact Calls.Name_function_global I.ok.kind a (Calls.loadGlobal_builtin (by rw[I.ok.glob];exact I.mod.glob.keeps I.bk) b (by rw[I.ok.blt];exact h1.keeps I.bk) ((f x e).trans c) h) hd
theorem KY{x:Str}{v:V}{u:Value}(a:Gl X x)(b:X.mg x=none)(c:bootBuiltins x=some u)(r:RelV v u)(e:x≠"__name__":=by decide)(hd:(x==("__debug__":Str))=false:=by decide):PE X (.Name x pos) (tC v):=λ_ _ _ H _ I h=>jh I a b c ⟨v,H,I,r,h⟩ e hd
variable{a b:Expr}{ta tb:TE}{pos:Pos}
def PC(X:Cx)(op:CmpOp)(a b:Expr)(t:TE):Prop:=∀(pins:List (Addr × Obj))(s:Shared)(σ:St)(H:Hp)(Q:VK),Inv X pins σ H s->t σ H Q->wpAny (model X.prog X.w) X.A (eval a X.env) (λv c=>wpAny (model X.prog X.w) X.A (eval b X.env) (λu e=>wpAny (model X.prog X.w) X.A (compareOp op v u) (EP X pins σ Q) X.xe e) X.xe c) X.xe s
def tB(t:TE):TT:=λσ H Q=>t σ H λx e=>∃c,x=.bl c/\Q c e
theorem QQ{t:TE}(h:PC X op a b t)(h1:behindInMarks op b=false:=by first|exact Xx _ (by decide) (by decide)|rfl):PT X (.Compare a [op] [b] pos) (tB t):=by intro pins s σ H Q I e;refine wpAny_isTrue_Compare1 (bV (h pins s σ H _ I e) λv s1 h1=>bV h1 λu s2 f=>bV f λc s3⟨x,H1,I1,r1,q1⟩=>?_) h1;obtain⟨d,rfl,q⟩:=q1;cases r1;exact wpAny_truthy_bool ⟨H1,I1,q⟩
theorem Ij{e:Expr}{t:TE}(h:PE X e t)(he:∀c,isTrue e X.env c=(do let v<-c;standAt e.pos;holding [v] (truthy v)):=by intro _;rfl):PT X e (tB t):=by intro pins s σ H Q I f;refine isTrue_plain (bV (h pins s σ H _ I f) λv s1⟨x,H1,I1,r1,q1⟩=>?_) (he _);obtain⟨d,rfl,q⟩:=q1;cases r1;exact wpAny_truthy_bool ⟨H1,I1,q⟩
variable{tA Z7:TT}{rest:List Expr}
def aaJ(t u:TT):TT:=λσ H Q=>t σ H λc e=>if c=true then u σ e Q else Q false e
def tOr(t u:TT):TT:=λσ H Q=>t σ H λc e=>if c=true then Q true e else u σ e Q
def Qy(t:TT):TT:=λσ H Q=>t σ H λc e=>Q (!c) e
theorem JP(f:PT X a tA):PW X (.BoolOp .And [a] pos) tA:=by intro wh pins s σ H Q I h;refine isTrue_and (bV (f pins s σ H Q I h) λc s1 e=>?_);cases c with|true=>exact isTrue_and_nil e|false=>exact e
theorem QW(f:PT X a tA):PW X (.BoolOp .Or [a] pos) tA:=by intro wh pins s σ H Q I h;refine isTrue_or (bV (f pins s σ H Q I h) λc s1 e=>?_);cases c with|false=>exact isTrue_or_nil e|true=>exact e
theorem Py(f:PT X a tA)(g:PW X (.BoolOp .And (b::rest) pos) Z7):PW X (.BoolOp .And (a::b::rest) pos) (aaJ tA Z7):=by intro wh pins s σ H Q I h;refine isTrue_and (bV (f pins s σ H _ I h) λc s1⟨e,I1,q1⟩=>?_);cases c with|true=>exact g wh pins s1 σ e Q I1 q1|false=>exact⟨e,I1,q1⟩
theorem Xj(f:PT X a tA)(g:PW X (.BoolOp .Or (b::rest) pos) Z7):PW X (.BoolOp .Or (a::b::rest) pos) (tOr tA Z7):=by intro wh pins s σ H Q I h;refine isTrue_or (bV (f pins s σ H _ I h) λc s1⟨e,I1,q1⟩=>?_);cases c with|true=>exact⟨e,I1,q1⟩|false=>exact g wh pins s1 σ e Q I1 q1
theorem Ey(e:PT X a tA):PT X (.UnaryOp .Not a pos) (Qy tA):=by intro pins s σ H Q I h;exact isTrue_not (e pins s σ H (λc f=>Q (!c) f) I h)
def Wz(ta tb:TE):TE:=λσ H Q=>ta σ H λx e=>∃c,x=.bl c/\if c=true then tb σ e Q else Q (.bl false) e
def Xr(ta:TE):TE:=λσ H Q=>ta σ H λx e=>∃c,x=.bl c/\Q (.bl (!c)) e
theorem QH{op}{t:TE}(h:PE X a t):PE X (.BoolOp op [a] pos) t:=λpins s σ H Q I c=>BoolOp_one (h pins s σ H Q I c)
theorem Q9(f:PE X a ta)(g:PE X (.BoolOp .And (b::rest) pos) tb):PE X (.BoolOp .And (a::b::rest) pos) (Wz ta tb):=by intro pins s σ H Q I h;refine BoolOp_and (bV (f pins s σ H _ I h) λv s1⟨x,H1,I1,r1,e⟩=>?_);obtain⟨c,rfl,e⟩:=e;cases r1;refine wpAny_truthy_bool ?_;cases c with|true=>exact g pins s1 σ H1 Q I1 e|false=>exact⟨.bl false,H1,I1,rfl,e⟩
theorem Qa(f:PE X a ta):PE X (.UnaryOp .Not a pos) (Xr ta):=by intro pins s σ H Q I h;refine UnaryOp_ (bV (f pins s σ H _ I h) λv s1⟨x,H1,I1,r1,e⟩=>?_);obtain⟨c,rfl,e⟩:=e;cases r1;exact not_of (wpAny_truthy_bool ⟨.bl (!c),H1,I1,rfl,e⟩)
def tIf(t:TT)(ta tb:TE):TE:=λσ H Q=>t σ H λc e=>if c=true then ta σ e Q else tb σ e Q
theorem Fq{c:Expr}(hc:PT X c tA)(f:PE X a ta)(g:PE X b tb):PE X (.IfExp c a b pos) (tIf tA ta tb):=by intro pins s σ H Q I h;refine wpAny_IfExp (bV (hc pins s σ H _ I h) λd s1⟨e,I1,q1⟩=>?_);cases d with|true=>exact f pins s1 σ e Q I1 q1|false=>exact g pins s1 σ e Q I1 q1
end
def dg(K:PySem.W.Frag)(H:Hp)(a:Addr)(xs:List V):Prop:=Rd H a (.lst xs)\/∃(o:Obj)(b:Array Value)(n:Nat),K.lookup a=some o/\o.cls=.type "list"/\o.dict=none/\o.data=.seq b n/\b.size<=sizeLine/\Vals xs b.toList
def dN(K:PySem.W.Frag)(H:Hp)(a:Addr)(xs:List V):Prop:=Rd H a (.tup xs)\/∃(o:Obj)(b:Array Value)(n:Nat),K.lookup a=some o/\o.cls=.type "tuple"/\o.data=.seq b n/\b.size<=sizeLine/\Vals xs b.toList
noncomputable def aaw:Value->Option V|.none=>some .non|.bool b=>some (.bl b)|.int i _=>some (.int i)|.str x _=>some (.str x)|.bytes b _=>some (.byt b)|.float b _=>some (.flt b)|.ref a=>some (.ref a)|.type n=>some (.ty n)|_=>none
theorem RelV.abs{x:V}{u:Value}(r:RelV x u):aaw u=some x:=by cases x with|non=>cases r;rfl|bl _=>cases r;rfl|int _=>obtain⟨t,rfl⟩:=r;rfl|str _=>obtain⟨t,rfl⟩:=r;rfl|byt _=>obtain⟨t,rfl⟩:=r;rfl|flt _=>obtain⟨t,rfl⟩:=r;rfl|ref _=>cases r;rfl|ty _=>cases r;rfl
theorem RelV.inj{x y:V}{u:Value}(r:RelV x u)(q:RelV y u):x=y:=Option.some.inj (r.abs.symm.trans q.abs)
theorem Vals.inj:∀{xs ys:List V}{us:List Value},Vals xs us->Vals ys us->xs=ys|_,_,_,.nil,.nil=>rfl|_,_,_,.cons r t,.cons a t'=>by rw[r.inj a,Vals.inj t t']
section
variable{X:Cx}{pins:List (Addr×Obj)}{σ:St}{H:Hp}{s:Shared}{a:Addr}{xs ys:List V}
theorem dg.of(h:H a=some (.lst xs)):dg K H a xs:=.inl (.inl h)
theorem dN.of(h:H a=some (.tup xs)):dN K H a xs:=.inl (.inl h)
theorem Inv.list(I:Inv X pins σ H s)(h:dg X.K H a xs):∃b:List Value,Vals xs b/\PlainL s.heap a b.toArray/\xs.length<=sizeLine:=by
 rcases h with h|⟨o,b,n,c,hc,hd,hs,hz,r⟩;.obtain⟨z,b,n,r,e⟩:=h.ok I.hok;exact⟨b,r,⟨_,n,e,rfl,rfl,rfl⟩,z⟩
 .refine⟨b.toList,r,⟨o,n,I.SJ a o c,hc,hd,by simpa using hs⟩,?_⟩;have e:=r.length;simp only[length_toList]at e;omega
theorem Inv.tuple(I:Inv X pins σ H s)(h:dN X.K H a xs):∃b:List Value,Vals xs b/\IsTup s.heap a b.toArray/\xs.length<=sizeLine:=by
 rcases h with h|⟨o,b,n,c,hc,hs,hz,r⟩;.obtain⟨z,b,r,p⟩:=h.ok I.hok;exact⟨b,r,p,z⟩
 .refine⟨b.toList,r,⟨o,I.SJ a o c,hc,n,by simpa using hs⟩,?_⟩;have e:=r.length;simp only[length_toList]at e;omega
theorem Inv.ql(I:Inv X pins σ H s)(h:dg X.K H a xs)(h':dg X.K H a ys):xs=ys:=by
 obtain⟨b,r,⟨o,n,e,_,_,d⟩,_⟩:=I.list h;obtain⟨its',f,⟨g,j,c,_,_,d'⟩,_⟩:=I.list h';rw[e]at c;cases c;rw[d]at d';injection d' with d1 _;have:b=its':=by simpa using congrArg toList d1
 subst this;exact r.inj f
theorem Inv.mY(I:Inv X pins σ H s)(h:dN X.K H a xs)(h':dN X.K H a ys):xs=ys:=by
 obtain⟨b,r,⟨o,e,_,n,d⟩,_⟩:=I.tuple h;obtain⟨its',f,⟨g,c,_,j,d'⟩,_⟩:=I.tuple h';rw[e]at c;cases c;rw[d]at d';injection d' with d1 _;have:b=its':=by simpa using congrArg toList d1
 subst this;exact r.inj f
end
noncomputable abbrev Cx.wish(X:Cx)(E:Value->Shared->Prop):Cx:={X with xe:=E}
noncomputable abbrev Cx.WW(X:Cx):Cx:=X.wish λ_ _=>False
theorem Cx.Ok.wish{X:Cx}(ok:X.Ok)(E:Value->Shared->Prop):(X.wish E).Ok:=⟨ok.mod,ok.kind,ok.glob,ok.blt,ok.above,ok.inj,ok.has,ok.cab,ok.hd,ok.frames,ok.Z5,ok.exf,ok.bs,ok.Ou,ok.Jb,ok.My,ok.pK,ok.Vf⟩
theorem Cx.Ok.jw{E:Value->Shared->Prop}(ok:(X.wish E).Ok):X.Ok:=⟨ok.mod,ok.kind,ok.glob,ok.blt,ok.above,ok.inj,ok.has,ok.cab,ok.hd,ok.frames,ok.Z5,ok.exf,ok.bs,ok.Ou,ok.Jb,ok.My,ok.pK,ok.Vf⟩
section
variable{X:Cx}{pins:List (Addr×Obj)}{σ:St}{H:Hp}{s:Shared}{E:Value->Shared->Prop}
theorem Inv.wish(I:Inv X pins σ H s)(E:Value->Shared->Prop):Inv (X.wish E) pins σ H s:=⟨I.ok.wish E,I.os,I.bare,I.base,I.loc,I.cell,I.free,I.ik,I.pin,I.hok,I.len⟩
theorem Inv.jw(I:Inv (X.wish E) pins σ H s):Inv X pins σ H s:=⟨I.ok.jw,I.os,I.bare,I.base,I.loc,I.cell,I.free,I.ik,I.pin,I.hok,I.len⟩
theorem SP.jw{D:Ends}{f:Flow}{c:Shared}(h:SP (X.wish E) pins D f c):SP X pins D f c:=by cases f with|next=>obtain⟨a,b,I,q⟩:=h;exact⟨a,b,I.jw,q⟩|brk=>obtain⟨a,b,I,q⟩:=h;exact⟨a,b,I.jw,q⟩|cont=>obtain⟨a,b,I,q⟩:=h;exact⟨a,b,I.jw,q⟩|ret u=>obtain⟨v,a,b,I,r,q⟩:=h;exact⟨v,a,b,I.jw,r,q⟩
theorem sH.WW{st:List Stmt}{t:TS}(h:sH X.WW st t):sH X st t:=λpins s σ H D I a=>wpAny_mono (h pins s σ H D (I.wish _) a) (λ_ _ q=>q.jw) λ_ _ z=>False.elim z
end
section
variable{X:Cx}{st:Stmt}{rest:List Stmt}{t u:TS}{e:Expr}{te:TE}{pos:Pos}
def G6:TS:=λD σ H=>D.nx σ H
def Hb(t u:TS):TS:=λD σ H=>t {D with nx:=u D} σ H
theorem ue:sH X [] G6:=λ_ _ σ H _ I h=>wpAny_execs_nil ⟨σ,H,I,h⟩
theorem dM(h1:PS X st t)(b:sH X rest u):sH X (st::rest) (Hb t u):=by intro pins s σ H D I h;refine wpAny_execs_cons (bV (h1 pins s σ H {D with nx:=u D} I h) λf s1 q=>?_);cases f with|next=>obtain⟨a,c,g,q⟩:=q;exact b pins s1 a c D g q|ret v=>exact q|brk=>exact q|cont=>exact q
theorem Kf(h1:PS X st t):sH X [st] t:=by intro pins s σ H D I h;refine wpAny_execs_cons (bV (h1 pins s σ H D I h) λf s1 q=>?_);cases f with|next=>exact wpAny_execs_nil q|ret v=>exact q|brk=>exact q|cont=>exact q
theorem Inv.quiet{σ:St}(I:Inv X pins σ H s):interactive X.env=false:=by simp[interactive,I.ok.kind]
def kE(te:TE):TS:=λD σ H=>te σ H λ_ a=>D.nx σ a
theorem oV(he:PE X e te)(hs:swapsWith e none pos.line X.env=pure false:=by rfl):PS X (.Expr e pos) (kE te):=by intro pins s σ H D I h;exact wpAny_Expr_any (bV (he pins s σ H _ I h) λv s1⟨x,H1,I1,r1,q1⟩=>⟨σ,H1,I1,q1⟩) I.quiet hs
def Qe(te:TE):TS:=λD σ H=>te σ H D.rt
theorem zj(he:PE X e te):PS X (.Return (some e) pos) (Qe te):=by intro pins s σ H D I h;exact wpAny_Return_some (bV (he pins s σ H _ I h) λv s1⟨x,H1,I1,r1,q1⟩=>⟨x,σ,H1,I1,r1,q1⟩)
def RL(c:TT)(t u:TS):TS:=λD σ H=>c σ H λb a=>if b=true then t D σ a else u D σ a
theorem GC{c:Expr}{a b:List Stmt}{f:TT}(hc:PT X c f)(j:sH X a t)(k:sH X b u):PS X (.If c a b pos) (RL f t u):=by intro pins s σ H D I h;refine wpAny_If (bV (hc pins s σ H _ I h) λd s1⟨g,I1,q1⟩=>?_);cases d with|true=>exact j pins s1 σ g D I1 q1|false=>exact k pins s1 σ g D I1 q1
end
abbrev TG:=V->St->Hp->(St->Hp->Prop)->Prop
abbrev Eh:=List V->St->Hp->(St->Hp->Prop)->Prop
def PG(X:Cx)(a:Expr)(t:TG):Prop:=∀(pins:List (Addr × Obj))(s:Shared)(σ:St)(H:Hp)(v:V)(u:Value)(Q:St->Hp->Prop),Inv X pins σ H s->RelV v u->t v σ H Q->wpAny (model X.prog X.w) X.A (assign a X.env u) (λ_ e=>∃b c,Inv X pins b c e/\Q b c) X.xe s
def Zx(X:Cx)(c:List Expr)(t:Eh):Prop:=∀(pins:List (Addr × Obj))(s:Shared)(σ:St)(H:Hp)(vs:List V)(us:List Value)(Q:St->Hp->Prop),Inv X pins σ H s->Vals vs us->t vs σ H Q->wpAny (model X.prog X.w) X.A (assignInOrder ((assignEach c X.env).map (·.2)) us) (λ_ e=>∃a b,Inv X pins a b e/\Q a b) X.xe s
abbrev GX:=V->V->V->Hp->(Hp->Prop)->Prop
def Tc(X:Cx)(t:GX):Prop:=∀(pins:List (Addr × Obj))(s:Shared)(σ:St)(H:Hp)(o i v:V)(a iv u:Value)(Q:Hp->Prop),Inv X pins σ H s->RelV o a->RelV i iv->RelV v u->t o i v H Q->wpAny (model X.prog X.w) X.A (setItem a iv u) (λ_ c=>∃b,Inv X pins σ b c/\Q b) X.xe s
abbrev ZM:=V->V->Hp->VK->Prop
def Z3(X:Cx)(op:Operator)(t:ZM):Prop:=∀(pins:List (Addr × Obj))(s:Shared)(σ:St)(H:Hp)(x y:V)(v u:Value)(Q:VK),Inv X pins σ H s->RelV x v->RelV y u->t x y H Q->wpAny (model X.prog X.w) X.A (inplaceOp op v u) (EP X pins σ Q) X.xe s
section
variable{X:Cx}{pos:Pos}
def fj(i:Nat):TG:=λv σ H Q=>Q (σ.set i (some v)) H
theorem aR{x:Str}(a:X.N.Nodup)(b:X.N[i]?=some x)(c:Loc X.env.scope x)(e:X.fn x=true\/X.env.scope.names.lookup x=some .local:=by first|exact .inl rfl|exact .inr rfl|assumption):PG X (.Name x pos) (fj i):=by intro pins s σ H v u Q I r h;exact wpAny_assign_Name (wy I a b c r (λg f=>⟨_,H,f,h⟩) e)
def RD:Eh:=λvs σ H Q=>vs=[]/\Q σ H
def Gn(t:TG)(u:Eh):Eh:=λvs σ H Q=>∃v r,vs=v::r/\t v σ H λa b=>u r a b Q
theorem jK:Zx X [] RD:=by intro pins s σ H vs us Q I r h;obtain⟨e,h⟩:=h;subst e;cases r;exact assignInOrder_nil ⟨σ,H,I,h⟩
theorem bL{e:Expr}{es:List Expr}{t:TG}{u:Eh}(h1:PG X e t)(b:Zx X es u)(hs:(assignEach (e::es) X.env).map (·.2)=assign e X.env::(assignEach es X.env).map (·.2):=by rfl):Zx X (e::es) (Gn t u):=by intro pins s σ H vs us Q I r h;obtain⟨v,g,c,h⟩:=h;subst c;cases r with|cons r f=>rw[hs];refine assignInOrder_cons (bV (h1 pins s σ H _ _ _ I r h) λ_ s1⟨a,H1,I1,q1⟩=>?_);exact b pins s1 a H1 _ _ Q I1 f q1
def PN(K:PySem.W.Frag)(n:Nat)(t:Eh):TG:=λv σ H Q=>∃a xs,v=.ref a/\dN K H a xs/\xs.length=n/\t xs σ H Q
theorem mW{es:List Expr}{k:Nat}{t:Eh}{n:Nat}(hc:X.calm=true)(h:Zx X es t)(g:(assignEach es X.env).length=n:=by rfl)(hst:(assignEach es X.env).findIdx? (·.1)=none:=by rfl):PG X (.Tuple es k pos) (PN X.K n t):=by intro pins s σ H v u Q I r c;obtain⟨a,xs,j,l,m,c⟩:=c;subst j;cases r;obtain⟨p,f,ht,hz⟩:=I.tuple l;refine assign_Tuple_tuple (I.ok.hd hc) ht (by simp[g,<-m,f.length]) hst λh' q=>?_;have x:Inv X pins σ H {s with heap:=h'}:=I.kept (t':=s.toks) λb o e=>q b o (ne_of_lt (lt_size e)) e;exact h pins _ σ H xs _ Q x (by simpa using f) c
def abR(to a:TE)(t:GX):TG:=λv σ H Q=>to σ H λo b=>a σ b λi c=>t o i v c λe=>Q σ e
theorem Qw{o i:Expr}{to b:TE}{t:GX}(ho:PE X o to)(c:PE X i b)(hs:Tc X t)(e:∀ v,assign (.Subscript o i pos) X.env v=(do
  let a<-holding [v] (eval o X.env)let iv<-holding [v,a] (eval i X.env)standAt pos
  holding [v,a,iv] (setItem a iv v)release [v,a,iv] []):=by intro _;rfl):PG X (.Subscript o i pos) (abR to b t):=by intro pins s σ H v u Q I r h;rw[e];refine wpAny_bind (wpAny_holding (bV (ho pins s σ H _ I h) λa s1⟨x,H1,I1,r1,q1⟩=>?_));refine wpAny_bind (wpAny_holding (bV (c pins s1 σ H1 _ I1 q1) λiv s2⟨y,H2,I2,r2,q2⟩=>?_));refine wpAny_bind (wpAny_standAt (wpAny_bind (wpAny_holding (bV (hs pins s2 σ H2 x y v a iv u _ I2 r1 r2 r q2) λ_ s3⟨f,I3,q3⟩=>?_))));exact wpAny_release ⟨σ,f,I3,q3⟩
def xu(te:TE)(g:TG):TS:=λD σ H=>te σ H λx a=>g x σ a D.nx
theorem Ja{e:Expr}{te:TE}{g:TG}(he:PE X e te)(a:PG X tg g)(hs:swapsWithSole [tg] e pos.line X.env=pure false:=by rfl)(b:swappedStores [tg] e X.env=pure none:=by rfl)(h1:(assignEach [tg] X.env).map (·.2)=[assign tg X.env]:=by rfl):PS X (.Assign [tg] e pos) (xu te g):=by intro pins s σ H D I h;refine wpAny_Assign_stores (bV (he pins s σ H _ I h) λv s1⟨x,H1,I1,r1,q1⟩=>?_) hs b;rw[h1];exact bV (a pins s1 σ H1 x v _ I1 r1 q1) λ_ s2 q=>q
theorem uc{x:Str}{e:Expr}{te:TE}{a:Pos}(b:X.N.Nodup)(c:X.N[i]?=some x)(f:Loc X.env.scope x)(he:PE X e te)(hs:swapsWith e (some (.Name x a)) pos.line X.env=pure false:=by rfl)(g:X.fn x=true\/X.env.scope.names.lookup x=some .local:=by first|exact .inl rfl|exact .inr rfl|assumption):PS X (.Assign [.Name x a] e pos) (xu te (fj i)):=by intro pins s σ H D I h;refine wpAny_Assign_Name (bV (he pins s σ H _ I h) λv s1⟨y,H1,I1,r1,q1⟩=>?_) hs;exact wy I1 b c f r1 (λs2 j=>⟨_,H1,j,q1⟩) g
def VD(to a te:TE)(b:V->V->Hp->VK->Prop)(c:ZM)(e:GX):TS:=λD σ H=>to σ H λo f=>a σ f λi g=>b o i g λx j=>te σ j λy k=>c x y k λz l=>e o i z l λm=>D.nx σ m
def W9(X:Cx)(t:V->V->Hp->VK->Prop):Prop:=∀(pins:List (Addr × Obj))(s:Shared)(σ:St)(H:Hp)(o i:V)(a iv:Value)(Q:VK),Inv X pins σ H s->RelV o a->RelV i iv->t o i H Q->wpAny (model X.prog X.w) X.A (getItem a iv) (EP X pins σ Q) X.xe s
theorem K6{o i e:Expr}{to g te:TE}{j:V->V->Hp->VK->Prop}{k:ZM}{l:GX}{op:Operator}{c:Pos}(ho:PE X o to)(p:PE X i g)(q:W9 X j)(he:PE X e te)(r:Z3 X op k)(hs:Tc X l)(t:∀b iv a,augStore i b iv a=(do holding [a,b,iv] (setItem b iv a);release [a,b,iv] [];pure .next):=by intros;rfl):PS X (.AugAssign (.Subscript o i c) op e pos) (VD to g te j k l):=by intro pins s σ H D I h;refine wpAny_AugAssign_SubscriptAny (bV (ho pins s σ H _ I h) λb s1⟨m,H1,I1,r1,q1⟩=>?_) t;refine bV (p pins s1 σ H1 _ I1 q1) λiv s2⟨n,H2,I2,r2,q2⟩=>?_;refine bV (q pins s2 σ H2 m n b iv _ I2 r1 r2 q2) λf s3⟨u,H3,I3,r3,q3⟩=>?_;refine bV (he pins s3 σ H3 _ I3 q3) λv s4⟨x,H4,I4,r4,q4⟩=>?_;refine bV (r pins s4 σ H4 u x f v _ I4 r3 r4 q4) λa s5⟨y,H5,I5,r5,q5⟩=>?_;exact bV (hs pins s5 σ H5 m n y b iv a _ I5 r1 r2 r5 q5) λ_ s6⟨B,I6,q6⟩=>⟨σ,B,I6,q6⟩
def ipI(f:Int->Int->Int):ZM:=λx y H Q=>∃i j,x=.int i/\y=.int j/\Q (.int (f i j)) H
theorem Rk:Z3 X .Add (ipI λi j=>i+j):=by intro pins s σ H x y v u Q I r1 a h;obtain⟨i,j,b,c,q⟩:=h;subst b;subst c;obtain⟨t,rfl⟩:=r1;obtain⟨t',rfl⟩:=a;exact iadd_int ⟨.int _,H,I.tok _,⟨_,rfl⟩,q⟩
end
section
variable{X:Cx}{pos:Pos}
def Ra(c:TT)(j:TS):TS:=λD σ H=>∃W:Nat->St->Hp->Prop,(∃m,W m σ H)/\∀m σ H,W m σ H->c σ H λb e=>if b=true then ∃N:St->Hp->Prop,(∀a f,N a f->∃g,g<m/\W g a f)/\j {D with nx:=N,ct:=N,bk:=D.nx} σ e else D.nx σ e
theorem HY{c:Expr}{body:List Stmt}{u:TT}{x:TS}(y:PassesOwn (model X.prog X.w) X.A X.env X.xe)(hc:PT X c u)(J:sH X body x):PS X (.While c body [] pos) (Ra u x):=by intro pins s σ H D I h;obtain⟨W,⟨m0,L⟩,g⟩:=h;refine wpAny_While (codeAny_whileLoop (λn O=>∃j B,Inv X pins j B O/\W n j B) ?_ m0 ⟨σ,H,I,L⟩);rintro n s1⟨e,C,Q,U⟩;refine wpAny_passesOwn y (bV (hc pins s1 e C _ Q (g n e C U)) λb s2⟨E,I2,l⟩=>?_);cases b with
 |true=>obtain⟨N,G,l⟩:=l;rw[if_pos rfl];refine wpAny_passesOwn y (bV (J pins s2 e E _ I2 l) λf s3 m=>?_);cases f with|next=>obtain⟨a,k,o,p⟩:=m;obtain⟨q,r,t⟩:=G a k p;exact⟨q,r,a,k,o,t⟩|cont=>obtain⟨a,k,o,p⟩:=m;obtain⟨q,r,t⟩:=G a k p;exact⟨q,r,a,k,o,t⟩|brk=>exact m|ret v=>exact m
 |false=>rw[if_neg Bool.false_ne_true];exact wpAny_execs_nil ⟨e,E,I2,l⟩
end
structure It where
 go:Nat->Hp->Prop
 JC:Nat->Hp->V->Hp->Prop
 stop:Nat->Hp->Prop
def ou(X:Cx)(pins:List (Addr×Obj))(H:Hp)(b:Addr):Prop:=H b=none/\b≠X.env.locals/\b∉X.fs/\(b∈X.ex\/X.s₀.heap.objs.size<=b)/\(∀x c,X.env.cells.lookup x=some c->c≠b)/\∀p∈X.pn++pins,p.1≠b
theorem Inv.Dw{σ:St}{f:Hp}{b:Addr}(I:Inv X pins σ H s)(a:s.heap.objs.size<=b)(g:f b=none):ou X pins f b:=by
 refine⟨g,ne_of_gt (lt_of_lt_of_le I.lt a),I.abL a,.inr (le_trans I.sz a),λx c e z=>?_,λp j z=>?_⟩;.obtain⟨v,q⟩:=I.cell x c e;exact absurd (lt_of_lt_of_le q.lt (by rw[z];exact a)) (lt_irrefl _)
 .exact absurd (lt_of_lt_of_le (lt_size (I.pin p j).1) (by rw[z];exact a)) (lt_irrefl _)
structure Turn(P:Program)(w:World)(K:PySem.W.Frag)(tg:Expr)(J:It)(fp:List Addr)(it:Addr)(tn:Nat->Heap->Prop):Prop where
 mem:it∈fp
 obj:∀i h,tn i h->∀b∈fp,∃o,h.get? b=some o/\∀v,o.data≠.cell v
 keep:∀i h h',tn i h->(∀b∈fp,∀o,h.get? b=some o->h'.get? b=some o)->tn i h'
 item:∀(X:Cx),X.prog=P->X.w=w->X.K=K->X.calm=true->∀(i:Nat)(pins:List (Addr×Obj))(s:Shared)(σ:St)(H:Hp)(E:Value->Shared->Prop),Inv X pins σ H s->(∀b∈fp,ou X pins H b)->tn i s.heap->J.go i H->wpAny (model P w) X.A (pyNext (.ref it)) (λr s1=>∃u,r=some u/\wpAny (model P w) X.A (letOwnedTupleGo tg (.ref it) u) (λ_ s2=>∃x H',Inv X pins σ H' s2/\RelV x u/\J.JC i H x H'/\tn (i+1) s2.heap/\∀b∈fp,H' b=none) E s1) E s
 done:∀(X:Cx),X.prog=P->X.w=w->X.K=K->X.calm=true->∀(i:Nat)(pins:List (Addr×Obj))(s:Shared)(σ:St)(H:Hp)(E:Value->Shared->Prop),Inv X pins σ H s->(∀b∈fp,ou X pins H b)->tn i s.heap->J.stop i H->wpAny (model P w) X.A (pyNext (.ref it)) (λr s1=>r=none/\Inv X pins σ H s1) E s
 self:∀(A:Around)(i:Nat)(s:Shared)(Q:Value->Shared->Prop)(E:Value->Shared->Prop),tn i s.heap->Q (.ref it) s->wpAny (model P w) A (pyIter (.ref it)) Q E s
abbrev TI:=St->Hp->(It->Hp->Prop)->Prop
def PIE(X:Cx)(pins:List (Addr×Obj))(σ:St)(tg:Expr)(R:It->Hp->Prop)(a:Value)(s2:Shared):Prop:=∃(e:Addr)(f:List Addr)(g:Nat->Heap->Prop)(J:It)(c:Hp),a=.ref e/\Inv X pins σ c s2/\Turn X.prog X.w X.K tg J f e g/\g 0 s2.heap/\(∀b∈f,ou X pins c b)/\R J c
def PI(X:Cx)(tg iter:Expr)(a:TI):Prop:=∀(pins:List (Addr × Obj))(s:Shared)(σ:St)(H:Hp)(R:It->Hp->Prop),Inv X pins σ H s->a σ H R->wpAny (model X.prog X.w) X.A (eval iter X.env) (λv s1=>wpAny (model X.prog X.w) X.A (pyIter v) (PIE X pins σ tg R) X.xe s1) X.xe s
theorem Ae{E:Value->Shared->Prop}{b:Addr}{u:Value}{o:Obj}{n:String}{vs:Array Value}{Q:Unit->Shared->Prop}(ho:s.heap.get? b=some o)(hc:o.cls=.type n)(hd:o.data=.fields vs)(c:["enumerate","zip","dict_itemiterator","dict_reverseitemiterator","odict_iterator","itertools.zip_longest","itertools.pairwise"].contains n=false)(a:Q () s):wpAny M A (letOwnedTupleGo tg (.ref b) u) Q E s:=by unfold letOwnedTupleGo;cases tg<;>first|exact wpAny_pure a|(cases u<;>first|exact wpAny_pure a|(refine wpAny_bind (wpAny_load ho ?_);rw[hc,hd];show wpAny M A (if(["enumerate","zip","dict_itemiterator","dict_reverseitemiterator","odict_iterator","itertools.zip_longest","itertools.pairwise"].contains n&&vs[0]?==some (rawInt _))=true then _ else _) Q E s;rw[if_neg (by intro h;rw[c,Bool.false_and]at h;cases h)];exact wpAny_pure a))
noncomputable def Sv(K:PySem.W.Frag)(a:Addr):It:=⟨λi H=>∃xs x,dg K H a xs/\xs[i]?=some x,λi H x b=>b=H/\∀xs,dg K H a xs->xs[i]?=some x,λi H=>∃xs,dg K H a xs/\xs.length<=i⟩
noncomputable def TX(K:PySem.W.Frag)(a:Addr):It:=⟨λi H=>∃xs x,dN K H a xs/\xs[i]?=some x,λi H x b=>b=H/\∀xs,dN K H a xs->xs[i]?=some x,λi H=>∃xs,dN K H a xs/\xs.length<=i⟩
noncomputable def U7(lo:Int)(n:Nat):It:=⟨λi _=>i<n,λi H x a=>a=H/\x=.int (lo+i),λi _=>n<=i⟩
theorem Ds{P:Program}(a f:Addr):Turn P w K tg (Sv K a) [f] f (λi h=>h.IsListIter f a i)where
 mem:=by simp
 obj:=λi h st b g=>by
  have e:b=f:=by simpa using g
  subst e;obtain⟨o,e,c,d⟩:=st;exact⟨o,e,λv z=>by rw[d]at z;cases z⟩
 keep:=λi h h' st k=>st.at λo e=>k f (by simp) o e;item:=by intro X n q r hc i pins s σ H E I l st t;subst n q r;obtain⟨xs,x,m,y⟩:=t;obtain⟨B,C,p,hz⟩:=I.list m;obtain⟨u,G,J⟩:=C.get y;obtain⟨f0,f1,f2,f3,f4,f5⟩:=l f (by simp);refine wpAny_pyNext_list_item st p.isList (x:=u) (by simpa using G) λh' j L=>?_;have N:Inv X pins σ H {s with heap:=h'}:=I.turned (t':=s.toks) (λb o g e=>(L.2 b g).trans e) f0 f1 f3 f4 f5;obtain⟨o,e,c,d⟩:=id j;exact⟨u,rfl,Ae (s:={s with heap:=h'}) e c d (by decide) ⟨x,H,N,J,⟨rfl,λys O=>by rw[I.ql O m];exact y⟩,j,λb g=>(l b g).1⟩⟩
 done:=by intro X n q r hc i pins s σ H E I l st t;subst n q r;obtain⟨xs,m,y⟩:=t;obtain⟨B,C,p,hz⟩:=I.list m;obtain⟨f0,f1,f2,f3,f4,f5⟩:=l f (by simp);have U:=C.length;exact wpAny_pyNext_list_end (I.ok.hd hc) st p.isList (by simp;omega) λh' Q=>⟨rfl,I.turned (t':=s.toks) (λb o g e=>Q b o g e) f0 f1 f3 f4 f5⟩
 self:=λ_ _ _ _ _ st h=>wpAny_pyIter_listiter st h
theorem yc{P:Program}(a f:Addr):Turn P w K tg (TX K a) [f] f (λi h=>h.IsTupleIter f a i)where
 mem:=by simp
 obj:=λi h st b g=>by
  have e:b=f:=by simpa using g
  subst e;obtain⟨o,e,c,d⟩:=st;exact⟨o,e,λv z=>by rw[d]at z;cases z⟩
 keep:=λi h h' st k=>st.at λo e=>k f (by simp) o e;item:=by intro X q r t hc i pins s σ H E I m st y;subst q r t;obtain⟨xs,x,n,B⟩:=y;obtain⟨j,C,p,hz⟩:=I.tuple n;obtain⟨u,G,J⟩:=C.get B;obtain⟨f0,f1,f2,f3,f4,f5⟩:=m f (by simp);refine wpAny_pyNext_tuple_item st (show s.heap.IsTuple a j.toArray from p) (x:=u) (by simpa using G) λh' l L=>?_;have N:Inv X pins σ H {s with heap:=h'}:=I.turned (t':=s.toks) (λb o g e=>(L.2 b g).trans e) f0 f1 f3 f4 f5;obtain⟨o,e,c,d⟩:=id l;exact⟨u,rfl,Ae (s:={s with heap:=h'}) e c d (by decide) ⟨x,H,N,J,⟨rfl,λys O=>by rw[I.mY O n];exact B⟩,l,λb g=>(m b g).1⟩⟩
 done:=by intro X q r t hc i pins s σ H E I m st y;subst q r t;obtain⟨xs,n,B⟩:=y;obtain⟨j,C,p,hz⟩:=I.tuple n;obtain⟨f0,f1,f2,f3,f4,f5⟩:=m f (by simp);have U:=C.length;exact wpAny_pyNext_tuple_end (I.ok.hd hc) st (show s.heap.IsTuple a j.toArray from p) (by simp;omega) λh' Q=>⟨rfl,I.turned (t':=s.toks) (λb o g e=>Q b o g e) f0 f1 f3 f4 f5⟩
 self:=λ_ _ _ _ _ st h=>wpAny_pyIter_tupleiter st h
theorem yS{P:Program}(a:Addr)(lo:Int)(n:Nat):Turn P w K tg (U7 lo n) [a] a (λi h=>IsRangeIter h a (lo+(i:Nat)*1) ((n:Int)-(i:Nat)) 1)where
 mem:=by simp
 obj:=λi h st b c=>by
  have e:b=a:=by simpa using c
  subst e;exact⟨_,st,λv z=>by have r:Data.fields _=Data.cell v:=z;cases r⟩
 keep:=λi h h' st k=>k a (by simp) _ st;item:=by intro X j l m hc i pins s σ H E I g st p;subst j l m;obtain⟨f0,f1,f2,f3,f4,f5⟩:=g a (by simp);have W:=Walks.range (prog:=X.prog) (w:=X.w) (I.ok.hd hc) a lo 1 n;refine W.item i s _ _ p st λv h' q u f x=>?_;obtain⟨t,rfl⟩:=u;have y:Inv X pins σ H {s with heap:=h',toks:=q}:=I.turned (λb o c e=>x b o (by simpa using c) e) f0 f1 f3 f4 f5;refine⟨_,rfl,Ae (s:={s with heap:=h',toks:=q}) (n:="range_iterator") f rfl rfl (by decide) ⟨.int (lo+i),H,y,⟨t,?_⟩,⟨rfl,rfl⟩,f,λb c=>(g b c).1⟩⟩;rw[Int.mul_one]
 done:=by intro X j l m hc i pins s σ H E I g st p;subst j l m;obtain⟨f0,f1,f2,f3,f4,f5⟩:=g a (by simp);exact wpAny_pyNext_range_end (I.ok.hd hc) st (by have:n<=i:=p;omega) λh' B=>⟨rfl,I.turned (t':=s.toks) (λb o c e=>B b o c e) f0 f1 f3 f4 f5⟩
 self:=λ_ _ _ _ _ st h=>wpAny_pyIter_rangeiter st h
section
variable{X:Cx}{tg:Expr}
theorem vq{σ:St}{R:It->Hp->Prop}{E:Value->Shared->Prop}{lo a:Int}{t u v:Tok}{c:Nat}(I:Inv X pins σ H s)(h1:-(2^62)<=lo)(g:lo<2^62)(j:-(2^62)<=a)(k:a<2^62)(q:R (U7 lo (a-lo).toNat) H):wpAny (model X.prog X.w) X.A (pyIter (.ref s.heap.objs.size)) (PIE X pins σ tg R) E {s with heap:=s.heap.push {cls:=.type "range",data:=.fields #[.int lo t,.int a u,.int 1 v]},toks:=c}:=by
 refine wpAny_pyIter_range (IsRange.new ..) (small_one h1 g j k) ?_;have f:Inv X pins σ H {s with heap:=s.heap.push {cls:=.type "range",data:=.fields #[.int lo t,.int a u,.int 1 v]},toks:=c}:=I.kept λb o e=>du e;refine⟨(s.heap.push {cls:=.type "range",data:=.fields #[.int lo t,.int a u,.int 1 v]}).objs.size,[(s.heap.push {cls:=.type "range",data:=.fields #[.int lo t,.int a u,.int 1 v]}).objs.size],_,_,H,rfl,f.kept (t':=c) λb o e=>du e,yS _ lo (a-lo).toNat,?_,λb l=>?_,q⟩
 . have m:lo+((0:Nat):Int)*1=lo:=by simp
   have n:(((a-lo).toNat:Nat):Int)-((0:Nat):Int)=Builtin.Range.rangeSize lo a 1:=by rw[rangeSize_one];split<;>omega
   show IsRangeIter _ _ (lo+((0:Nat):Int)*1) ((((a-lo).toNat:Nat):Int)-((0:Nat):Int)) 1;rw[m,n];exact get?_push_size _ rfl
 . have e:b=(s.heap.push {cls:=.type "range",data:=.fields #[.int lo t,.int a u,.int 1 v]}).objs.size:=by simpa using l
   subst e;exact f.Dw (cQ) (f.hok.fresh (cQ))
def W8(a:TA):TI:=λσ H R=>a σ H λvs b=>∃j:Int,vs=[.int j]/\-(2^62)<=j/\j<2^62/\R (U7 0 j.toNat) b
def Ww(a:TA):TI:=λσ H R=>a σ H λvs b=>∃i j:Int,vs=[.int i,.int j]/\(-(2^62)<=i/\i<2^62/\-(2^62)<=j/\j<2^62)/\R (U7 i (j-i).toNat) b
theorem sX{a:Expr}{c:TA}{p:Pos}(f:Gl X "range")(g:X.mg "range"=none)(k:PA X [a] c)(hs:starEach [a] X.env=[(false,eval a X.env)]:=by rfl):PI X tg (.Call (.Name "range" p) [a] [] pos) (W8 c):=by intro pins s σ H R I h;refine Call_ (jh I f g boot_range (PyProof.Rows.callWith_type1 (bV (k pos pins s σ H _ I h) λus s1⟨vs,H1,I1,r1,b⟩=>?_) hs rfl));obtain⟨j,e,b,l,q⟩:=b;subst e;cases r1 with|cons r m=>cases m;obtain⟨t,rfl⟩:=r;exact call_range_1 (vq I1 (by omega) (by omega) b l (by simpa using q))
theorem Dk{a b:Expr}{k:TA}{p:Pos}(l:Gl X "range")(m:X.mg "range"=none)(n:PA X [a,b] k)(hs:starEach [a,b] X.env=[(false,eval a X.env),(false,eval b X.env)]:=by rfl)(c:starEach [b] X.env=[(false,eval b X.env)]:=by rfl):PI X tg (.Call (.Name "range" p) [a,b] [] pos) (Ww k):=by intro pins s σ H R I h;refine Call_ (jh I l m boot_range (PyProof.Rows.callWith_type1 (bV (n pos pins s σ H _ I h) λus s1⟨vs,H1,I1,r1,f⟩=>?_) (by rw[hs,c]) (by rw[c];rfl)));obtain⟨i,j,e,⟨f,o,u,v⟩,q⟩:=f;subst e;cases r1 with|cons r g=>cases g with|cons x g=>cases g;obtain⟨t,rfl⟩:=r;obtain⟨t',rfl⟩:=x;exact call_range_2 (vq I1 f o u v q)
def acx(f:TI)(g:TG)(j:TS):TS:=λD σ H=>f σ H λJ k=>∃W:Nat->Nat->St->Hp->Prop,(∃m,W 0 m σ k)/\∀i m σ H,W i m σ H->(J.stop i H/\D.nx σ H)\/(J.go i H/\∃N:St->Hp->Prop,(∀a b,N a b->∃e,e<m/\W (i+1) e a b)/\∀x b,J.JC i H x b->g x σ b λc l=>j {D with nx:=N,ct:=N,bk:=D.nx} c l)
noncomputable def qJ(a:List Addr)(h:Heap):List (Addr×Obj):=a.filterMap λb=>(h.get? b).map λo=>(b,o)
theorem iI{a:List Addr}{b:Addr}{o:Obj}(c:b∈a)(e:h.get? b=some o):(b,o)∈qJ a h:=List.mem_filterMap.mpr ⟨b,c,by rw[e];rfl⟩
theorem Cw{a:List Addr}{p:Addr×Obj}(c:p∈qJ a h):p.1∈a/\h.get? p.1=some p.2:=by obtain⟨b,f,e⟩:=List.mem_filterMap.mp c;cases q:h.get? b with|none=>rw[q]at e;cases e|some o=>rw[q]at e;have g:(b,o)=p:=Option.some.inj e;subst g;exact⟨f,q⟩
theorem Inv.pinned{σ:St}{a:List Addr}(I:Inv X pins σ H s)(g:∀b∈a,ou X pins H b)(ho:∀b∈a,∃o,s.heap.get? b=some o/\∀v,o.data≠.cell v):Inv X (pins++qJ a s.heap) σ H s:=I.Ar λp j=>(mem_append.mp j).elim (λz=>I.pin p (mem_append_right _ z)) λz=>by obtain⟨c,e⟩:=Cw z;obtain⟨f0,f1,f2,_⟩:=g p.1 c;obtain⟨o,f,d⟩:=ho p.1 c;rw[e]at f;cases f;exact⟨e,f0,f1,f2,d⟩
theorem Inv.lQ{a:List (Addr×Obj)}{σ:St}(I:Inv X (pins++a) σ H s):Inv X pins σ H s:=I.Ar λp b=>I.pin p (mem_append_right _ (List.mem_append_left _ b))
theorem IV{iter:Expr}{body:List Stmt}{wi:TI}{g:TG}{tb:TS}(B:PassesOwn (model X.prog X.w) X.A X.env X.xe)(hc:X.calm=true)(hi:PI X tg iter wi)(hg:PG X tg g)(c:sH X body tb)(hs:∀x,foldedSetIterable iter X.env x=pure x:=by intro _;rfl):PS X (.For tg iter body [] pos) (acx wi g tb):=by
 intro pins s σ H D I h;refine wpAny_For (bV (hi pins s σ H _ I h) λv s1 h1=>bV h1 λac s2 h2=>?_) hs;obtain⟨it,C,tn,J,H2,e,I2,T,U,f2,W,⟨m0,w0⟩,E⟩:=h2;subst e--what stays true of the iterator's objects through the loop
 have j:∀{t:Hp},(∀b∈C,t b=none)->∀b∈C,ou X pins t b:=λhn b c=>⟨hn b c,(f2 b c).2⟩;refine codeAny_forLoop_any (λn s'=>∃i k t,Inv X pins k t s'/\tn i s'.heap/\(∀b∈C,t b=none)/\W i n k t) ?_ m0 ⟨0,σ,H2,I2,U,λb c=>(f2 b c).1,w0⟩;rintro n s3⟨i,l,Q,I3,G,L,w3⟩;rcases E i n l Q w3 with⟨stop,qn⟩|⟨go,N,hN,step⟩;.refine wpAny_passesOwn B (bV (T.done X rfl rfl rfl hc i pins s3 l Q X.xe I3 (j L) G stop) λr s4⟨hr,I4⟩=>?_);subst hr;exact wpAny_execs_nil ⟨l,Q,I4,qn⟩
 . refine wpAny_passesOwn B (bV (T.item X rfl rfl rfl hc i pins s3 l Q X.xe I3 (j L) G go) λr s4⟨u,hr,h4⟩=>?_);subst hr;refine wpAny_passesOwn B (bV h4 λ_ s5⟨x,H5,I5,r5,y5,MJ,fr5⟩=>?_);have Y:=I5.pinned (j fr5) (T.obj _ _ MJ);refine wpAny_passesOwn B (bV (hg _ s5 l H5 x u _ Y r5 (step x H5 y5)) λ_ s6⟨Z,H6,I6,q6⟩=>?_);refine wpAny_passesOwn B (bV (c _ s6 Z H6 _ I6 q6) λf s7 y=>?_);have again:∀{a:St}{p:Hp},Inv X (pins++qJ C s5.heap) a p s7->N a p->∃m,m<n/\∃i k t,Inv X pins k t s7/\tn i s7.heap/\(∀b∈C,t b=none)/\W i m k t:=λ{a p}q O=>by obtain⟨m',hm,w7⟩:=hN a p O;refine⟨m',hm,i+1,a,p,q.lQ,T.keep _ _ _ MJ λb c o e=>(q.pin (b,o) (mem_append_right _ (mem_append_right _ (iI c e)))).1,λb c=>?_,w7⟩;obtain⟨o,e,d⟩:=T.obj _ _ MJ b c;exact(q.pin (b,o) (mem_append_right _ (mem_append_right _ (iI c e)))).2.1
   cases f with|next=>obtain⟨a,p,q,O⟩:=y;exact again q O|cont=>obtain⟨a,p,q,O⟩:=y;exact again q O|brk=>obtain⟨a,p,q,y⟩:=y;exact⟨a,p,q.lQ,y⟩|ret v=>obtain⟨x7,a,p,q,r7,y⟩:=y;exact⟨x7,a,p,q.lQ,r7,y⟩
end
abbrev R2:=V->V->Hp->VK->Prop
def gk(X:Cx)(f:Value->Value->Sem Value)(r:R2):Prop:=∀(pins:List (Addr × Obj))(s:Shared)(σ:St)(H:Hp)(x y:V)(v u:Value)(Q:VK),Inv X pins σ H s->RelV x v->RelV y u->r x y H Q->wpAny (model X.prog X.w) X.A (f v u) (EP X pins σ Q) X.xe s
def UnR(X:Cx)(f:Value->Sem Value)(r:V->Hp->VK->Prop):Prop:=∀(pins:List (Addr × Obj))(s:Shared)(σ:St)(H:Hp)(x:V)(v:Value)(Q:VK),Inv X pins σ H s->RelV x v->r x H Q->wpAny (model X.prog X.w) X.A (f v) (EP X pins σ Q) X.xe s
def dH(X:Cx)(f:Value)(r:List V->Hp->VK->Prop):Prop:=∀(pins:List (Addr × Obj))(s:Shared)(σ:St)(H:Hp)(xs:List V)(us:List Value)(Q:VK),Inv X pins σ H s->Vals xs us->r xs H Q->wpAny (model X.prog X.w) X.A (call f us) (EP X pins σ Q) X.xe s
def nQ(r:R2)(a b:TE):TE:=λσ H Q=>a σ H λx c=>b σ c λy e=>r x y e Q
def tUn(r:V->Hp->VK->Prop)(a:TE):TE:=λσ H Q=>a σ H λx b=>r x b Q
def rI(C:Int->Int->Prop)(g:Int->Int->V):R2:=λx y H Q=>∃i j,x=.int i/\y=.int j/\C i j/\Q (g i j) H
def JT(g:Int->Int->V):R2:=λx y H Q=>∃i j,x=.int i/\y=.int j/\Q (g i j) H
def rU(g:Int->V):V->Hp->VK->Prop:=λx H Q=>∃i,x=.int i/\Q (g i) H
section
variable{X:Cx}{a b c:Expr}{ta tb tc:TE}{pos:Pos}
theorem RN(l:PE X a ta)(m:PE X b tb){σ:St}{R:V->V->Hp->Prop}(I:Inv X pins σ H s)(h:ta σ H λx k=>tb σ k λy e=>R x y e){Q:Value->Shared->Prop}{f:Value->Value->Sem Value}(n:∀v u s2 x y e,Inv X pins σ e s2->RelV x v->RelV y u->R x y e->wpAny (model X.prog X.w) X.A (f v u) Q X.xe s2):wpAny (model X.prog X.w) X.A (eval a X.env) (λv g=>wpAny (model X.prog X.w) X.A (eval b X.env) (λu j=>wpAny (model X.prog X.w) X.A (f v u) Q X.xe j) X.xe g) X.xe s:=by refine bV (l pins s σ H _ I h) λv s1⟨x,k,I1,r1,q1⟩=>?_;refine bV (m pins s1 σ k _ I1 q1) λu s2⟨y,e,I2,r2,q2⟩=>?_;exact n v u s2 x y e I2 r1 r2 q2
theorem WD{op:Operator}{r:R2}(ho:gk X (binaryOp op) r)(e:PE X a ta)(f:PE X b tb):PE X (.BinOp a op b pos) (nQ r ta tb):=by intro pins s σ H Q I h;exact wpAny_BinOp (RN e f I h λv u s2 x y g j k l q=>ho pins s2 σ g x y v u Q j k l q)
theorem Xf{op:UnaryOp}{r:V->Hp->VK->Prop}(ho:UnR X (unaryOp op) r)(e:PE X a ta):PE X (.UnaryOp op a pos) (tUn r ta):=by intro pins s σ H Q I h;exact UnaryOp_ (bV (e pins s σ H _ I h) λv s1⟨x,H1,I1,r1,q1⟩=>ho pins s1 σ H1 x v Q I1 r1 q1)
theorem opI{f:Value->Value->Sem Value}{C:Int->Int->Prop}{g:Int->Int->Int}(rule:∀(i j:Int)(t u:Tok)(s:Shared)(Q:Value->Shared->Prop)(E:Value->Shared->Prop),C i j->Q (.int (g i j) s.toks) {s with toks:=s.toks+1}->wpAny (model X.prog X.w) X.A (f (.int i t) (.int j u)) Q E s):gk X f (rI C λi j=>.int (g i j)):=by intro pins s σ H x y v u Q I e k h;obtain⟨i,j,rfl,rfl,hc,q⟩:=h;obtain⟨t,rfl⟩:=e;obtain⟨t',rfl⟩:=k;exact rule i j t t' s _ _ hc ⟨.int (g i j),H,I.tok _,⟨_,rfl⟩,q⟩
theorem Xa{f:Value->Value->Sem Value}{g:Int->Int->Int}(rule:∀(i j:Int)(t u:Tok)(s:Shared)(Q:Value->Shared->Prop)(E:Value->Shared->Prop),Q (.int (g i j) s.toks) {s with toks:=s.toks+1}->wpAny (model X.prog X.w) X.A (f (.int i t) (.int j u)) Q E s):gk X f (JT λi j=>.int (g i j)):=by intro pins s σ H x y v u Q I e k h;obtain⟨i,j,rfl,rfl,q⟩:=h;obtain⟨t,rfl⟩:=e;obtain⟨t',rfl⟩:=k;exact rule i j t t' s _ _ ⟨.int (g i j),H,I.tok _,⟨_,rfl⟩,q⟩
theorem S8{f:Value->Value->Sem Value}{g:Int->Int->Bool}(rule:∀(i j:Int)(t u:Tok)(s:Shared)(Q:Value->Shared->Prop)(E:Value->Shared->Prop),Q (.bool (g i j)) s->wpAny (model X.prog X.w) X.A (f (.int i t) (.int j u)) Q E s):gk X f (JT λi j=>.bl (g i j)):=by intro pins s σ H x y v u Q I e k h;obtain⟨i,j,rfl,rfl,q⟩:=h;obtain⟨t,rfl⟩:=e;obtain⟨t',rfl⟩:=k;exact rule i j t t' s _ _ ⟨.bl (g i j),H,I,rfl,q⟩
def abK(i j:Int):Prop:=0<=j/\j<=1000000/\i.natAbs<2^64
def Ro(i j:Int):Prop:=(-(2^64)<i/\i<2^64)\/(-(2^64)<j/\j<2^64)
theorem Ro.ok{i j:Int}(h:Ro i j):IntMulOk i j:=by
 rcases h with⟨h1,e⟩|⟨h1,e⟩;.exact .of_left (intBits_le_64 h1 e)
 .exact .of_right (intBits_le_64 h1 e)
theorem Rt:gk X (binaryOp .Add) (JT λi j=>.int (i+j)):=Xa λ_ _ _ _ _ _ _ q=>add_int q
theorem Rq:gk X (binaryOp .Sub) (JT λi j=>.int (i-j)):=Xa λ_ _ _ _ _ _ _ q=>sub_int q
theorem RW:gk X (binaryOp .Mult) (rI Ro λi j=>.int (i*j)):=opI λ_ _ _ _ _ _ _ hc q=>mul_int q hc.ok
theorem R6:gk X (binaryOp .Mod) (rI (λ_ j=>0<j) λi j=>.int (i%j)):=opI λi j _ _ _ _ _ hc q=>by have h1:(0:Int)<j:=hc;exact mod_int' (by omega) (by rw[Int.fmod_eq_emod_of_nonneg i (by omega)];exact q)
theorem Qs:gk X (binaryOp .Pow) (rI abK λi j=>.int (i^j.toNat)):=opI λ_ _ _ _ _ _ _ hc q=>pow_int_small hc.1 hc.2.1 hc.2.2 q
theorem unI{f:Value->Sem Value}{g:Int->Int}(rule:∀(i:Int)(t:Tok)(s:Shared)(Q:Value->Shared->Prop)(E:Value->Shared->Prop),Q (.int (g i) s.toks) {s with toks:=s.toks+1}->wpAny (model X.prog X.w) X.A (f (.int i t)) Q E s):UnR X f (rU λi=>.int (g i)):=by intro pins s σ H x v Q I e h;obtain⟨i,rfl,q⟩:=h;obtain⟨t,rfl⟩:=e;exact rule i t s _ _ ⟨.int (g i),H,I.tok _,⟨_,rfl⟩,q⟩
theorem PK:UnR X (unaryOp .USub) (rU λi=>.int (-i)):=unI λ_ _ _ _ _ q=>neg_int q
end
section
variable{X:Cx}{a b c:Expr}{ta tb tc:TE}{pos:Pos}
theorem QM{σ:St}{Q:VK}{k f:Bool}(I:Inv X pins σ H s)(q:Q (.bl k) H)(e:k=f):EP X pins σ Q (.bool f) s:=by subst e;exact⟨.bl k,H,I,rfl,q⟩
theorem V7:gk X (compareOp .Lt) (JT λi j=>.bl (decide (i<j))):=S8 λ_ _ _ _ _ _ _ q=>lt_int q
theorem Wo:gk X (compareOp .Gt) (JT λi j=>.bl (decide (j<i))):=S8 λ_ _ _ _ _ _ _ q=>gt_int q
theorem VJ:gk X (compareOp .GtE) (JT λi j=>.bl (decide (j<=i))):=S8 λ_ _ _ _ _ _ _ q=>ge_int q
theorem Mq:gk X (compareOp .IsNot) (λx y H Q=>y=.non/\Q (.bl (!decide (x=.non))) H):=by intro pins s σ H x y v u Q I e f h;obtain⟨rfl,q⟩:=h;cases f;refine isnot_none_gen (QM I q ?_);cases x<;>first|(cases e;rfl)|(obtain⟨t,rfl⟩:=e;rfl)
theorem aa9{op:CmpOp}{es:List Expr}{k:Nat}{p:Pos}(e:(op==CmpOp.In)=false)(f:(op==CmpOp.NotIn)=false):behindInMarks op (.Set es k p)=false:=by show(k==0&&(op==CmpOp.In||op==CmpOp.NotIn)&&_)=false;rw[e,f];cases(k==0)<;>rfl
theorem bM(b:Expr)(h:op≠.In:=by decide)(e:op≠.NotIn:=by decide):behindInMarks op b=false:=by
 have f:(op==CmpOp.In)=false:=by cases op<;>first|rfl|exact absurd rfl h
 have g:(op==CmpOp.NotIn)=false:=by cases op<;>first|rfl|exact absurd rfl e
 cases b<;>first|rfl|exact aa9 f g
theorem J3{r:R2}(ho:gk X (compareOp op) r)(e:PE X a ta)(f:PE X b tb)(g:behindInMarks op b=false):PE X (.Compare a [op] [b] pos) (nQ r ta tb):=by intro pins s σ H Q I h;exact wpAny_Compare1 (RN e f I h λv u s2 x y j k l m q=>ho pins s2 σ j x y v u Q k l m q) g
def Wg(t:TE):TT:=λσ H Q=>t σ H λx e=>∃k,x=.bl k/\Q k e
theorem Bq{r:R2}(ho:gk X (compareOp op) r)(f:PE X a ta)(g:PE X b tb)(j:behindInMarks op b=false):PT X (.Compare a [op] [b] pos) (Wg (nQ r ta tb)):=by intro pins s σ H Q I h;refine wpAny_isTrue_Compare1 (bV (f pins s σ H _ I h) λv s1⟨x,H1,I1,r1,q1⟩=>bV (g pins s1 σ H1 _ I1 q1) λu s2⟨y,H2,I2,r2,q2⟩=>bV (ho pins s2 σ H2 x y v u _ I2 r1 r2 q2) λc s3⟨z,H3,I3,r3,k,e,q3⟩=>?_) j;subst e;cases r3;exact wpAny_truthy_bool ⟨H3,I3,q3⟩
theorem qj:(sizeLine:Nat)<2^63:=by rw[sizeLine_eq];decide
theorem ym:gk X (binaryOp .Add) (λx y H Q=>∃i j,x=.str i/\y=.str j/\i.length+j.length<=sizeLine/\Q (.str (i++j)) H):=by intro pins s σ H x y v u Q I e f h;obtain⟨i,j,rfl,rfl,hz,q⟩:=h;obtain⟨t,rfl⟩:=e;obtain⟨t',rfl⟩:=f;exact add_str (λt' g=>⟨.str (i++j),H,I.tok _,⟨_,rfl⟩,q⟩) hz
theorem vals1{x:V}(r:Vals [x] us):∃u,us=[u]/\RelV x u:=by cases r with|cons r1 e=>cases e;exact⟨_,rfl,r1⟩
theorem vals2{x y:V}(r:Vals [x,y] us):∃u e,us=[u,e]/\RelV x u/\RelV y e:=by cases r with|cons r1 f=>cases f with|cons g j=>cases j;exact⟨_,_,rfl,r1,g⟩
theorem Dn(hc:X.calm=true):dH X (.builtin "max") (λxs H Q=>∃i j,xs=[.int i,.int j]/\Q (.int (if j>i then j else i)) H):=by
 intro pins s σ H xs us Q I r h;obtain⟨i,j,rfl,q⟩:=h;obtain⟨u,f,rfl,⟨t,rfl⟩,⟨t',rfl⟩⟩:=vals2 r;refine max_two_ints (I.ok.hd hc) λh' g k=>⟨_,H,I.kept k,?_,q⟩;by_cases e:j>i;.rw[if_pos e,if_pos e];exact⟨_,rfl⟩
 .rw[if_neg e,if_neg e];exact⟨_,rfl⟩
end
theorem qZ.some_of{v:V}{o:Option Value}(r:qZ (some v) o):∃u,o=some u/\RelV v u:=by cases o with|none=>exact(show False from r).elim|some u=>exact⟨u,rfl,r⟩
structure iU(k:Nat)(A:Around):Prop where
 hd:A.handled=none
 dp:A.depth+3*k+5<recursionLimit
 un:A.units+16*k+200<cLine
theorem iU.deeper{k:Nat}{A:Around}(r:iU (k+1) A)(env:Env):iU k (A.deeper env):=⟨r.hd,by have:=r.dp;show A.depth+1+3*k+5<_;omega,by have:=r.un;show A.units+3+16*k+200<_;omega⟩
theorem iU.depth{k:Nat}{A:Around}(r:iU k A):A.depth<recursionLimit:=by have:=r.dp;omega
def jY:TA:=λ_ H Q=>Q [] H
def cI(a:TE)(b:TA):TA:=λσ H Q=>a σ H λx c=>b σ c λxs e=>Q (x::xs) e
section
variable{X:Cx}{e:Expr}{es:List Expr}{te:TE}{t:TA}{pos:Pos}
theorem cH:PA X [] jY:=λ_ _ _ _ H Q I h=>Calls.spliced_nil ⟨[],H,I,.nil,h⟩
theorem aX(a:PE X e te)(hr:PA X es t)(hs:starEach (e::es) X.env=(false,eval e X.env)::starEach es X.env:=by rfl):PA X (e::es) (cI te t):=by intro pos pins s σ H Q I h;rw[hs];show wpAny _ _ (spliced ((false,eval e X.env)::backTo pos (starEach es X.env))) _ _ s;refine Calls.spliced_cons (bV (a pins s σ H _ I h) λu s1⟨x,H1,I1,r1,q1⟩=>?_);exact bV (hr pos pins s1 σ H1 _ I1 q1) λus s2⟨xs,H2,I2,r2,q2⟩=>⟨x::xs,H2,I2,.cons r1 r2,q2⟩
def Lq(t:TA):TE:=λσ H Q=>t σ H λxs a=>xs.length<=sizeLine/\∀p,a p=none->Q (.ref p) (upd a p (.tup xs))
def aaP(t:TA):TE:=λσ H Q=>t σ H λxs a=>xs.length<=sizeLine/\∀p,a p=none->Q (.ref p) (upd a p (.lst xs))
theorem HB{x1}(h:PA X es t):PE X (.Tuple es x1 pos) (Lq t):=by intro pins s σ H Q I a;refine wpAny_Tuple_spliced (bV (h pos pins s σ H _ I a) λus s1⟨xs,H1,I1,r,z,q⟩=>⟨by rw[<-r.length];exact z,?_⟩);have c:H1 s1.heap.objs.size=none:=I1.hok.fresh (cQ);refine⟨.ref s1.heap.objs.size,upd H1 s1.heap.objs.size (.tup xs),I1.laid (t':=s1.toks) (λb u e=>du e) (cQ) ?_,rfl,q _ c⟩;exact⟨z,us,r,⟨_,get?_push_size _ rfl,rfl,_,rfl⟩⟩
theorem Pa(h:PA X es t):PE X (.List es pos) (aaP t):=by intro pins s σ H Q I a;refine wpAny_List_spliced (bV (h pos pins s σ H _ I a) λus s1⟨xs,H1,I1,r,z,q⟩=>⟨by rw[<-r.length];exact z,?_⟩);have c:H1 s1.heap.objs.size=none:=I1.hok.fresh (cQ);refine⟨.ref s1.heap.objs.size,upd H1 s1.heap.objs.size (.lst xs),I1.laid (t':=s1.toks) (λb u e=>du e) (cQ) ?_,rfl,q _ c⟩;exact⟨z,us,0,r,get?_push_size _ rfl⟩
end
abbrev Sp:=List V->Hp->VK->XK->Prop
abbrev Hg:=List Env->Hp->Shared->XK->Value->Shared->Prop
structure K7(P:Program)(w:World)(K:PySem.W.Frag)(mg:Str->Option Value)(base:Heap)(A:Around)(outer:List Env)(s:Shared)(H:Hp):Prop where
 frames:A.frames=some outer
 mod:Mod K mg base
 bs:∀b o,base.get? b=some o->s.heap.get? b=some o/\H b=none
 Ou:base.objs.size<=s.heap.objs.size
 pK:s.heap.FunFrames base outer
 Vf:∀b∈frs outer,H b=none
 hok:mJ P w H s.heap
 bare:AllBare s.gens
def CE(outer:List Env)(P:Program)(w:World)(H:Hp)(s:Shared)(Q:VK)(u:Value)(a:Shared):Prop:=∃v b,a.os=s.os/\AllBare a.gens/\Un (frs outer) [] H b s.heap a.heap/\mJ P w b a.heap/\RelV v u/\Q v b
def CR(CX:Hg)(outer:List Env)(P:Program)(w:World)(H:Hp)(s:Shared)(Q:VK)(E:XK)(r:Result)(a:Shared):Prop:=match r with|.ok (.ret u)=>CE outer P w H s Q u a|.ok _=>False|.error e=>CX outer H s E e a
structure m6(P:Program)(w:World)(K:PySem.W.Frag)(mg:Str->Option Value)(base:Heap)(CX:Hg)(k:Nat)(f:Addr)(fd:FuncData)(ps:List Str)(sp:Sp):Prop where
 len:∀vs H Q E,sp vs H Q E->vs.length=ps.length
 run:∀(A:Around)(outer:List Env)(s:Shared)(H:Hp)(args:Args)(us:List Value)(vs:List V)(Q:VK)(E:XK),iU k A->K7 P w K mg base A outer s H->BindsTo s fd args (ps.zip us)->Vals vs us->sp vs H Q E->codeAny (model P w) A (.call (.ref f) args) (CR CX outer P w H s Q E) s
section
variable{X:Cx}{pins:List (Addr×Obj)}{σ:St}{H:Hp}{s s':Shared}
theorem Inv.env0(I:Inv X pins σ H s):K7 X.prog X.w X.K X.mg X.base X.A X.stack s H:=⟨I.ok.frames,I.ok.mod,I.bs,le_trans I.ok.Ou I.sz,I.stack,I.zR,I.hok,I.bare⟩
theorem Inv.after{Q:VK}{u:Value}(I:Inv X pins σ H s)(h:CE X.stack X.prog X.w H s Q u s'):EP X pins σ Q u s':=by obtain⟨v,c,os,bare,un,hok,r,q⟩:=h;obtain⟨e,g,d,t,a⟩:=s';obtain rfl:a=s.os:=os;exact⟨v,c,I.call (h':=e) (g':=g) (d':=d) (t':=t) (ch:=[]) un hok bare (λb z=>absurd z (by simp)),r,q⟩
end
def vM(sp:Sp)(a:List V)(E:XK)(t:TA):TE:=λσ H Q=>t σ H λvs b=>sp (vs++a) b Q E
def Binds(K:PySem.W.Frag)(fd:FuncData)(ps:List Str)(ds:List Value):Prop:=∀(s:Shared)(us:List Value),K.In s.heap->(us++ds).length=ps.length->BindsTo s fd ⟨us,[]⟩ (ps.zip (us++ds))
theorem Binds.all{fd:FuncData}{ps:List Str}(h:∀us:List Value,us.length=ps.length->bindArgs fd ⟨us,[]⟩=pure (ps.zip us)):Binds K fd ps []:=λs us _ a=>by rw[append_nil]at a ⊢;exact .of_eq (h us a)
def Passes(CX:Hg)(X:Cx)(E:XK):Prop:=∀(pins:List (Addr×Obj))(σ:St)(H:Hp)(s:Shared)(e:Value)(a:Shared),Inv X pins σ H s->CX X.stack H s E e a->X.xe e a
section
variable{X:Cx}{CX:Hg}{k:Nat}{f C:Addr}{fd:FuncData}{ps:List Str}{sp:Sp}{Ox:List V}{ds:List Value}{E:XK}{x m:Str}{p pos apos:Pos}{e o:Expr}{es:List Expr}{ta:TE}{t:TA}
theorem Q7{σ:St}{Q:VK}{vs:List V}(F:m6 X.prog X.w X.K X.mg X.base CX k f fd ps sp)(hr:iU k X.A)(c:Binds X.K fd ps ds)(hd:Vals Ox ds)(g:Passes CX X E)(I:Inv X pins σ H s)(r:Vals vs us)(h:sp (vs++Ox) H Q E):wpAny (model X.prog X.w) X.A (call (.ref f) us) (EP X pins σ Q) X.xe s:=by
 have b:Vals (vs++Ox) (us++ds):=r.append hd;have j:(us++ds).length=ps.length:=by rw[<-b.length];exact F.len _ _ _ _ h
 refine wpAny_call (codeAny_mono (F.run X.A X.stack s H ⟨us,[]⟩ (us++ds) (vs++Ox) Q E hr I.env0 (c s us I.SJ j) b h) λr l a=>?_);cases r with|error e=>exact g pins σ H s e l I a|ok fl=>cases fl with|ret u=>exact I.after a|next=>exact False.elim a|brk=>exact False.elim a|cont=>exact False.elim a
theorem uI(F:m6 X.prog X.w X.K X.mg X.base CX k f fd ps sp)(hr:iU k X.A)(b:Gl X x)(c:X.mg x=some (.ref f))(g:keepIn X.K (.ref f)=true)(j:Binds X.K fd ps ds)(hd:Vals Ox ds)(l:Passes CX X E)(n:PA X (e::es) t)(a:(x==("__debug__":Str))=false:=by decide)(he:starEach (e::es) X.env=(false,eval e X.env)::starEach es X.env:=by rfl)(hpl:(backTo pos (starEach es X.env)).any (·.1)=false:=by rfl):PE X (.Call (.Name x p) (e::es) [] pos) (vM sp Ox E t):=by intro pins s σ H Q I h;refine wpAny_Call_Name_kw (Kc I b c ?_ a);refine PySem.W.callWith_K (h₀:=X.base) I.ok.mod.qW g (bV (n pos pins s σ H _ I h) λus s1⟨vs,H1,I1,r,q⟩=>⟨I1.SJ,?_⟩) he hpl;exact Q7 F hr j hd l I1 r q
end
structure aK(N P:List Str)(sc:Scope):Prop where
 kind:sc.kind=.function
 co:sc.isCoroutine=false
 gen:sc.isGenerator=false
 nd:N.Nodup
 pre:N.take P.length=P
 par:∀x∈P,sc.names.lookup x=some .local\/sc.names.lookup x=some .cell
 Te:∀y∈sc.names,y.2≠.free
theorem rJ{kindOf:Str->Option NameKind}{x:Str}:∀{binds:List (Str×Value)}{m:Str->Option Value},(∀v,(x,v)∉binds)->bindL kindOf binds m x=m x
 |[],_,_=>rfl|(n,v)::r,m,h=>by
   unfold bindL;rw[rJ λw a=>h w (mem_cons_of_mem _ a)];split
   . have:x≠n:=by rintro rfl;exact h v mem_cons_self
     simp[this]
   .rfl
theorem sZ{kindOf:Str->Option NameKind}{x:Str}:∀{binds:List (Str×Value)}{m:Str->Option Value},(∀v,(x,v)∉binds)->bindC kindOf binds m x=m x
 |[],_,_=>rfl|(n,v)::r,m,h=>by
   unfold bindC;rw[sZ λw a=>h w (mem_cons_of_mem _ a)];split;.rfl
   . have:x≠n:=by rintro rfl;exact h v mem_cons_self
     simp[this]
theorem rW{kindOf:Str->Option NameKind}{x:Str}{v:Value}:∀{P:List Str}{vs:List Value}{i:Nat}{m:Str->Option Value},P.Nodup->P[i]?=some x->vs[i]?=some v->kindOf x=some .local->bindL kindOf (P.zip vs) m x=some v|[],_,_,_,_,h,_,_=>by simp at h|_::_,[],_,_,_,_,h,_=>by simp at h|p::P,w::vs,0,m,nd,h1,a,b=>by simp at h1 a;subst h1;subst a;show bindL kindOf ((p,w)::P.zip vs) m p=_;unfold bindL;rw[rJ λv c=>(nodup_cons.mp nd).1 (of_mem_zip c).1,if_pos b];simp|p::P,w::vs,i+1,m,nd,h1,a,b=>by show bindL kindOf ((p,w)::P.zip vs) m x=_;unfold bindL;exact rW (i:=i) (nodup_cons.mp nd).2 (by simpa using h1) (by simpa using a) b
theorem sV{kindOf:Str->Option NameKind}{x:Str}{v:Value}:∀{P:List Str}{vs:List Value}{i:Nat}{m:Str->Option Value},P.Nodup->P[i]?=some x->vs[i]?=some v->kindOf x≠some .local->bindC kindOf (P.zip vs) m x=some v|[],_,_,_,_,h,_,_=>by simp at h|_::_,[],_,_,_,_,h,_=>by simp at h|p::P,w::vs,0,m,nd,h1,a,b=>by simp at h1 a;subst h1;subst a;show bindC kindOf ((p,w)::P.zip vs) m p=_;unfold bindC;rw[sZ λv c=>(nodup_cons.mp nd).1 (of_mem_zip c).1,if_neg b];simp|p::P,w::vs,i+1,m,nd,h1,a,b=>by show bindC kindOf ((p,w)::P.zip vs) m x=_;unfold bindC;exact sV (i:=i) (nodup_cons.mp nd).2 (by simpa using h1) (by simpa using a) b
noncomputable def start(N:List Str)(vs:List V):St:=vs.map some++replicate (N.length-vs.length) none
noncomputable def yG(CX:Hg)(P:Program)(w:World)(K:PySem.W.Frag)(mg:Str->Option Value)(base:Heap)(N:List Str)(qual:Str)(scope:Scope)(f:Addr)(b:Value)(A:Around)(outer:List Env)(s:Shared)(H:Hp)(E:XK):Cx where prog:=P;w:=w;K:=K;mg:=mg;base:=base;A:=A.deeper (envOfC qual scope s.heap.objs.size f b);N:=N;s₀:=s;H₀:=H;env:=envOfC qual scope s.heap.objs.size f b;outer:=outer;stack:=envOfC qual scope s.heap.objs.size f b::outer;ex:=[];calm:=true;fn:=λ_=>true;pn:=[];xe:=λe c=>wpAny (model P w) (A.deeper (envOfC qual scope s.heap.objs.size f b)) (leaving (envOfC qual scope s.heap.objs.size f b) e) (λ_ a=>CX outer H s E e a) (λg a=>CX outer H s E g a) c
theorem wZ{a:Scope}{n:Nat}{x:Str}(h:a.names.lookup x=some .cell):∃c,(cellsFrom n a.names []).lookup x=some c:=by have q:=PySem.W.cellsFrom_some a.names n [] (.inl h);exact Option.isSome_iff_exists.mp q
theorem Ce{CX:Hg}{P:Program}{mg:Str->Option Value}{base:Heap}{N ps:List Str}{qual:Str}{scope:Scope}{f:Addr}{o:Value}{outer:List Env}{s1:Shared}{E:XK}{vs:List V}(S:aK N ps scope)(hd:A.handled=none)(j:K7 P w K mg base A outer s H)(L:vs.length=ps.length)(r:Vals vs us)(x:InCallC s s.heap.objs.size (bindL (envOfC qual scope s.heap.objs.size f o).kindOf (ps.zip us) λ_=>none) (cellsFrom (s.heap.objs.size+1) scope.names []) (bindC (envOfC qual scope s.heap.objs.size f o).kindOf (ps.zip us) λ_=>none) s1):Inv (yG CX P w K mg base N qual scope f o A outer s H E) [] (start N vs) H s1:=by
 have hpl:ps.length<=N.length:=by have:=congrArg List.length S.pre;rw[length_take]at this;omega
 obtain⟨h1,O,rfl,C⟩:=x.done;have B:∀b:Addr,b∉(yG CX P w K mg base N qual scope f o A outer s H E).ex:=λb z=>absurd (show b∈([]:List Addr)from z) (by simp);refine⟨⟨j.mod,S.kind,rfl,rfl,cQ,λy z c h1 g=>?_,λy hy=>?_,λy c _ h=>?_,λ_=>hd,Around.frames_deeper j.frames,.inr ⟨rfl,rfl⟩,λb z=>absurd z (B b),j.bs,j.Ou,λb _ _=>B b,λb z=>absurd z (B b),j.pK,j.Vf⟩,rfl,j.bare,Un.kept C,⟨_,x.toInCall.ns,λi y v h1 g Q=>?_⟩,λy c h=>⟨_,x.cell y c h⟩,j.hok.fresh (cQ),λy c h=>?_,λp l=>absurd (show p∈([]:List (Addr×Obj))from l) (by simp),j.hok.kept C,?_⟩;.exact name_of_addr x.apart (PySem.mem_of_lookup h1) (PySem.mem_of_lookup g)
 . have hy:scope.names.lookup y=some .cell\/scope.names.lookup y=some .free:=hy;rcases hy with hy|hy;.exact wZ hy
   .exact absurd rfl (S.Te _ (PySem.mem_of_lookup hy))
 .exact le_of_lt (x.above y c (PySem.mem_of_lookup h))
 . have t:i<vs.length:=by
    unfold start at g;by_cases t:i<vs.length;.exact t
    .rw[getElem?_append_right (by simpa using t)]at g;rw[List.getElem?_replicate]at g;split at g<;>cases g
   have I:vs[i]?=some v:=by unfold start at g;rw[getElem?_append_left (by simpa using t),getElem?_map]at g;cases e:vs[i]?with|none=>rw[e]at g;cases g|some a=>rw[e]at g;cases g;rfl
   obtain⟨u,G,J⟩:=r.get I;have l:ps[i]?=some y:=by rw[<-S.pre,List.getElem?_take_of_lt (by omega)];exact h1
   have m:ps.Nodup:=by rw[<-S.pre];exact S.nd.sublist (List.take_sublist _ _)
   refine⟨u,J,?_⟩;rcases S.par y (mem_of_getElem? l)with k|k;.exact .inl ⟨k,rW m l G k⟩
   .obtain⟨c,e⟩:=wZ (n:=s.heap.objs.size+1) k;refine .inr ⟨.inl k,c,e,?_⟩;have q:=x.cell y c e;rw[sV m l G (by show scope.names.lookup y≠_;rw[k];decide)]at q;exact q
 .exact j.hok.fresh (le_of_lt (x.above y c (PySem.mem_of_lookup h)))
 .unfold start;show _=N.length;rw[length_append,length_map,List.length_replicate];omega
theorem WX{CX:Hg}{P:Program}{w:World}{K:PySem.W.Frag}{mg:Str->Option Value}{base:Heap}{k:Nat}{f:Addr}{name qual:Str}{a:Arguments}{body:List Stmt}{scope:Scope}{O kV m U cdv ct oc:Value}{Y od:Option Addr}{B:Array (Option Value)}{N ps:List Str}{sp:Sp}(lk:K.lookup f=some ⟨oc,od,.func (PySem.W.fnOf name qual a body scope O kV m U Y cdv ct),B⟩)(C:PySem.W.codeIn K cdv qual=true)(S:aK N ps scope)(len:∀vs H Q E,sp vs H Q E->vs.length=ps.length)(j:∀(A:Around)(outer:List Env)(s:Shared)(H:Hp)(vs:List V)(Q:VK)(E:XK),iU k (A.deeper (envOfC qual scope s.heap.objs.size f cdv))->sp vs H Q E->∃t,sH (yG CX P w K mg base N qual scope f cdv A outer s H E) body t/\t {nx:=λ_ g=>Q .non g,rt:=Q} (start N vs) H):m6 P w K mg base CX (k+1) f (PySem.W.fnOf name qual a body scope O kV m U Y cdv ct) ps sp:=by
 refine⟨len,λA outer s H args us vs Q E hr p hb r hsp=>?_⟩;have hl:=len _ _ _ _ hsp;have Z:K.In s.heap:=p.mod.qW.keeps λb o e=>(p.bs b o e).1;have lim:s.heap.NoLimit:=p.mod.nolimit.keeps λb o e=>(p.bs b o e).1;have l:∀y∈ps.zip us,scope.names.lookup y.1=some .local\/(scope.names.lookup y.1=some .cell/\((cellsFrom (s.heap.objs.size+1) scope.names []).lookup y.1).isSome=true):=λ⟨n,v⟩hy=>by
  rcases S.par n (of_mem_zip hy).1 with q|q;.exact .inl q
  .exact .inr ⟨q,PySem.W.cellsFrom_some _ _ _ (.inl q)⟩
 refine codeAny_call_function hr.depth (Z _ _ lk) rfl S.co S.gen rfl (PySem.W.codeRec_of Z C) (hb _ _ _ _ ?_);refine wpAny_newFunctionEnv_cells S.kind l λenv he s1 x=>?_;subst he;refine⟨lim.keeps x.toInCall.keep,codeAny_func ?_⟩;obtain⟨t,ht,hq⟩:=j A outer s H vs Q E (hr.deeper _) hsp;have I:Inv (yG CX P w K mg base N qual scope f cdv A outer s H E) [] (start N vs) H s1:=Ce S hr.hd p hl r x;refine wpAny_mono (ht [] s1 (start N vs) H _ I hq) (λfl G hs=>?_) λe G hs=>hs;have fin:∀{c:St}{g:Hp}{v:V}{u:Value},Inv (yG CX P w K mg base N qual scope f cdv A outer s H E) [] c g G->RelV v u->Q v g->CE outer P w H s Q u G:=λ{c g v u}J L q=>⟨v,g,J.os,J.bare,J.base,J.hok,L,q⟩;cases fl with|ret u=>obtain⟨v,c,g,J,L,q⟩:=hs;exact fin J L q|next=>obtain⟨c,g,J,q⟩:=hs;exact fin (v:=V.non) (u:=Value.none) J rfl q|brk=>obtain⟨_,_,_,q⟩:=hs;exact False.elim q|cont=>obtain⟨_,_,_,q⟩:=hs;exact False.elim q
section
variable{X:Cx}{x:Str}{p pos:Pos}{e:Expr}{es:List Expr}{t:TA}{id T:String}{r:List V->Hp->VK->Prop}
def Q0(r:List V->Hp->VK->Prop)(t:TA):TE:=λσ H Q=>t σ H λvs a=>r vs a Q
theorem eO(hc:dH X (.builtin id) r)(b:Gl X x)(c:X.mg x=none)(f:bootBuiltins x=some (.builtin id))(g:PA X (e::es) t)(j:x≠"__name__":=by decide)(a:(x==("__debug__":Str))=false:=by decide)(he:starEach (e::es) X.env=(false,eval e X.env)::starEach es X.env:=by rfl)(hpl:(backTo pos (starEach es X.env)).any (·.1)=false:=by rfl):PE X (.Call (.Name x p) (e::es) [] pos) (Q0 r t):=by intro pins s σ H Q I h;refine wpAny_Call_Name_kw (jh I b c f ?_ j a);exact PyProof.Rows.callWith_builtin1 (bV (g pos pins s σ H _ I h) λus s1⟨vs,H1,I1,r1,q1⟩=>hc pins s1 σ H1 vs us Q I1 r1 q1) he hpl
theorem gW(hc:dH X (.type T) r)(b:Gl X x)(c:X.mg x=none)(f:bootBuiltins x=some (.type T))(g:PA X (e::es) t)(j:x≠"__name__":=by decide)(a:(x==("__debug__":Str))=false:=by decide)(he:starEach (e::es) X.env=(false,eval e X.env)::starEach es X.env:=by rfl)(hpl:(backTo pos (starEach es X.env)).any (·.1)=false:=by rfl):PE X (.Call (.Name x p) (e::es) [] pos) (Q0 r t):=by intro pins s σ H Q I h;refine wpAny_Call_Name_kw (jh I b c f ?_ j a);exact PyProof.Rows.callWith_type1 (bV (g pos pins s σ H _ I h) λus s1⟨vs,H1,I1,r1,q1⟩=>hc pins s1 σ H1 vs us Q I1 r1 q1) he hpl
end
end L2
namespace HT
open PySem PyProof.Rows
section
variable{prog:Program}{w:World}{A:Around}{E:Value->Shared->Prop}{s:Shared}
theorem Mw{t b:Addr}{vs ws:List Value}{Q:Value->Shared->Prop}(ht:IsTup s.heap t vs.toArray)(o:IsTup s.heap b ws.toArray)(j:vs≠[])(h1:ws=[]->Q (.ref t) s)(p:ws≠[]->Q (.ref s.heap.objs.size) {s with heap:=s.heap.push {cls:=.type "tuple",data:=.seq (vs++ws).toArray}})(hsz:vs.length+ws.length<=sizeLine):wpAny (model prog w) A (binaryOp .Add (.ref t) (.ref b)) Q E s:=by
 obtain⟨⟨cls,k,data,sl⟩,ho,hc,n,hd⟩:=id ht;obtain⟨⟨l,c,data2,f⟩,a,g,m,h⟩:=id o;simp only at hc hd g h;subst hc hd g h;have e:vs.toArray++ws.toArray=(vs++ws).toArray:=by simp
 by_cases i:ws=[];.exact concat_meets ⟨_,ho,rfl⟩ ⟨_,a,rfl⟩ noFill_tuple_add seq_tuple_add slot_tuple_add entry_tuple_add (args_tuple_add_2 _ _) (tuple_addW1 t b vs.toArray ws.toArray n m k c sl f (by simpa using j) (by simp[i])) ⟨ho,a,h1 i⟩
 .refine concat_meets ⟨_,ho,rfl⟩ ⟨_,a,rfl⟩ noFill_tuple_add seq_tuple_add slot_tuple_add entry_tuple_add (args_tuple_add_2 _ _) (tuple_addW2 t b vs.toArray ws.toArray n m k c sl f (by simpa using j) (by simpa using i) (by rw[size_toArray,size_toArray];exact hsz)) ⟨ho,a,?_⟩;rw[e];exact p i
noncomputable def cT(n d:Nat):Option Int->Nat|none=>d|some v=>if v<0 then(v+(n:Int)).toNat else min v.toNat n
theorem Sg(n d:Nat)(hd:d<=n)(o:Option Int):cT n d o<=n:=by cases o with|none=>exact hd|some v=>
   show(if v<0 then(v+(n:Int)).toNat else min v.toNat n)<=n;by_cases a:v<0;.rw[if_pos a];omega
   .rw[if_neg a];exact Nat.min_le_right _ _
theorem Bg(v:Int)(n d:Nat):(if v<0 then max (v+(n:Int)) 0 else min v (n:Int))=((cT n d (some v):Nat):Int):=by
 show(if v<0 then max (v+(n:Int)) 0 else min v (n:Int))=(((if v<0 then(v+(n:Int)).toNat else min v.toNat n):Nat):Int);by_cases a:v<0;.simp only[if_pos a];omega
 .simp only[if_neg a];omega
theorem yX(lo a:Option Int)(n:Nat):sliceAdjust lo a 1 (n:Int)=(((cT n 0 lo:Nat):Int),((cT n n a:Nat):Int)):=by
 have h1:¬((1:Int)<0):=by omega
 unfold sliceAdjust;simp only[h1,if_false];refine Prod.ext ?_ ?_;.cases lo with|none=>rfl|some v=>exact Bg v n 0
 .cases a with|none=>rfl|some v=>exact Bg v n n
theorem xQ(i j:Nat):slicePlaces (i:Int) (j:Int) 1=j-i:=by
 unfold slicePlaces;have h1:(1:Int)>0:=by omega
 simp only[h1,if_true,Int.ediv_one];split<;>omega
theorem oZ{v:Value}{o:Option Int}{Q:Option Int->Shared->Prop}(p:IsPart v o)(h:Q o s):wpAny (model prog w) A (Builtin.Slice.slicePartIndex v) Q E s:=by cases p with|none=>exact slicePart_none h|int i t=>exact slicePart_int h
theorem gP{sl:Addr}{e f:Value}{lo a:Option Int}{n:Nat}{Q:Int×Int×Nat->Shared->Prop}(hs:s.heap.IsSliceOf sl e f .none)(g:IsPart e lo)(i:IsPart f a)(h:Q (((cT n 0 lo:Nat):Int),1,cT n n a-cT n 0 lo) s):wpAny (model prog w) A (sliceApplied (.ref sl) (pure (n:Int))) Q E s:=by obtain⟨os,b,j,c⟩:=id hs;unfold sliceApplied Builtin.Slice.sliceFields;refine wpAny_bind (wpAny_bind (wpAny_field b c (x:=e) rfl (wpAny_bind (wpAny_field b c (x:=f) rfl (wpAny_bind (wpAny_field b c (x:=.none) rfl (wpAny_pure ?_)))))));refine wpAny_bind (slicePart_none ?_);show wpAny _ _ (if((1:Int)==0)=true then _ else _) _ _ s;rw[if_neg (by decide)];refine wpAny_bind (oZ g (wpAny_bind (oZ i (wpAny_bind (wpAny_pure ?_)))));show wpAny _ _ (match sliceAdjust lo a 1 (n:Int)with|(lo,a)=>pure (lo,(1:Int),slicePlaces lo a 1)) _ _ s;rw[yX lo a n];show wpAny _ _ (pure (((cT n 0 lo:Nat):Int),(1:Int),slicePlaces ((cT n 0 lo:Nat):Int) ((cT n n a:Nat):Int) 1)) _ _ s;rw[xQ];exact wpAny_pure h
theorem G8(xs:Array Value)(i k:Nat):((List.range k).filterMap λ(m:Nat)=>xs[((i:Int)+(m:Int)*1).toNat]?).toArray=((xs.toList.drop i).take k).toArray:=by
 have e:(λ(m:Nat)=>xs[((i:Int)+(m:Int)*1).toNat]?)=λm=>xs[i+m]?:=by
  funext m;have:((i:Int)+(m:Int)*1).toNat=i+m:=by omega
  rw[this]
 rw[e];have:=pick_run xs i k;rw[List.filterMap_map]at this;have a:((λx=>xs[x]?)∘ λx=>i+x)=λm=>xs[i+m]?:=rfl;rw[a]at this;rw[this]
theorem lL{t sl:Addr}{items:Array Value}{i j:Value}{lo a:Option Int}{Q:Value->Shared->Prop}(ht:IsTup s.heap t items)(hs:s.heap.IsSliceOf sl i j .none)(k:IsPart i lo)(l:IsPart j a)(n:¬(cT items.size 0 lo=0/\cT items.size items.size a=items.size))(h:Q (.ref s.heap.objs.size) {s with heap:=s.heap.push {cls:=.type "tuple",data:=.seq ((items.toList.drop (cT items.size 0 lo)).take (cT items.size items.size a-cT items.size 0 lo)).toArray}})(hsz:items.size<=sizeLine):wpAny (model prog w) A (getItem (.ref t) (.ref sl)) Q E s:=by
 have b:sizeOk (.seq ((items.toList.drop (cT items.size 0 lo)).take (cT items.size items.size a-cT items.size 0 lo)).toArray):=by show((items.toList.drop (cT items.size 0 lo)).take (cT items.size items.size a-cT items.size 0 lo)).toArray.size<=sizeLine;rw[size_toArray,length_take,List.length_drop,length_toList];omega
 have p:cT items.size items.size a<=items.size:=Sg _ _ (cQ) a;obtain⟨os,c,e,o⟩:=id hs;have f:s.TypeIs (.ref sl) "slice":=⟨os,c,e⟩;unfold getItem;try with_reducible refine wpAny_holding ?_
 first|refine wpAny_bind (wpAny_pure ?_)|skip
 refine wpAny_bind (wpAny_sequenceKey ht.typeIs (by decide) ?_);refine wpAny_bind (wpAny_callSpecial?_slot (name:=Str.ofString "__getitem__") ht.typeIs PyProof.Rows.slot_tuple_getitem (wpAny_call_entry PyProof.Rows.slot_tuple_getitem ht.typeIs entry_tuple_getitem ?_ (args_tuple_getitem _ _)));show wpAny _ _ (tupleItemsOf (.ref t)>>=_) _ _ s;refine wpAny_bind (tupleItemsOf_ ht ?_);refine wpAny_bind (wpAny_typeOf f ?_);rw[if_pos (by decide)];refine wpAny_bind (gP hs k l ?_);have g:¬((((cT items.size 0 lo:Nat):Int)==0&&(1:Int)==1&&(cT items.size items.size a-cT items.size 0 lo)==items.size)=true):=by intro q;rw[and_eq_true,and_eq_true]at q;have r:((cT items.size 0 lo:Nat):Int)=0:=eq_of_beq q.1.1;have u:cT items.size items.size a-cT items.size 0 lo=items.size:=eq_of_beq q.2;exact n ⟨by omega,by omega⟩
 show wpAny _ _ (if(((cT items.size 0 lo:Nat):Int)==0&&(1:Int)==1&&(cT items.size items.size a-cT items.size 0 lo)==items.size)=true then _ else _) _ _ s;rw[if_neg g,G8];first|exact wpAny_bind (m:=tupleExact _) (wpAny_newObj_type (wpAny_pure ⟨_,rfl,wpAny_pure h⟩) b)|exact wpAny_bind (m:=tupleExact _) (wpAny_newObj_type (wpAny_bind (wpAny_pure (wpAny_pure ⟨_,rfl,wpAny_pure h⟩))) b)|exact wpAny_bind (wpAny_bind (m:=tupleExact _) (wpAny_newObj_type (wpAny_pure (wpAny_pure ⟨_,rfl,wpAny_pure h⟩)) b))|exact wpAny_bind (wpAny_bind (m:=tupleExact _) (wpAny_newObj_type (wpAny_pure ⟨_,rfl,wpAny_pure h⟩) b))
end
end HT
namespace L2
open PySem PySem.Spec PyProof.Rows
variable{n:Nat}{s:Shared}{x:V}
abbrev TO:=St->Hp->(Option Int->Hp->Prop)->Prop
def PO(X:Cx)(e:Option Expr)(t:TO):Prop:=∀(a:List (Addr × Obj))(s:Shared)(σ:St)(H:Hp)(Q:Option Int->Hp->Prop),Inv X a σ H s->t σ H Q->wpAny (model X.prog X.w) X.A (evalPart e X.env) (λu c=>∃o b,Inv X a σ b c/\IsPart u o/\Q o b) X.xe s
def Ly:TO:=λ_ H Q=>Q none H
def VM(t:TE):TO:=λσ H Q=>t σ H λx a=>∃i,x=.int i/\Q (some i) a
section
variable{X:Cx}{e:Expr}{te:TE}{lo hi:Option Expr}{tl th:TO}{pos p2:Pos}
theorem Mv:PO X none Ly:=by intro a s σ H Q I h;rw[evalPart_none];exact wpAny_pure ⟨none,H,I,.none,h⟩
theorem Lw(h:PE X e te):PO X (some e) (VM te):=by intro a s σ H Q I b;rw[evalPart_some];refine bV (h a s σ H _ I b) λu s1⟨x,H1,I1,r1,q1⟩=>?_;obtain⟨i,rfl,q⟩:=q1;obtain⟨t,rfl⟩:=r1;exact⟨some i,H1,I1,.int i t,q⟩
def Zq(X:Cx)(r:V->Option Int->Option Int->Hp->VK->Prop):Prop:=∀(a:List (Addr × Obj))(s:Shared)(σ:St)(H:Hp)(x:V)(v b c:Value)(lo hi:Option Int)(sl:Addr)(Q:VK),Inv X a σ H s->RelV x v->s.heap.IsSliceOf sl b c .none->IsPart b lo->IsPart c hi->r x lo hi H Q->∃T id,typeLookup (.type T) "__getitem__"=pure (some (.builtin id))/\s.TypeIs v T/\wpAny (model X.prog X.w) X.A (getItem v (.ref sl)) (EP X a σ Q) X.xe s
def tSl(r:V->Option Int->Option Int->Hp->VK->Prop)(te:TE)(tl th:TO):TE:=λσ H Q=>te σ H λx a=>tl σ a λl b=>th σ b λu c=>r x l u c Q
theorem vg{r:V->Option Int->Option Int->Hp->VK->Prop}(hr:Zq X r)(he:PE X e te)(g:PO X lo tl)(i:PO X hi th):PE X (.Subscript e (.Slice lo hi none p2) pos) (tSl r te tl th):=by intro a s σ H Q I h;refine Subscript_ (bV (he a s σ H _ I h) λv s1⟨x,H1,I1,r1,q1⟩=>?_);refine wpAny_Slice (bV (g a s1 σ H1 _ I1 q1) λc s2⟨l,H2,I2,pl,q2⟩=>bV (i a s2 σ H2 _ I2 q2) λf s3⟨u,H3,I3,pu,q3⟩=>?_);rw[evalPart_none];refine wpAny_pure ?_;have j:Inv X a σ H3 {s3 with heap:=s3.heap.push {cls:=.type "slice",data:=.fields #[c,f,.none]}}:=I3.kept (t':=s3.toks) λb o q=>du q;obtain⟨T,id,k,ht,m⟩:=hr a {s3 with heap:=s3.heap.push {cls:=.type "slice",data:=.fields #[c,f,.none]}} σ H3 x v c f l u s3.heap.objs.size Q j r1 (Heap.IsSliceOf.new ..) pl pu q3;show wpAny (model X.prog X.w) X.A (subscriptTail e (.Slice lo hi none p2) v (.ref s3.heap.objs.size)) (EP X a σ Q) X.xe {s3 with heap:=s3.heap.push {cls:=.type "slice",data:=.fields #[c,f,.none]}};exact tail_any (ops:=[.ref s3.heap.objs.size,v]) ht k m (by with_unfolding_all rfl)
noncomputable def vU(xs:List V)(lo hi:Option Int):List V:=(xs.drop (HT.cT xs.length 0 lo)).take (HT.cT xs.length xs.length hi-HT.cT xs.length 0 lo)
theorem nM(xs:List V)(lo hi:Option Int):(vU xs lo hi).length<=xs.length:=by unfold vU;rw[length_take,List.length_drop];omega
def aci(K:PySem.W.Frag):V->Option Int->Option Int->Hp->VK->Prop:=λx lo hi H Q=>∃a xs,x=.ref a/\dN K H a xs/\¬(HT.cT xs.length 0 lo=0/\HT.cT xs.length xs.length hi=xs.length)/\∀p,H p=none->Q (.ref p) (upd H p (.tup (vU xs lo hi)))
theorem Rc:Zq X (aci X.K):=by
 intro g s σ H x v p t lo hi sl Q I i hs j k h;obtain⟨a,xs,rfl,l,m,q⟩:=h;cases i;obtain⟨f,r,ht,hz⟩:=I.tuple l;have c:f.toArray.size=xs.length:=by rw[size_toArray];exact r.length.symm
 refine⟨"tuple",_,PyProof.Rows.slot_tuple_getitem.lookup,ht.typeIs,?_⟩;refine HT.lL ht hs j k (by rw[c];exact m) ?_ (by rw[c];exact hz);rw[c];refine⟨.ref s.heap.objs.size,_,I.laid (t':=s.toks) (o:=.tup (vU xs lo hi)) (λb u q=>du q) (cQ) ?_,rfl,q _ (I.hok.fresh (cQ))⟩;exact⟨le_trans (nM xs lo hi) hz,_,(r.drop (HT.cT xs.length 0 lo)).take (HT.cT xs.length xs.length hi-HT.cT xs.length 0 lo),IsTup.new _ _⟩
def WK(K:PySem.W.Frag):R2:=λx y H Q=>∃a b xs ys,x=.ref a/\y=.ref b/\dN K H a xs/\dN K H b ys/\xs≠[]/\xs.length+ys.length<=sizeLine/\(ys=[]->Q (.ref a) H)/\(ys≠[]->∀p,H p=none->Q (.ref p) (upd H p (.tup (xs++ys))))
theorem Vals.oO{xs:List V}{a:List Value}(r:Vals xs a):a=[]↔xs=[]:=by cases r with|nil=>simp|cons _ _=>simp
theorem Kh:gk X (binaryOp .Add) (WK X.K):=by intro f s σ H x y v u Q I i j h;obtain⟨a,b,xs,ys,rfl,rfl,k,l,m,hz,p,r⟩:=h;cases i;cases j;obtain⟨t,r1,A,_⟩:=I.tuple k;obtain⟨g,c,p2,_⟩:=I.tuple l;refine HT.Mw A p2 (λz=>m (r1.oO.mp z)) (λz=>⟨.ref a,H,I,rfl,p (c.oO.mp z)⟩) (λz=>?_) (by rw[<-r1.length,<-c.length];exact hz);refine⟨.ref s.heap.objs.size,_,I.laid (t':=s.toks) (o:=.tup (xs++ys)) (λb B q=>du q) (cQ) ?_,rfl,r (λw=>z (c.oO.mpr w)) _ (I.hok.fresh (cQ))⟩;exact⟨by rw[length_append];exact hz,_,r1.append c,IsTup.new _ _⟩
end
noncomputable def iT(n:Nat)(i:Int):Option Nat:=if 0<=i then(if i<n then some i.toNat else none)else if-(n:Int)<=i then some (i+n).toNat else none
noncomputable def GR{a:Type}(xs:List a)(i:Int):Option a:=(iT xs.length i).bind λj=>xs[j]?
theorem Al{i:Int}{j:Nat}(h:iT n i=some j):seqIndex? i n=some j/\j<n/\-(n:Int)<=i/\i<n:=by
 unfold iT at h;by_cases h0:0<=i
 . rw[if_pos h0]at h;by_cases h1:i<n;.rw[if_pos h1]at h;have e:i.toNat=j:=Option.some.inj h;exact⟨by rw[seqIndex_of h0 h1,e],by omega,by omega,h1⟩
   .rw[if_neg h1]at h;cases h
 . rw[if_neg h0]at h;by_cases h1:-(n:Int)<=i;.rw[if_pos h1]at h;have e:(i+n).toNat=j:=Option.some.inj h;exact⟨by rw[seqIndex_neg (by omega) h1,e],by omega,h1,by omega⟩
   .rw[if_neg h1]at h;cases h
theorem t8{a:Type}{xs:List a}{i:Int}{v:a}(h:GR xs i=some v):∃j,seqIndex? i xs.length=some j/\xs[j]?=some v/\j<xs.length/\-(xs.length:Int)<=i/\i<xs.length:=by unfold GR at h;cases e:iT xs.length i with|none=>rw[e]at h;cases h|some j=>rw[e]at h;obtain⟨h1,b,c,f⟩:=Al e;exact⟨j,h1,h,b,c,f⟩
def tZ(b:Expr):Prop:=∀o i,subscripted b false o i=operate [o,i] (getItem o i)
def Ze(X:Cx)(r:R2):Prop:=∀(b slice:Expr)(a:List (Addr × Obj))(s:Shared)(σ:St)(H:Hp)(x y:V)(v u:Value)(Q:VK),Inv X a σ H s->RelV x v->RelV y u->r x y H Q->subscripted slice false v u=operate [v,u] (getItem v u)->wpAny (model X.prog X.w) X.A (subscriptTail b slice v u) (EP X a σ Q) X.xe s
def MtR(X:Cx)(id:String)(r:V->List V->Hp->VK->Prop):Prop:=∀(a:List (Addr × Obj))(s:Shared)(σ:St)(H:Hp)(x:V)(xs:List V)(v:Value)(b:List Value)(Q:VK),Inv X a σ H s->RelV x v->Vals xs b->r x xs H Q->wpAny (model X.prog X.w) X.A (call (.builtin id) (v::b)) (EP X a σ Q) X.xe s
section
variable{X:Cx}{a b:Expr}{ta tb:TE}{pos:Pos}
theorem Hs{r:R2}(hr:Ze X r)(e:PE X a ta)(f:PE X b tb)(hs:tZ b):PE X (.Subscript a b pos) (nQ r ta tb):=by intro c s σ H Q I h;exact Subscript_ (RN e f I h λv u s2 x y g i j k q=>hr a b c s2 σ g x y v u Q i j k q (hs _ _))
def V6(K:PySem.W.Frag):R2:=λx y H Q=>∃p xs i v,x=.ref p/\y=.int i/\dg K H p xs/\GR xs i=some v/\Q v H
def gV(K:PySem.W.Frag):R2:=λx y H Q=>∃p xs i v,x=.ref p/\y=.int i/\dN K H p xs/\GR xs i=some v/\Q v H
theorem zT:Ze X (V6 X.K):=by
 intro e slice c s σ H x y v u Q I m o h hs;obtain⟨p,xs,i,z,rfl,rfl,A,he,q⟩:=h;cases m;obtain⟨t,rfl⟩:=o;obtain⟨f,r,g,hz⟩:=I.list A;obtain⟨j,h1,B,M,C,E⟩:=t8 he;obtain⟨w,l,G⟩:=r.get B;have J:=r.length;have N:=qj;have fin:EP X c σ Q w s:=⟨z,H,I,G,q⟩;by_cases h0:0<=i
 . have k:i.toNat=j:=by rw[seqIndex_of h0 E]at h1;exact Option.some.inj h1
   exact item_listR g.isList h0 (by omega) (by rw[k];simpa using l) fin hs
 . have k:(i+(f.toArray.size:Int)).toNat=j:=by rw[seqIndex_neg (by omega) C]at h1;rw[size_toArray,<-J];exact Option.some.inj h1
   exact subscriptTail_builtinR (x:=w) g.isList.typeIs slot_list_getitem.lookup (wpAny_getItem_list_neg (Q:=λr L=>r=w/\EP X c σ Q r L) g.isList (by omega) (by rw[size_toArray]<;>omega) (by omega) (by rw[k];simpa using l) ⟨rfl,fin⟩) hs
theorem GP:Ze X (gV X.K):=by intro e slice c s σ H x y v u Q I g k h hs;obtain⟨p,xs,i,z,rfl,rfl,l,he,q⟩:=h;cases g;obtain⟨t,rfl⟩:=k;obtain⟨m,r,f,hz⟩:=I.tuple l;obtain⟨j,h1,o,G,J,L⟩:=t8 he;obtain⟨w,A,B⟩:=r.get o;have C:=r.length;have M:=qj;have fin:EP X c σ Q w s:=⟨z,H,I,B,q⟩;exact subscriptTail_builtinR (x:=w) f.typeIs slot_tuple_getitem.lookup (getItem_tuple (j:=j) (Q:=λr E=>r=w/\EP X c σ Q r E) f (by omega) (by omega) (by rw[size_toArray,<-C];exact h1) (by simpa using A) ⟨rfl,fin⟩) hs
theorem yr(c:List Value)(n j:Nat)(u:Value):Obj.mapSeq (·.setIfInBounds j u) {cls:=.type "list",data:=.seq c.toArray n}={cls:=.type "list",data:=.seq (c.set j u).toArray n}:=by simp[Obj.mapSeq]
theorem Inv.lst{f:List (Addr×Obj)}{σ:St}{H:Hp}{s:Shared}{p:Addr}{xs:List V}(I:Inv X f σ H s)(h:H p=some (.lst xs)):∃(c:List Value)(n:Nat),Vals xs c/\s.heap.get? p=some {cls:=.type "list",data:=.seq c.toArray n}/\xs.length<=sizeLine:=by obtain⟨z,c,n,r,e⟩:=I.hok p _ h;exact⟨c,n,r,e,z⟩
theorem Inv.R7{c:List (Addr×Obj)}{σ:St}{H:Hp}{s:Shared}{p:Addr}{xs ys:List V}{g its':List Value}{n i:Nat}{f:Obj->Obj}(I:Inv X c σ H s)(h:H p=some (.lst xs))(ho:s.heap.get? p=some {cls:=.type "list",data:=.seq g.toArray n})(j:f {cls:=.type "list",data:=.seq g.toArray n}={cls:=.type "list",data:=.seq its'.toArray i})(r:Vals ys its')(hz:ys.length<=sizeLine)(t:Nat):Inv X c σ (upd H p (.lst ys)) {s with heap:=s.heap.update p f,toks:=t}:=by
 have e:(s.heap.update p f).get? p=some {cls:=.type "list",data:=.seq its'.toArray i}:=by rw[get?_update_self f ho (by rw[j]<;>rfl),j]
 refine I.write (x:=p) (e:=p) (by rw[h];trivial) (.inl rfl) (λb u k q=>(get?_update_other _ _ (Ne.symm k)).trans q) ⟨_,e⟩ ?_;exact⟨hz,its',i,r,e⟩
def Vq:V->V->V->Hp->(Hp->Prop)->Prop:=λo i v H Q=>∃p xs k j,o=.ref p/\i=.int k/\H p=some (.lst xs)/\iT xs.length k=some j/\Q (upd H p (.lst (xs.set j v)))
theorem set_list:Tc X Vq:=by
 intro c s σ H o i v G iv u Q I A B C h;obtain⟨p,xs,k,j,rfl,rfl,l,E,q⟩:=h;cases A;obtain⟨t,rfl⟩:=B;obtain⟨e,n,r,ho,hz⟩:=I.lst l;obtain⟨h1,J,m,w⟩:=Al E;have f:=r.length;have L:=qj;have y:Inv X c σ (upd H p (.lst (xs.set j v))) {s with heap:=s.heap.update p (Obj.mapSeq (·.setIfInBounds j u))}:=I.R7 l ho (yr e n j u) (r.set C j) (by rw[List.length_set];exact hz) s.toks;by_cases h0:0<=k
 . have g:k.toNat=j:=by rw[seqIndex_of h0 w]at h1;exact Option.some.inj h1
   exact PySem.W.ki_setAt ho h0 (by omega) (by rw[size_toArray,<-f];exact w) (by rw[g];exact⟨_,y,q⟩)
 . have g:(k+(e.toArray.size:Int)).toNat=j:=by rw[seqIndex_neg (by omega) m]at h1;rw[size_toArray,<-f];exact Option.some.inj h1
   exact PySem.W.ki_setBack ho (by omega) (by rw[size_toArray,<-f];exact m) (by omega) (by rw[g];exact⟨_,y,q⟩)
theorem uC(lo c:Option Int)(n:Nat):(sliceBounds lo c none n).1=((HT.cT n 0 lo:Nat):Int)/\(sliceBounds lo c none n).2.1=((HT.cT n n c:Nat):Int)/\(sliceBounds lo c none n).2.2=1:=by
 refine⟨?_,?_,rfl⟩;.cases lo with|none=>simp[sliceBounds,HT.cT]|some i=>
     simp only[sliceBounds,HT.cT,getD_none,show(1:Int)>0 by decide,if_true];by_cases h:i<0;.simp only[h,if_true]<;>omega
     .simp only[h,if_false]<;>omega
 .cases c with|none=>simp[sliceBounds,HT.cT]|some i=>
     simp only[sliceBounds,HT.cT,getD_none,show(1:Int)>0 by decide,if_true];by_cases h:i<0;.simp only[h,if_true]<;>omega
     .simp only[h,if_false]<;>omega
theorem rB(c:List Value)(lo e:Option Int):slicePick c.toArray lo e none=((c.drop (HT.cT c.length 0 lo)).take (HT.cT c.length c.length e-HT.cT c.length 0 lo)).toArray:=by obtain⟨h1,f,g⟩:=uC lo e c.toArray.size;unfold slicePick;rw[h1,f,g];simp only[sliceRange_one,pick_run,size_toArray]<;>rfl
def aas(K:PySem.W.Frag):V->Option Int->Option Int->Hp->VK->Prop:=λx lo c H Q=>∃a xs,x=.ref a/\dg K H a xs/\∀p,H p=none->Q (.ref p) (upd H p (.lst (vU xs lo c)))
theorem Ms:Zq X (aas X.K):=by intro f s σ H x v m p lo e sl Q I g hs i j h;obtain⟨a,xs,rfl,k,q⟩:=h;cases g;obtain⟨l,r,ht,hz⟩:=I.list k;have c:=r.length;refine⟨"list",_,slot_list_getitem.lookup,ht.isList.typeIs,?_⟩;refine wpAny_getItem_list_slice ht.isList hs i j .none (by simp) ?_ (by rw[size_toArray]<;>omega);rw[rB,<-c];refine⟨.ref s.heap.objs.size,_,I.laid (t':=s.toks) (o:=.lst (vU xs lo e)) (λb t q=>du q) (cQ) ?_,rfl,q _ (I.hok.fresh (cQ))⟩;exact⟨le_trans (nM xs lo e) hz,_,0,(r.drop (HT.cT xs.length 0 lo)).take (HT.cT xs.length xs.length e-HT.cT xs.length 0 lo),get?_push_size _ rfl⟩
noncomputable def kj:V->Bool|.non=>true|.bl _=>true|.int _=>true|.str _=>true|_=>false
noncomputable def Lb:V->V->Bool|.non,.non=>true|.bl a,.bl b=>a==b|.bl a,.int b=>(if a then 1 else 0)==b|.int a,.bl b=>a==(if b then 1 else 0)|.int a,.int b=>a==b|.str a,.str b=>a==b|_,_=>false
theorem P0{A:Around}{y:V}{u v:Value}(e:RelV y u)(c:RelV x v)(g:kj y=true)(f:kj x=true):SeqAt.EqAt A s u v (Lb y x):=by cases y with
 |non=>cases e;cases x with|non=>cases c;exact SeqAt.EqAt.same _|bl b=>cases c;exact none_bool b|int b=>obtain⟨t,rfl⟩:=c;exact none_int b t|str b=>obtain⟨t,rfl⟩:=c;exact none_str b t|_=>exact absurd (show false=true from f) Bool.false_ne_true
 |bl a=>cases e;cases x with|non=>cases c;exact bool_none a|bl b=>cases c;exact bool_bool a b|int b=>obtain⟨t,rfl⟩:=c;exact bool_int a b t|str b=>obtain⟨t,rfl⟩:=c;exact bool_str a b t|_=>exact absurd (show false=true from f) Bool.false_ne_true
 |int a=>obtain⟨t',rfl⟩:=e;cases x with|non=>cases c;exact int_none a t'|bl b=>cases c;exact int_bool a t' b|int b=>obtain⟨t,rfl⟩:=c;exact int_int a t' b t|str b=>obtain⟨t,rfl⟩:=c;exact int_str a t' b t|_=>exact absurd (show false=true from f) Bool.false_ne_true
 |str a=>obtain⟨t',rfl⟩:=e;cases x with|non=>cases c;exact str_none a t'|bl b=>cases c;exact str_bool a t' b|int b=>obtain⟨t,rfl⟩:=c;exact str_int a t' b t|str b=>obtain⟨t,rfl⟩:=c;exact str_str a t' b t|_=>exact absurd (show false=true from f) Bool.false_ne_true
 |_=>exact absurd (show false=true from g) Bool.false_ne_true
noncomputable def yQ(x:V)(u:Value):Bool:=match u with|.none=>Lb .non x|.bool b=>Lb (.bl b) x|.int i _=>Lb (.int i) x|.str z _=>Lb (.str z) x|_=>false
theorem Gi{y:V}{u:Value}(r:RelV y u)(f:kj y=true):yQ x u=Lb y x:=by cases y with|non=>cases r;rfl|bl b=>cases r;rfl|int i=>obtain⟨t,rfl⟩:=r;rfl|str z=>obtain⟨t,rfl⟩:=r;rfl|_=>exact absurd (show false=true from f) Bool.false_ne_true
theorem lR{x:V}:∀{xs:List V}{c:List Value},Vals xs c->xs.all kj=true->c.any (yQ x)=xs.any λy=>Lb y x|_,_,.nil,_=>rfl|y::xs,u::c,.cons r t,f=>by rw[all_cons,and_eq_true]at f;rw[any_cons,any_cons,Gi r f.1,lR t f.2]
theorem jm{A:Around}{s:Shared}{x:V}{v:Value}(e:RelV x v)(g:kj x=true):∀{xs:List V}{c:List Value},Vals xs c->xs.all kj=true->∀u∈c,SeqAt.EqAt A s u v (yQ x u)
 |_,_,.nil,_=>λu hu=>by cases hu|y::xs,u::c,.cons r t,f=>λh hu=>by
   rw[all_cons,and_eq_true]at f;rcases mem_cons.mp hu with rfl|hu;.rw[Gi r f.1];exact P0 r e f.1 g
   .exact jm e g t f.2 h hu
noncomputable def inV(x:V)(xs:List V):Bool:=xs.any λy=>Lb y x
def rIn(K:PySem.W.Frag)(neg:Bool):R2:=λx y H Q=>∃p xs,y=.ref p/\(dg K H p xs\/dN K H p xs)/\kj x=true/\xs.all kj=true/\Q (.bl (if neg then !inV x xs else inV x xs)) H
theorem CW:gk X (compareOp .In) (rIn X.K false):=by
 intro g s σ H x y v u Q I i k h;obtain⟨p,xs,rfl,hq,j,fs,q⟩:=h;cases k;rcases hq with hq|hq;.obtain⟨c,r,e,hz⟩:=I.list hq;refine SeqAt.in_listAt (yQ x) e.isList (λw f=>jm i j r fs w (by simpa using f)) ⟨.bl _,H,I,rfl,?_⟩;rw[show c.toArray.any (yQ x)=c.any (yQ x)by simp,lR r fs];exact q
 .obtain⟨c,r,e,hz⟩:=I.tuple hq;refine SeqAt.in_tupleAt (yQ x) e (λw f=>jm i j r fs w (by simpa using f)) ⟨.bl _,H,I,rfl,?_⟩;rw[show c.toArray.any (yQ x)=c.any (yQ x)by simp,lR r fs];exact q
theorem tV:gk X (compareOp .NotIn) (rIn X.K true):=by
 intro g s σ H x y v u Q I i k h;obtain⟨p,xs,rfl,hq,j,fs,q⟩:=h;cases k;rcases hq with hq|hq;.obtain⟨c,r,e,hz⟩:=I.list hq;refine SeqAt.notIn_listAt (yQ x) e.isList (λw f=>jm i j r fs w (by simpa using f)) ⟨.bl _,H,I,rfl,?_⟩;rw[show c.toArray.any (yQ x)=c.any (yQ x)by simp,lR r fs];exact q
 .obtain⟨c,r,e,hz⟩:=I.tuple hq;refine SeqAt.notIn_tupleAt (yQ x) e (λw f=>jm i j r fs w (by simpa using f)) ⟨.bl _,H,I,rfl,?_⟩;rw[show c.toArray.any (yQ x)=c.any (yQ x)by simp,lR r fs];exact q
theorem tU:dH X (.builtin "len") (λxs H Q=>∃p ys,xs=[.ref p]/\(dg X.K H p ys\/dN X.K H p ys)/\Q (.int ys.length) H):=by
 intro i s σ H xs k Q I r h;obtain⟨p,ys,rfl,hq,q⟩:=h;obtain⟨u,rfl,j⟩:=vals1 r;cases j;have l:=qj;rcases hq with hq|hq;.obtain⟨e,f,g,hz⟩:=I.list hq;have c:=f.length;exact Calls.call_len_list g.isList (by simp only[size_toArray]<;>omega) ⟨.int ys.length,H,I.tok _,⟨s.toks+1,by rw[size_toArray,c]⟩,q⟩
 .obtain⟨e,f,g,hz⟩:=I.tuple hq;have c:=f.length;exact len_tuple g (by simp only[size_toArray]<;>omega) ⟨.int ys.length,H,I.tok _,⟨s.toks+1,by rw[size_toArray,c]⟩,q⟩
theorem lW:dH X (.type "list") (λxs H Q=>∃p ys,xs=[.ref p]/\(dg X.K H p ys\/dN X.K H p ys)/\∀l,H l=none->Q (.ref l) (upd H l (.lst ys))):=by
 intro i s σ H xs v Q I r h;obtain⟨p,ys,rfl,hq,q⟩:=h;obtain⟨u,rfl,t⟩:=vals1 r;cases t;have fin:∀(c:List Value),Vals ys c->ys.length<=sizeLine->∀(h':Heap)(f:Nat),(∀b m,s.heap.get? b=some m->h'.get? b=some m)->h'.get? s.heap.objs.size=some {cls:=.type "list",dict:=none,data:=.seq c.toArray f,slots:=#[]}->EP X i σ Q (.ref s.heap.objs.size) {s with heap:=h'}:=λc g hz h' f kp e=>⟨.ref s.heap.objs.size,_,I.laid (t':=s.toks) kp (cQ) (show bI X.prog X.w _ h' _ (.lst ys)from⟨hz,c,f,g,e⟩),rfl,q _ (I.hok.fresh (cQ))⟩;rcases hq with hq|hq;.obtain⟨c,g,k,hz⟩:=I.list hq;have j:=g.length;obtain⟨o,ho,hc,n,hd⟩:=k.isList;exact call_list_seq p (.inl rfl) ho hc hd (λh' f kp e=>fin c g hz h' f kp e) (by simp only[size_toArray]<;>omega)
 .obtain⟨c,g,k,hz⟩:=I.tuple hq;have j:=g.length;obtain⟨o,ho,hc,n,hd⟩:=k;exact call_list_seq p (.inr rfl) ho hc hd (λh' f kp e=>fin c g hz h' f kp e) (by simp only[size_toArray]<;>omega)
theorem kO:dH X (.type "tuple") (λxs H Q=>∃p ys,xs=[.ref p]/\((dg X.K H p ys/\∀l,H l=none->Q (.ref l) (upd H l (.tup ys)))\/(dN X.K H p ys/\Q (.ref p) H))):=by
 intro c s σ H xs y Q I r h;obtain⟨p,ys,rfl,h⟩:=h;obtain⟨u,rfl,t⟩:=vals1 r;cases t;rcases h with⟨g,q⟩|⟨g,q⟩;.obtain⟨f,i,j,hz⟩:=I.list g;have k:=i.length;refine call_tuple_list j.isList (λh' kp=>?_) (by simp only[size_toArray]<;>omega);have m:Inv X c σ H {s with heap:=h'}:=I.kept (t':=s.toks) kp;have v:Inv X c σ (upd H h'.objs.size (.tup ys)) {s with heap:=h'.push {cls:=.type "tuple",data:=.seq f.toArray}}:=m.laid (t':=s.toks) (λb o e=>du e) (cQ) (show bI X.prog X.w _ _ _ (.tup ys)from⟨hz,f,i,IsTup.new _ _⟩);exact⟨.ref h'.objs.size,_,v,rfl,q _ (m.hok.fresh (cQ))⟩
 .obtain⟨f,i,j,hz⟩:=I.tuple g;exact call_tuple_same j ⟨.ref p,H,I,rfl,q⟩
def tyV(K:PySem.W.Frag)(T:String)(x:V)(H:Hp):Prop:=match x with|.str _=>T="str"|.int _=>T="int"|.ref p=>(T="list"/\∃xs,dg K H p xs)\/(T="tuple"/\∃o,K.lookup p=some o/\o.cls=.type "tuple"/\o.dict=none)\/(T="dict"/\((∃kvs,H p=some (.dK kvs))\/∃kvs,H p=some (.dT kvs)))\/(T="set"/\∃S n,H p=some (.set S n))|_=>False
theorem Gv{g:List (Addr×Obj)}{σ:St}{H:Hp}{T:String}{v:Value}(I:Inv X g σ H s)(r:RelV x v)(ty:tyV X.K T x H):
 s.TypeIs v T/\∀a,v=.ref a->∃j,s.heap.get? a=some j/\j.dict=none:=by cases x with|str z=>obtain⟨t,rfl⟩:=r;cases(show T="str"from ty);exact⟨typeIs_str s z t,λ_ e=>nomatch e⟩|int i=>obtain⟨t,rfl⟩:=r;cases(show T="int"from ty);exact⟨typeIs_int s i t,λ_ e=>nomatch e⟩|ref p=>
   cases r;rcases ty with⟨rfl,xs,l⟩|⟨rfl,o,f,hc,hd⟩|⟨rfl,f⟩|⟨rfl,S,n,f⟩;.obtain⟨m,_,k,_⟩:=I.list l;refine⟨k.isList.typeIs,λa e=>?_⟩;cases e;obtain⟨o,n,e,c,hd,_⟩:=k;exact⟨o,e,hd⟩
   .refine⟨⟨o,I.SJ p o f,hc⟩,λa e=>?_⟩;cases e;exact⟨o,I.SJ _ o f,hd⟩
   . have z:∃o,s.heap.get? p=some o/\o.ExactDict:=by
      rcases f with⟨kvs,f⟩|⟨kvs,f⟩;.obtain⟨_,_,_,_,o,_,_,e,ex,_⟩:=I.hok p _ f;exact⟨o,e,ex⟩
      .obtain⟨_,_,_,_,o,_,_,e,ex,_⟩:=I.hok p _ f;exact⟨o,e,ex⟩
     obtain⟨o,e,ex⟩:=z;refine⟨⟨o,e,ex.1⟩,λa h=>?_⟩;cases h;exact⟨o,e,ex.2.1⟩
   .obtain⟨o,_,_,_,e,ex,_⟩:=I.hok p _ f;refine⟨⟨o,e,ex.1⟩,λa h=>?_⟩;cases h;exact⟨o,e,ex.2.1⟩|_=>exact False.elim ty
def Gj(K:PySem.W.Frag)(T:String)(r:V->List V->Hp->VK->Prop)(to:TE):TE:=λσ H Q=>to σ H λx c=>tyV K T x c/\r x [] c Q
def T4(K:PySem.W.Frag)(T:String)(r:V->List V->Hp->VK->Prop)(to:TE)(t:TA):TE:=λσ H Q=>to σ H λx c=>tyV K T x c/\t σ c λxs e=>r x xs e Q
variable{o e:Expr}{es:List Expr}{to:TE}{t:TA}{name:Str}{apos cpos:Pos}{T id:String}{r:V->List V->Hp->VK->Prop}
theorem Qu(j:PlainAttrs T)(slot:Slot T name id)(i:typeOf (.builtin id)=pure (.type "method_descriptor"))(k:MtR X id r)(ho:PE X o to)(f:attributeBase o name X.env (eval o X.env)=eval o X.env:=by rfl)(g:(apos.endLine==cpos.line)=true:=by rfl):PE X (.Call (.Attribute o name apos) [] [] cpos) (Gj X.K T r to):=by intro c s σ H Q I h;refine wpAny_Call_method0_late f g (bV (ho c s σ H _ I h) λv s1⟨x,H1,I1,r1,ty,q1⟩=>?_);obtain⟨h1,l⟩:=Gv I1 r1 ty;exact⟨T,id,j,slot,i,h1,l,Calls.callWith_builtin rfl (PySem.evalArgs_none (k c s1 σ H1 x [] v [] Q I1 r1 .nil q1))⟩
theorem Gr(m:PlainAttrs T)(slot:Slot T name id)(k:typeOf (.builtin id)=pure (.type "method_descriptor"))(p:MtR X id r)(ho:PE X o to)(q:PA X (e::es) t)(g:attributeBase o name X.env (eval o X.env)=eval o X.env:=by rfl)(j:((backTo cpos (starEach (e::es) X.env)).all (λx=>!x.1)&&(backToKw cpos (keywordEach [] X.env)).all (λx=>x.1.isSome)&&decide ((e::es).length+([]:List Keyword).length+(if([]:List Keyword).isEmpty then 0 else 1)<30))=true:=by rfl)(i:(apos.endLine==cpos.line)=true:=by rfl)(hs:starEach (e::es) X.env=(false,eval e X.env)::starEach es X.env:=by rfl)(f:(backTo cpos (starEach es X.env)).any (·.1)=false:=by rfl):PE X (.Call (.Attribute o name apos) (e::es) [] cpos) (T4 X.K T r to t):=by intro c s σ H Q I h;refine wpAny_Call_method_late g j i rfl (bV (ho c s σ H _ I h) λv s1⟨x,H1,I1,r1,ty,q1⟩=>?_);obtain⟨h1,u⟩:=Gv I1 r1 ty;refine⟨T,id,m,slot,k,h1,u,?_⟩;have l:=q cpos c s1 σ H1 _ I1 q1;rw[hs]at l ⊢;refine Calls.callWith_builtin (by show(false||(backTo cpos (starEach es X.env)).any (·.1))=false;rw[f]<;>rfl) (Calls.evalArgs_plain ?_);exact bV l λw s2⟨vs,H2,I2,r2,q2⟩=>p c s2 σ H2 x vs v w Q I2 r1 r2 q2
end
def MtM(X:Cx)(id:String)(r:V->List V->Hp->VK->Prop):Prop:=∀(a:List (Addr × Obj))(s:Shared)(σ:St)(H:Hp)(x:V)(xs:List V)(v:Value)(b:List Value)(Q:VK),Inv X a σ H s->RelV x v->Vals xs b->r x xs H Q->wpAny (model X.prog X.w) X.A (call (.builtin id) (v::b)) (EP X a σ Q) X.xe s
theorem Vals.one:∀{x:V}{a:List Value},Vals [x] a->∃u,a=[u]/\RelV x u|x,a,h=>by cases h with|cons r t=>cases t;exact⟨_,rfl,r⟩
theorem Vals.two:∀{x y:V}{a:List Value},Vals [x,y] a->∃u v,a=[u,v]/\RelV x u/\RelV y v|x,y,a,h=>by cases h with|cons r t=>cases t with|cons q z=>cases z;exact⟨_,_,rfl,r,q⟩
theorem Vals.zero:∀{a:List Value},Vals [] a->a=[]|_,.nil=>rfl
theorem Vals.reverse{xs:List V}{a:List Value}(h:Vals xs a):Vals xs.reverse a.reverse:=by induction h with|nil=>exact .nil|cons r t b=>rw[reverse_cons,reverse_cons];exact Vals.append b (.cons r .nil)
theorem Vals.rep{xs:List V}{a:List Value}(h:Vals xs a):∀k:Nat,Vals (replicate k xs).flatten (replicate k a).flatten|0=>.nil|k+1=>by rw[replicate_succ,replicate_succ,flatten_cons,flatten_cons];exact Vals.append h (Vals.rep h k)
theorem foldl_rep(a:List Value):∀(k:Nat)(b:List Value),foldl (λc f=>c++f) b.toArray (replicate k a.toArray)=(b++(replicate k a).flatten).toArray
 |0,b=>by simp|k+1,b=>by
   have e:b.toArray++a.toArray=(b++a).toArray:=by simp
   have g:(b++a)++(replicate k a).flatten=b++(replicate (k+1) a).flatten:=by rw[replicate_succ,flatten_cons,append_assoc]
   rw[<-g,<-foldl_rep a k (b++a),<-e,replicate_succ,foldl_cons]
section
variable{X:Cx}{pins:List (Addr×Obj)}{σ:St}{H:Hp}{s:Shared}{l b:Addr}{xs ys zs:List V}
theorem Inv.WQ{a its':List Value}{f:Array Value->Array Value}{t':Nat}(I:Inv X pins σ H s)(c:H l=some (.lst xs))(e:s.heap.get? l=some {cls:=.type "list",data:=.seq a.toArray n})(g:f a.toArray=its'.toArray)(h:Vals ys its')(hz:ys.length<=sizeLine):Inv X pins σ (upd H l (.lst ys)) {s with heap:=s.heap.update l (Obj.mapSeq f),toks:=t'}:=by have q:=PySem.IsL.update e f;rw[g]at q;refine I.write (x:=l) (e:=l) (by rw[c];exact trivial) (.inl rfl) (λk u i j=>(get?_update_other s.heap (Obj.mapSeq f) (Ne.symm i)).trans j) ⟨_,q⟩ ?_;exact⟨hz,its',_,h,q⟩
theorem Inv.RJ{a:List Value}{t':Nat}(I:Inv X pins σ H s)(c:Vals ys a)(hz:ys.length<=sizeLine):Inv X pins σ (upd H s.heap.objs.size (.lst ys)) {s with heap:=s.heap.push {cls:=.type "list",data:=.seq a.toArray},toks:=t'}:=I.laid (λ_ _ q=>du q) (cQ) ⟨hz,a,0,c,get?_push_size _ rfl⟩
theorem Inv.fresh(I:Inv X pins σ H s):H s.heap.objs.size=none:=I.hok.fresh (cQ)
theorem Inv.Vz(I:Inv X pins σ H s)(c:H l=some (.lst xs)):xs.length<=sizeLine/\∃(a:List Value)(n:Nat),Vals xs a/\xs.length=a.length/\s.heap.get? l=some {cls:=.type "list",data:=.seq a.toArray n}:=by obtain⟨z,a,n,r,e⟩:=I.hok l _ c;exact⟨z,a,n,r,r.length,e⟩
theorem GJ(h:n<=sizeLine):listTooLong n=false:=by unfold listTooLong;exact decide_eq_false (by omega)
end
section
variable{X:Cx}
def jP:V->List V->Hp->VK->Prop:=λx vs H Q=>∃l xs y,x=.ref l/\vs=[y]/\H l=some (.lst xs)/\xs.length<sizeLine/\Q .non (upd H l (.lst (xs++[y])))
theorem jQ:MtM X "list.append" jP:=by intro b s σ H x vs v j Q I f g h;obtain⟨l,xs,y,rfl,rfl,c,hz,q⟩:=h;cases f;obtain⟨u,rfl,i⟩:=g.one;obtain⟨z,a,n,r,k,e⟩:=I.Vz c;refine call_meets F.slot_list_append ⟨_,e,rfl⟩ F.entry_list_append (F.args_list_append_2 _ _) (PySem.list_append l a.toArray n u (by rw[size_toArray];omega)) ⟨e,?_⟩;refine⟨.non,_,I.WQ (its':=a++[u]) c e (by simp) (r.append (.cons i .nil)) ?_,rfl,q⟩;rw[length_append,List.length_singleton];omega
def jy:V->List V->Hp->VK->Prop:=λx vs H Q=>∃l xs,x=.ref l/\vs=[]/\H l=some (.lst xs)/\Q .non (upd H l (.lst xs.reverse))
theorem yM:MtM X "list.reverse" jy:=by intro c s σ H x vs v j Q I g i h;obtain⟨l,xs,rfl,rfl,f,q⟩:=h;cases g;have b:=i.zero;subst b;obtain⟨z,a,n,r,k,e⟩:=I.Vz f;refine call_meets F.slot_list_reverse ⟨_,e,rfl⟩ F.entry_list_reverse (F.args_list_reverse_1 _) (AutoSeq1.list_reverse_list_0 l a.toArray n (by rw[size_toArray];omega)) ⟨e,?_⟩;refine⟨.non,_,I.WQ (its':=a.reverse) f e (by simp) r.reverse ?_,rfl,q⟩;rw[List.length_reverse];omega
theorem len_rep{a:Type}(xs:List a)(k:Nat):(replicate k xs).flatten.length=k*xs.length:=by induction k with|zero=>simp|succ k b=>rw[replicate_succ,flatten_cons,length_append,b,Nat.succ_mul,Nat.add_comm]
end
end L2
namespace Z9
open PySem PySem.W PySem.Calls PyProof.Rows
theorem nY{P:Params}{h:Heap}:∀(ns:List Int)(vs:List Value),WellAll P h vs (ns.map WData.int)->IntsAre vs ns:=by intro ns;induction ns with|nil=>intro vs w;rw[map_nil]at w;cases w;exact .nil|cons n ns c=>intro vs w;rw[map_cons]at w;cases w with|cons a b=>cases a;exact .cons _ _ (c _ b)
theorem Cq{l:OpenLaw}{n:Nat}(m:l.most=some n){P:Params}{h:Heap}{args:List WData}{b:List Value}(c:l.row.toRowW.claim.pre args=true)(j:WellAll P h b args):∃a vs ns,b=[Value.ref a]/\args=[WData.list (ns.map WData.int)]/\h.get? a=some {cls:=.type "list",data:=.seq vs.toArray}/\IntsAre vs ns/\ns.length<=n:=by
 have k:WShape.hasAll [] args [.list .int]=true:=(pre_splitW c).1;have hc:l.pre.holds [] {args:=args}=true:=(pre_splitW c).2;obtain⟨d,r,rfl,h1,o⟩:=hasAllW_cons k;obtain rfl:=hasAllW_nil o;obtain⟨xs,rfl,p⟩:=hasW_list h1;obtain⟨ns,rfl⟩:=items_int p;have e:ns.length<=n:=by
  unfold OpenLaw.pre at hc;have g:(WTm.not (.lt (.lit (.int (n:Int))) (.len (.arg 0)))).holds [] {args:=[.list (ns.map .int)]}=true:=by have g:=(holds_andW hc).1;rw[m]at g;exact g
  have i:=condW_of g (w_not (w_lt w_lit (w_len_list (w_arg rfl))));rw[length_map]at i;refine Nat.le_of_not_lt λq=>?_;have s:(n:Int)<((ns.length:Nat):Int):=by omega
  first|(rw[decide_eq_true s]at i;exact absurd i (by decide))|(simp at i;omega)
 cases j with|cons t u=>cases u;cases t with|list ho f=>exact⟨_,_,ns,rfl,rfl,ho,nY ns _ f,e⟩
theorem CG(l:OpenLaw)(args:List WData):l.row.toRowW.claim.post args (.bool true) args=true:=postW_of (r:=l.row.toRowW) (X:=(true==true)) (show WShape.has [] (.bool true) .bool=true by first|rfl|decide|simp[WShape.has,WShape.arms,WShape.armsAll]) (show(WTm.eq .res (.lit (.bool true))).value [] {args:=args,res:=some (.bool true),after:=args}=some (.bool (true==true))from w_eq_bool (w_res rfl) w_lit) rfl
theorem vY{l:OpenLaw}{n:Nat}{q:Program}{c:List Str}{A:(Str->Option Value)->Heap->Prop}{B:World->Heap->Prop}{d:DefRec}(I:l.most=some n)(s:d.params.defaults=[])(call:∀(w:World)(s₀ b:Shared)(mg t:Str->Option Value)(h:Addr)(o:Obj)(u m e:Value)(a:Addr)(vs:List Value)(ns:List Int),Ground q c [] A w s₀ mg t b.heap->B w b.heap->b.heap.get? h=some o->o.data=.func (docDef d.name d.params d.body d.scope u m e)->b.heap.CodeRec m d.name->mg d.name=some (.ref h)->b.heap.get? a=some {cls:=.type "list",data:=.seq vs.toArray}->IntsAre vs ns->ns.length<=n->b.gens=#[]->codeAny (model l.prog w) callerA (.call (.ref h) ⟨[.ref a],[]⟩) (λr p=>r=.ok (.ret (.bool true))/\OldK b.heap p.heap/\p.os=b.os/\AllBare p.gens) b):WalkO q c A B l.row.toRowW d [] (λf vs=>PySem.call f vs):=by intro w s₀ b mg t G Y h o u m e J kV ho hd v C x L args E as i H M y N;obtain rfl:J=.none:=Dflts.none C s;obtain rfl:kV=.none:=Dflts.noKw C;obtain⟨a,vs,ns,rfl,rfl,j,g,k⟩:=Cq I i y;refine enter_call (codeAny_mono (call w s₀ b mg t h o u m e a vs ns G Y ho (fd_plain hd) v x j g k L) λr p O=>?_);obtain⟨rfl,Q,U,W⟩:=O;exact⟨.inl ⟨.bool true,.bool true,[],rfl,λ_=>rfl,.bool true,CG l _,λ_=>⟨List.Pairwise.nil,λ_ X=>(nomatch X)⟩⟩,Q,U,W⟩
end Z9
namespace L2
open PySem PySem.Spec PyProof.Rows
theorem rH:∀{vs:List Value}{ns:List Int},IntsAre vs ns->Vals (ns.map V.int) vs|_,_,.nil=>.nil|_,_,.cons n t h=>.cons ⟨t,rfl⟩ (rH h)
def Only(H:Hp):Prop:=∀b,H b=none\/∃o xs,H b=some (.cG o (.lst xs))
theorem EY{P:Program}{w:World}{K:PySem.W.Frag}{mg G:Str->Option Value}{CX:Hg}{k:Nat}{I a:Addr}{fd:FuncData}{x:Str}{sp:Sp}{c:Shared}{vs:List Value}{ns:List Int}(M:K.In c.heap)(p:c.heap.Ns mainGlobals mg)(f:c.heap.Ns builtinsNs G)(J:∀x:Str,x≠"__name__"->G x=bootBuiltins x)(t:c.heap.NoLimit)(hg:c.gens=#[])(E:c.heap.get? a=some {cls:=.type "list",data:=.seq vs.toArray})(N:IntsAre vs ns)(O:ns.length<=sizeLine)(hr:iU k callerA)(F:∀base:Heap,K.In base->base.Ns mainGlobals mg->m6 P w K mg base CX k I fd [x] sp)(l:∀(s:Shared)(u:Value),BindsTo s fd ⟨[u],[]⟩ [(x,u)])(hsp:∀H:Hp,Only H->dg K H a (ns.map V.int)->sp [.ref a] H (λv _=>v=.bl true) λ_ _ _=>False)(Xz:∀H e g,CX [] H c (λ_ _ _=>False) e g->False):codeAny (model P w) callerA (.call (.ref I) ⟨[.ref a],[]⟩) (λr g=>r=.ok (.ret (.bool true))/\OldK c.heap g.heap/\g.os=c.os/\AllBare g.gens) c:=by
 have Q:=rH N;have y:=N.length--from an abstract heap in which nothing but the script may be tracked
 have j:∀H:Hp,Only H->dg K H a (ns.map V.int)->mJ P w H c.heap->(∀b,H b≠none->b=a)->(H a≠none->K.lookup a=none)->codeAny (model P w) callerA (.call (.ref I) ⟨[.ref a],[]⟩) (λr g=>r=.ok (.ret (.bool true))/\OldK c.heap g.heap/\g.os=c.os/\AllBare g.gens) c:=by
  intro H U hS hok X hK;have Y:∀{b:Addr}{o:Obj},c.heap.get? b=some o->H b=none->(uQ c.heap H).get? b=some o:=λe n=>IW e n;have Xy:∀{b:Addr}{o:Obj}{es:Array DictEntry}{ep:Nat},c.heap.get? b=some o->o.data=.dict es ep->H b=none:=λ{b o es ep}e d=>by cases q:H b with|none=>rfl|some u=>have L:b=a:=X b (by rw[q];simp);subst L;rw[E]at e;cases e;have d':Data.seq vs.toArray _=Data.dict es ep:=d;cases d'
  have i:∀{b:Addr}{m:Str->Option Value},c.heap.Ns b m->(uQ c.heap H).Ns b m:=λ{b m}⟨o,es,ep,e,d,r⟩=>⟨o,es,ep,Y e (Xy e d),d,r⟩;have A:K.In (uQ c.heap H):=λb o e=>Y (M b o e) (by cases q:H b with|none=>rfl|some u=>have L:b=a:=X b (by rw[q];simp);subst L;rw[hK (by rw[q];simp)]at e;cases e);have hM:Mod K mg (uQ c.heap H):=⟨A,i p,⟨G,i f,J⟩,let⟨mc,h1,h2⟩:=t;⟨mc,i h1,h2⟩⟩;have e0:K7 P w K mg (uQ c.heap H) callerA [] c H:=⟨rfl,hM,λb o e=>KJ e,Nat.le_of_eq (Cv _ _),trivial,λb f=>absurd (show b∈([]:List Addr)from f) (by simp),hok,.of_eq hg⟩;refine codeAny_mono ((F _ A (i p)).run callerA [] c H ⟨[.ref a],[]⟩ [.ref a] [.ref a] _ _ hr e0 (l c (.ref a)) (.cons rfl .nil) (hsp H U hS)) λr g h=>?_;cases r with|error e=>exact(Xz H e g h).elim|ok fl=>cases fl with|next=>exact False.elim h|brk=>exact False.elim h|cont=>exact False.elim h|ret u=>obtain⟨v,H',os,bare,un,B,r',q⟩:=h;have q':v=.bl true:=q;subst q';obtain rfl:u=Value.bool true:=r';refine⟨rfl,OldK.of_keep λb o e=>?_,os,bare⟩;cases q:H b with|none=>exact un.keep b o e q (by intro z;exact absurd (show b∈([]:List Addr)from z) (by simp)) (by simp)|some u=>
        rcases U b with z|⟨ob,xs,z⟩;.rw[q]at z;cases z
        .have z2:=un.qR b ob _ z;obtain⟨Z,_⟩:=hok b _ z;obtain⟨e2,_⟩:=B b _ z2;rw[e]at Z;cases Z;exact e2
 cases hk:K.lookup a with|some o=>--the script is one of the module's own objects
   have e:=M a o hk;rw[E]at e;cases e;refine j (λ_=>none) (λ_=>.inl rfl) (.inr ⟨_,vs.toArray,_,hk,rfl,rfl,rfl,by rw[size_toArray,y];exact O,by simpa using Q⟩) (λb u z=>by have C:(none:Option HO)=some u:=z;cases C) (λb z=>absurd rfl z) λz=>absurd rfl z|none=>
   refine j (λb=>if b=a then some (.cG {cls:=.type "list",data:=.seq vs.toArray} (.lst (ns.map V.int)))else none) (λb=>?_) (.inl (.inr ⟨{cls:=.type "list",data:=.seq vs.toArray},if_pos rfl⟩)) (λb u z=>?_) (λb z=>?_) λ_=>hk
   . by_cases f:b=a;.exact .inr ⟨_,_,if_pos f⟩
     .exact .inl (if_neg f)
   . by_cases f:b=a;.have C:=(if_pos f).symm.trans z;cases C;subst f;exact⟨E,by rw[length_map];exact O,vs,_,Q,E⟩
     .have C:=(if_neg f).symm.trans z;cases C
   . by_cases f:b=a;.exact f
     .exact absurd (if_neg f) z
theorem Ld{l:PySem.W.OpenLaw}{n k:Nat}{q:Program}{i:List Str}{I:(Str->Option Value)->Heap->Prop}{C:World->Heap->Prop}{d:DefRec}{K:Params->PySem.W.Frag}{CX:World->Hg}{sp:World->Sp}{x:Str}(J:l.most=some n)(t:n<=sizeLine)(y:d.params.defaults=[])(hr:iU k callerA)(L:∀(w:World)(h:Heap),C w h->(K w.params).In h)(F:∀(w:World)(mg:Str->Option Value)(r:Addr)(h:Heap),(K w.params).In h->h.Ns mainGlobals mg->mg d.name=some (.ref r)->∃ fd:FuncData,(∀(s:Shared)(u:Value),BindsTo s fd ⟨[u],[]⟩ [(x,u)])/\∀base:Heap,(K w.params).In base->base.Ns mainGlobals mg->m6 l.prog w (K w.params) mg base (CX w) k r fd [x] (sp w))(hsp:∀(w:World)(H:Hp)(a:Addr)(ns:List Int),ns.length<=n->Only H->dg (K w.params) H a (ns.map V.int)->sp w [.ref a] H (λv _=>v=.bl true) λ_ _ _=>False)(M:∀(w:World)(H:Hp)(s:Shared)(e:Value)(A:Shared),CX w [] H s (λ_ _ _=>False) e A->False):PySem.W.WalkO q i I C l.row.toRowW d [] (λf vs=>PySem.call f vs):=by refine Z9.vY J y λw s₀ m mg mb r o pm cd N a vs ns G Y ho hd O B p j c Q=>?_;have E:=L w _ Y;obtain⟨fd,U,X⟩:=F w mg r _ E G.T.g B;exact EY E G.T.g G.T.b G.T.builtins G.T.nolimit Q p j (le_trans c t) hr X U (λH Z hS=>hsp w H a ns c Z hS) λH e A=>M w H m e A
theorem Hx{l:PySem.W.OpenLaw}{n k:Nat}{q:Program}{b:List Str}{o:(Str->Option Value)->Heap->Prop}{j:World->Heap->Prop}{d:DefRec}{K:Params->PySem.W.Frag}{CX:Hg}{sp:PySem.W.Frag->Sp}{x:Str}(p:l.most=some n)(c:n<=sizeLine)(g:d.params.defaults=[])(hr:iU k callerA)(r:∀(w:World)(h:Heap),j w h->(K w.params).In h)(F:∀(w:World)(mg:Str->Option Value)(m:Addr)(h:Heap),(K w.params).In h->h.Ns mainGlobals mg->mg d.name=some (.ref m)->∃ fd:FuncData,(∀(s:Shared)(u:Value),BindsTo s fd ⟨[u],[]⟩ [(x,u)])/\∀base:Heap,(K w.params).In base->base.Ns mainGlobals mg->m6 l.prog w (K w.params) mg base CX k m fd [x] (sp (K w.params)))(hsp:∀(K:PySem.W.Frag)(H:Hp)(a:Addr)(ns:List Int),ns.length<=n->Only H->dg K H a (ns.map V.int)->sp K [.ref a] H (λv _=>v=.bl true) λ_ _ _=>False)(t:∀(H:Hp)(s:Shared)(e:Value)(i:Shared),CX [] H s (λ_ _ _=>False) e i->False):PySem.W.WalkO q b o j l.row.toRowW d [] (λf vs=>PySem.call f vs):=Ld (K:=K) (CX:=λ_=>CX) (sp:=λw=>sp (K w.params)) p c g hr r F (λw H a ns h1 y A=>hsp (K w.params) H a ns h1 y A) λ_ H s e i=>t H s e i
end L2
namespace L2
open PySem PySem.Spec PyProof.Rows
noncomputable def iz(s:Stmt):Arguments:=match s with|.FunctionDef _ a _ _ _ _ _ _ _ _=>a|_=>{posonlyargs:=[],args:=[],vararg:=none,kwonlyargs:=[],kw_defaults:=[],kwarg:=none,defaults:=[]}
noncomputable def fG(s:Stmt):List Stmt:=match s with|.FunctionDef _ _ b _ _ _ _ _ _ _=>b|_=>[]
noncomputable def aB(s:Stmt):Scope:=match s with|.FunctionDef _ _ _ _ _ _ a _ _ _=>a|_=>{kind:=.function,names:=[],isGenerator:=false,isCoroutine:=false}
abbrev IK:Hg:=λ_ _ _ _ _ _=>False
abbrev E0:XK:=λ_ _ _=>False
theorem Ft{X:Cx}:Passes IK X E0:=λ_ _ _ _ _ _ _ h=>h.elim
structure jO(K:PySem.W.Frag)(x qual:Str)(st:Stmt)(f:Addr)(fd:FuncData):Prop where
 ex:∃(oc:Value)(od:Option Addr)(kV doc pm:Value)(an:Option Addr)(cdv ct:Value)(osl:Array (Option Value)),fd=PySem.W.fnOf x qual (iz st) (fG st) (aB st) .none kV doc pm an cdv ct/\K.lookup f=some ⟨oc,od,.func fd,osl⟩/\PySem.W.codeIn K cdv qual=true
 kp:keepIn K (.ref f)=true
section
variable{P:Program}{w:World}{K:PySem.W.Frag}{mg:Str->Option Value}{base:Heap}
theorem jO.ok{x qual:Str}{st:Stmt}{f:Addr}{fd:FuncData}{N ps:List Str}{k:Nat}{sp:Sp}(F:jO K x qual st f fd)(S:aK N ps (aB st))(len:∀vs H Q E,sp vs H Q E->vs.length=ps.length)(a:∀(cdv:Value)(A:Around)(outer:List Env)(s:Shared)(H:Hp)(vs:List V)(Q:VK)(E:XK),iU k (A.deeper (envOfC qual (aB st) s.heap.objs.size f cdv))->sp vs H Q E->∃t,sH (yG IK P w K mg base N qual (aB st) f cdv A outer s H E).WW (fG st) t/\t {nx:=λ_ c=>Q .non c,rt:=Q} (start N vs) H):m6 P w K mg base IK (k+1) f fd ps sp:=by obtain⟨oc,i,kV,e,j,l,cdv,ct,g,rfl,lk,b⟩:=F.ex;refine WX lk b S len λA outer s H vs Q E hr hsp=>?_;obtain⟨t,h,q⟩:=a cdv A outer s H vs Q E hr hsp;exact⟨t,h.WW,q⟩
theorem jO.binds{x qual:Str}{st:Stmt}{f:Addr}{fd:FuncData}{ps:List Str}(F:jO K x qual st f fd)(h:∀(kV a b:Value)(c:Option Addr)(cdv ct:Value)(e:List Value),e.length=ps.length->bindArgs (PySem.W.fnOf x qual (iz st) (fG st) (aB st) .none kV a b c cdv ct) ⟨e,[]⟩=pure (ps.zip e)):Binds K fd ps []:=by obtain⟨oc,j,kV,a,b,c,cdv,ct,g,rfl,lk,i⟩:=F.ex;exact .all (h kV a b c cdv ct)
theorem Rx{x qual:Str}{st:Stmt}{f:Addr}{oc:Value}{h e:Option Addr}{b:Array (Option Value)}{kV a g cdv ct:Value}(l:K.lookup f=some ⟨oc,h,.func (PySem.W.fnOf x qual (iz st) (fG st) (aB st) .none kV a g e cdv ct),b⟩)(c:PySem.W.codeIn K cdv qual=true)(k:keepIn K (.ref f)=true):jO K x qual st f (PySem.W.fnOf x qual (iz st) (fG st) (aB st) .none kV a g e cdv ct):=⟨⟨oc,h,kV,a,g,e,cdv,ct,b,rfl,l,c⟩,k⟩
end
def aC(H a:Hp):Prop:=∀b o,H b=some o->a b=some o
theorem aC.refl(H:Hp):aC H H:=λ_ _ h=>h
theorem aC.trans{H e f:Hp}(a:aC H e)(b:aC e f):aC H f:=λc o h=>b c o (a c o h)
theorem aC.seq{K:PySem.W.Frag}{H b:Hp}{a:Addr}{xs:List V}(e:aC H b)(h:dg K H a xs):dg K b a xs:=by
 rcases h with(h|⟨o,h⟩)|h;.exact .inl (.inl (e _ _ h))
 .exact .inl (.inr ⟨o,e _ _ h⟩)
 .exact .inr h
end L2
end
section
namespace HH
open PySem
inductive Dc where|k(kvs:List (Int×Int))|t(kvs:List (List Int×Int))deriving DecidableEq
inductive D where|non|bl(b:Bool)|int(i:Int)|str(s:Str)|tup(ds:List D)|lst(ds:List D)|cX(m:Dc)|dv(ks:List Int)(ds:List D)deriving Inhabited
mutual
noncomputable def jq:D->D->Bool|.non,.non=>true|.bl a,.bl b=>a==b|.bl a,.int i=>(if a then(1:Int)else 0)==i|.int i,.bl a=>i==(if a then(1:Int)else 0)|.int i,.int j=>i==j|.str a,.str b=>a==b|.tup xs,.tup ys=>iW xs ys|.lst xs,.lst ys=>iW xs ys|.cX a,.cX b=>decide (a=b)|.dv a xs,.dv b ys=>decide (a=b)&&iW xs ys|_,_=>false
noncomputable def iW:List D->List D->Bool|[],[]=>true|x::xs,y::ys=>jq x y&&iW xs ys|_,_=>false
end
theorem lE:iW [] []=true:=rfl
theorem iD{x y:D}{xs ys:List D}:iW (x::xs) (y::ys)=(jq x y&&iW xs ys):=rfl
theorem qD{y:D}{ys:List D}:iW [] (y::ys)=false:=rfl
theorem qz{x:D}{xs:List D}:iW (x::xs) []=false:=rfl
theorem pqi{i j}:jq (.int i) (.int j)=(i==j):=(rfl)
theorem pqt{x y}:jq (.tup x) (.tup y)=iW x y:=(rfl)
theorem YZ{x y}:jq (.lst x) (.lst y)=iW x y:=(rfl)
noncomputable def gO:Nat->D->Bool|_,.non=>true|_,.bl _=>true|_,.int _=>true|_,.str _=>true|0,.tup _=>false|0,.lst _=>false|_,.cX _=>false|_,.dv _ _=>false|n+1,.tup ds=>ds.all (gO n)|n+1,.lst ds=>ds.all (gO n)
theorem bA{n:Nat}{ds:List D}:gO (n+1) (.tup ds)=ds.all (gO n):=rfl
theorem bj{n:Nat}{ds:List D}:gO (n+1) (.lst ds)=ds.all (gO n):=rfl
theorem bz{n:Nat}{m:Dc}:gO n (.cX m)=false:=by cases n<;>rfl
theorem bu{n:Nat}{k:List Int}{ds:List D}:gO n (.dv k ds)=false:=by cases n<;>rfl
theorem bB{ds:List D}:gO 0 (.tup ds)=false:=rfl
theorem bw{ds:List D}:gO 0 (.lst ds)=false:=rfl
inductive Sl where|aP|val(b:Bool)(d:D)|own(b:Bool)(ds:List D)|lent(ds:List D)|tH(m:Dc)|hold(rows:List (List D))|cJ(kvs:List (Int×D))deriving Inhabited
inductive R where|val(d:D)|own(ds:List D)deriving Inhabited
noncomputable def R.d:R->D|.val d=>d|.own ds=>.lst ds
inductive Res(α:Type)where|ok(a:α)(ρ:List Sl)|exc(k:Nat)(ρ:List Sl)|stuck deriving Inhabited
noncomputable def Res.bind{b c:Type}(f:b->List Sl->Res c):Res b->Res c|.ok a ρ=>f a ρ|.exc _ _=>.stuck|.stuck=>.stuck
noncomputable def lift{b:Type}(o:Option b)(ρ:List Sl):Res b:=match o with|some a=>.ok a ρ|none=>.stuck
inductive Op where|add|sub|mul|fdiv|mod|pow|shl|shr|band|DQ|din|acE deriving DecidableEq
inductive Cm where|eq|ne|lt|le|gt|ge|isN|MK|inn|BX|isT|XC|leT deriving DecidableEq
inductive Ty where|int|bool|str|tuple|list|none deriving DecidableEq
inductive YX where|len|list|tuple|max2|Jc|sum|all|int|keys|sset|Vg|nD|rvT deriving DecidableEq
inductive P where|var(i:Nat)|con(d:D)|bin(o:Op)(a b:P)|neg(a:P)|not(a:P)|and(a b:P)|or(a b:P)|cmp(o:Cm)(a b:P)|Oz(c a b:P)|tup(as:List P)|lst(as:List P)|idx(a i:P)|slice(a lo hi:P)|call(f:Nat)(as:List P)|blt(b:YX)(as:List P)|inst(ts:List Ty)(a:P)|comp(src:P)(n:Nat)(is:List Nat)(one:Bool)(test:Option P)(elt:P)|xF(a b:P)|Vh(a:P)|zip(a b:P)|vw(x:Nat)|OD(x:Nat)(k:P)|OJ(x:Nat)(k:P)(neg:Bool)|xG(k e:Int)deriving Inhabited
noncomputable abbrev lim:Nat:=16777216
noncomputable def qu:D->D->Option R|.int i,.int j=>some (.val (.int (i+j)))|.lst xs,.lst ys=>if xs.length+ys.length<=lim then some (.own (xs++ys))else none|.tup xs,.tup ys=>if xs.length+ys.length<=lim then some (.val (.tup (xs++ys)))else none|.str x,.str y=>if x.length+y.length<=lim then some (.val (.str (x++y)))else none|_,_=>none
noncomputable def qC:D->D->Option R|.int i,.int j=>if((-18446744073709551616<i/\i<18446744073709551616)\/(-18446744073709551616<j/\j<18446744073709551616))then some (.val (.int (i*j)))else none|.lst xs,.int k=>if 0<=k/\0<xs.length/\xs.length*k.toNat<=lim then some (.own (replicate k.toNat xs).flatten)else none|.tup xs,.int k=>if 0<=k/\0<xs.length/\xs.length*k.toNat<=lim then some (.val (.tup (replicate k.toNat xs).flatten))else none|_,_=>none
noncomputable def wj:D->D->Option R|.int i,.int j=>some (.val (.int (i-j)))|_,_=>none
noncomputable def qL:D->D->Option R|.int i,.int j=>if 0<j/\j<1606938044258990275541962092341162602522202993782792835301376 then some (.val (.int (i/j)))else none|_,_=>none
noncomputable def vW:D->D->Option R|.int i,.int j=>if 0<j then some (.val (.int (i%j)))else none|_,_=>none
noncomputable def vV:D->D->Option R|.int i,.int j=>if 0<=j/\j<=1000/\i.natAbs<18446744073709551616 then some (.val (.int (i^j.toNat)))else none|_,_=>none
noncomputable def Gz:D->D->Option R|.int i,.int j=>if 0<=j/\j<=1000/\i.natAbs<18446744073709551616 then some (.val (.int (i*2^j.toNat)))else none|_,_=>none
noncomputable def Ga:D->D->Option R|.int i,.int j=>if 0<=j then some (.val (.int (i/2^j.toNat)))else none|_,_=>none
noncomputable def yh:D->D->Option R|.int i,.int j=>some (.val (.int (Builtin.bitAnd i j)))|_,_=>none
noncomputable def flat:D->Bool|.tup _=>false|.lst _=>false|.cX _=>false|.dv _ _=>false|_=>true
noncomputable def items:D->Option (List D)|.lst ds=>some ds|.tup ds=>some ds|_=>none
noncomputable def Rz:D->Option (List D)|.tup ds=>some ds|_=>none
noncomputable def G7(x y:D):Option Bool:=if gO 8 x&&gO 8 y then some (jq x y)else none
noncomputable def Gd(x y:D):Option Bool:=if gO 8 x&&gO 8 y then some (!jq x y)else none
noncomputable def JB(f:Int->Int->Bool):D->D->Option Bool|.int i,.int j=>some (f i j)|_,_=>none
noncomputable def ji:D->Bool|.non=>true|_=>false
noncomputable def Z4(neg:Bool)(x:D):D->Option Bool|.non=>some (if neg then !ji x else ji x)|_=>none
noncomputable def vp(neg:Bool)(x y:D):Option Bool:=(items y).bind λys=>if(flat x&&ys.all flat)=true then some (if neg then !(ys.any λy=>jq y x)else ys.any λy=>jq y x)else none
noncomputable def cmT(neg:Bool):D->D->Option Bool|.bl b,.bl true=>some (if neg then !b else b)|_,_=>none
noncomputable def cF:List Int->List Int->Bool|[],_::_=>true|i::a,j::b=>decide (i<j)||(decide (i=j)&&cF a b)|_,[]=>false
noncomputable def cU:D->Int|.int i=>i|_=>0
noncomputable def mZ:D->List Int|.int i=>[i]|.tup ds=>ds.map cU|_=>[]
noncomputable def cR:D->Bool|.int _=>true|_=>false
noncomputable def Dc.get:Dc->D->Option (Option Int)|.k kvs,.int i=>some ((kvs.find? λa=>decide (a.1=i)).map (·.2))|_,_=>none
noncomputable def putD{b:Type}[DecidableEq b](kvs:List (b×Int))(k:b)(v:Int):List (b×Int):=if(kvs.any λa=>decide (a.1=k))=true then kvs.map (λa=>if a.1=k then(a.1,v)else a)else kvs++[(k,v)]
noncomputable def Dc.put:Dc->D->Int->Option Dc|.k kvs,.int i,v=>if kvs.length<lim then some (.k (putD kvs i v))else none|_,_,_=>none
noncomputable def lu(kvs:List (Int×D))(k:Int):Option D:=(kvs.find? λp=>decide (p.1=k)).map (·.2)
noncomputable def gq(kvs:List (Int×D))(k:Int)(d:D):List (Int×D):=if(kvs.any λp=>decide (p.1=k))=true then kvs.map (λp=>if p.1=k then(p.1,d)else p)else kvs++[(k,d)]
noncomputable def vO(neg:Bool):D->D->Option R|.int k,.dv ks _=>some (.val (.bl (if neg then !ks.contains k else ks.contains k)))|_,_=>none
noncomputable def Aj:D->D->Option R|.cX m,k=>(m.get k).bind λo=>o.map λv=>.val (.int v)|.dv ks ds,.int k=>(lu (ks.zip ds) k).map .val|_,_=>none
noncomputable def rA:Op->D->D->Option R|.add=>qu|.mul=>qC|.sub=>wj|.fdiv=>qL|.mod=>vW|.pow=>vV|.shl=>Gz|.shr=>Ga|.band=>yh|.DQ=>Aj|.din=>vO false|.acE=>vO true
noncomputable def VR:D->D->Option Bool|.int i,.int j=>some (decide (i<j))|.tup xs,.tup ys=>if(xs.all cR&&ys.all cR)=true then some (cF (xs.map cU) (ys.map cU))else none|_,_=>none
noncomputable def aaK:D->D->Option Bool|.int i,.int j=>some (decide (i<=j))|.tup xs,.tup ys=>if(xs.all cR&&ys.all cR)=true then some (!cF (ys.map cU) (xs.map cU))else none|_,_=>none
noncomputable def cm:Cm->D->D->Option Bool|.eq=>G7|.ne=>Gd|.lt=>VR|.le=>JB λi j=>decide (i<=j)|.leT=>aaK|.gt=>JB λi j=>decide (j<i)|.ge=>JB λi j=>decide (j<=i)|.isN=>Z4 false|.MK=>Z4 true|.inn=>vp false|.BX=>vp true|.isT=>cmT false|.XC=>cmT true
noncomputable def uZ(o:Cm)(x y:D):Option R:=(cm o x y).map λk=>.val (.bl k)
noncomputable def Ei(ks:List Int)(k:Int):List Int:=if ks.contains k=true then ks else ks++[k]
noncomputable def dW(ns:List Int):List Int:=ns.foldl Ei []
noncomputable def iT(n:Nat)(i:Int):Option Nat:=if 0<=i then(if i<n then some i.toNat else none)else if-(n:Int)<=i then some (i+n).toNat else none
noncomputable def at'{a:Type}(xs:List a)(i:Int):Option a:=(iT xs.length i).bind λj=>xs[j]?
noncomputable def cT(n d:Nat):Option Int->Nat|none=>d|some i=>if 0<=i then min i.toNat n else(i+n).toNat
noncomputable def cut{a:Type}(xs:List a)(lo b:Option Int):List a:=(xs.drop (cT xs.length 0 lo)).take (cT xs.length xs.length b-cT xs.length 0 lo)
noncomputable def iy:D->Option Int|.int i=>some i|_=>none
noncomputable def zy:D->Option Bool|.bl b=>some b|_=>none
noncomputable def dl2(k e:Int)(x y:D):Option R:=(iy x).bind λi=>(iy y).bind λj=>if i=k then none else some (.val (.dv [k,i] [.int e,.int j]))
noncomputable def lixR:D->D->Option R|.lst ds,.int i=>(ds.mapM iy).bind λns=>if i∈ns/\ns.length<=1000 then some (.val (.int (ns.idxOf i)))else none|_,_=>none
noncomputable def JS(x y:D):Option R:=(items x).bind λds=>(iy y).bind λi=>(at' ds i).map .val
noncomputable def Fe(x:D):Option R:=(iy x).map λi=>.val (.int (-i))
noncomputable def Vu:P->Bool|.con .non=>true|_=>false
noncomputable def part(p:P)(d:D):Option (Option Int):=if Vu p then some none else(iy d).map some
noncomputable def M9:D->Option (Option Int)->Option (Option Int)->Option R|.lst xs,some lo,some a=>some (.own (cut xs lo a))|.tup xs,some lo,some a=>some (.val (.tup (cut xs lo a)))|_,_,_=>none
noncomputable def cA:Ty->D->Bool|.int,.int _=>true|.int,.bl _=>true|.bool,.bl _=>true|.str,.str _=>true|.tuple,.tup _=>true|.list,.lst _=>true|.none,.non=>true|_,_=>false
noncomputable def yg:D->Bool|.tup (x::xs)=>(x::xs).all cR|_=>false
noncomputable def sortable(ds:List D):Bool:=decide (ds.length<=16777216)&&(ds.all cR||ds.all yg)
noncomputable def n8(ds:List D):List D:=ds.mergeSort λa b=>!cF (mZ b) (mZ a)
noncomputable def ordP:D->Bool|.tup [.int _,.tup ws]=>ws.all cR|_=>false
noncomputable def flP:D->D|.tup [.int h,.tup ws]=>.tup (.int h::ws)|d=>d
noncomputable def ufP:D->D|.tup (.int h::ws)=>.tup [.int h,.tup ws]|d=>d
noncomputable def zB:D->Option (List D)|.lst ds=>some ds|_=>none
noncomputable def prD(p:Int×Int):D:=.tup [.int p.1,.int p.2]
noncomputable def blt:YX->List D->Option R|.len,[x]=>(items x).map λds=>.val (.int ds.length)|.list,[x]=>(items x).map λds=>.own ds|.tuple,[x]=>(items x).map λds=>.val (.tup ds)|.max2,[.int i,.int j]=>some (.val (.int (if i<j then j else i)))|.Jc,[x]=>((items x).bind λds=>ds.mapM iy).bind λns=>ns.min?.map λi=>.val (.int i)|.sum,[x]=>((items x).bind λds=>ds.mapM iy).map λns=>.val (.int ns.sum)|.all,[x]=>((zB x).bind λds=>ds.mapM zy).map λbs=>.val (.bl (bs.all id))|.int,[.int i]=>some (.val (.int i))|.int,[.bl b]=>some (.val (.int (if b then 1 else 0)))|.keys,[.cX (.k kvs)]=>some (.val (.tup (kvs.map λp=>.int p.1)))|.keys,[.dv ks _]=>some (.val (.tup (ks.map D.int)))|.sset,[.lst ds]=>if ds.length<64/\ds.all cR=true then some (.own (n8 ((dW (ds.map cU)).map D.int)))else none|.sset,[.tup ds]=>if ds.length<64/\ds.all cR=true then some (.own (n8 ((dW (ds.map cU)).map D.int)))else none|.Vg,[.dv ks _]=>if ks.length<=16777216 then some (.own (ks.map D.int))else none|.rvT,[.lst ds]=>some (.val (.tup ds.reverse))|.nD,[.dv ks _]=>if ks.length<64 then some (.own (n8 (ks.map D.int)))else none|_,_=>none
noncomputable def pk(ρ:List Sl)(i:Nat):Option D:=match ρ[i]?with|some (.val _ d)=>some d|some (.own _ ds)=>some (.lst ds)|some (.lent ds)=>some (.lst ds)|_=>none
noncomputable def Ef(ρ:List Sl)(i:Nat):Option (List D):=match pk ρ i with|some (.lst ds)=>some ds|_=>none
noncomputable abbrev Ev:=List Sl->Res R
noncomputable def isVar:P->Option Nat|.var i=>some i|_=>none
noncomputable def cV(i:Option Nat)(e:Ev)(ρ:List Sl):Res D:=match i with|some i=>lift (pk ρ i) ρ|none=>(e ρ).bind λr ρ=>.ok r.d ρ
noncomputable def jD(i:Option Nat)(e:Ev)(j:Option Nat)(f:Ev)(ρ:List Sl):Res (D×D):=match i with|some i=>(lift (pk ρ i) ρ).bind λ_ ρ=>(cV j f ρ).bind λy ρ=>(lift (pk ρ i) ρ).bind λx ρ=>.ok (x,y) ρ|none=>(cV none e ρ).bind λx ρ=>(cV j f ρ).bind λy ρ=>.ok (x,y) ρ
noncomputable def iu(e:Ev)(ρ:List Sl):Res Bool:=(e ρ).bind λr ρ=>lift (zy r.d) ρ
inductive Arg where|dat(d:D)|tmp(ds:List D)|dY(i:Nat)
noncomputable def rY:R->Arg|.val d=>.dat d|.own ds=>.tmp ds
noncomputable def bK(ρ:List Sl):List Arg->List Nat->Option (List Sl)|[],_=>some []|.dat d::r,a=>(bK ρ r a).map λs=>.val false d::s|.tmp ds::r,a=>(bK ρ r a).map λs=>.own false ds::s|.dY i::r,a=>match ρ[i]?with|some (.val _ d)=>(bK ρ r a).map λs=>.val false d::s|some (.own _ ds)=>if a.contains i then none else(bK ρ r (i::a)).map λs=>.own true ds::s|some (.lent ds)=>if a.contains i then none else(bK ρ r (i::a)).map λs=>.lent ds::s|_=>none
theorem yd{ρ:List Sl}{u:List Nat}:bK ρ [] u=some []:=rfl
theorem zp{ρ:List Sl}{d:D}{r:List Arg}{u:List Nat}:bK ρ (.dat d::r) u=(bK ρ r u).map λs=>.val false d::s:=rfl
theorem yt{ρ:List Sl}{d:List D}{r:List Arg}{u:List Nat}:bK ρ (.tmp d::r) u=(bK ρ r u).map λs=>.own false d::s:=rfl
theorem pQ{ρ:List Sl}{i:Nat}{r:List Arg}{u:List Nat}:bK ρ (.dY i::r) u=match ρ[i]?with|some (.val _ d)=>(bK ρ r u).map λs=>.val false d::s|some (.own _ ds)=>if u.contains i then none else(bK ρ r (i::u)).map λs=>.own true ds::s|some (.lent ds)=>if u.contains i then none else(bK ρ r (i::u)).map λs=>.lent ds::s|_=>none:=rfl
noncomputable def aM(i:Nat):List Arg->List Sl->Option Sl|.dY k::as,s::ss=>if k=i then some s else aM i as ss|.dat _::as,_::ss=>aM i as ss|.tmp _::as,_::ss=>aM i as ss|_,_=>none
noncomputable def dB:Sl->Option Sl->Sl|.own b _,some (.own _ ds)=>.own b ds|.own b _,some (.val _ d)=>.val b d|s,_=>s
noncomputable def dJ(as:List Arg)(ss:List Sl):Nat->List Sl->List Sl|_,[]=>[]|i,s::ρ=>dB s (aM i as ss)::dJ as ss (i+1) ρ
theorem oY{as:List Arg}{ss:List Sl}{i:Nat}:dJ as ss i []=[]:=rfl
theorem lz{as:List Arg}{ss:List Sl}{i:Nat}{s:Sl}{ρ:List Sl}:dJ as ss i (s::ρ)=dB s (aM i as ss)::dJ as ss (i+1) ρ:=rfl
noncomputable abbrev Call:=Nat->List Sl->Res R
noncomputable def qm(c:Call)(f:Nat)(as:List Arg)(ρ:List Sl):Res R:=match bK ρ as []with|none=>.stuck|some args=>match c f args with|.ok r a=>.ok r (dJ as a 0 ρ)|.exc _ _=>.stuck|.stuck=>.stuck
noncomputable def put(ρ:List Sl)(i:Nat)(s:Sl):Option (List Sl):=match ρ[i]?with|some .aP=>some (ρ.set i s)|some (.val false _)=>some (ρ.set i s)|some (.own false _)=>some (ρ.set i s)|_=>none
noncomputable def putAll(ρ:List Sl):List Nat->List D->Option (List Sl)|[],[]=>some ρ|i::a,d::ds=>(put ρ i (.val false d)).bind λρ=>putAll ρ a ds|_,_=>none
theorem ju{ρ:List Sl}:putAll ρ [] []=some ρ:=rfl
theorem iJ{ρ:List Sl}{i:Nat}{a:List Nat}{d:D}{ds:List D}:putAll ρ (i::a) (d::ds)=(put ρ i (.val false d)).bind λρ=>putAll ρ a ds:=rfl
theorem mQ{ρ:List Sl}{i:Nat}{a:List Nat}:putAll ρ (i::a) []=none:=rfl
theorem m8{ρ:List Sl}{d:D}{ds:List D}:putAll ρ [] (d::ds)=none:=rfl
noncomputable def bY(ρ:List Sl)(a:List Nat)(one:Bool)(d:D):Option (List Sl):=match one,a,d with|true,[i],d=>put ρ i (.val false d)|false,a,.tup ds=>putAll ρ a ds|_,_,_=>none
noncomputable def srcOf(i:Option Nat)(e:Ev)(ρ:List Sl):Res (List D):=match i with
 |some i=>match ρ[i]?with|some (.val _ d)=>lift (items d) ρ|some (.own _ ds)=>.ok ds (ρ.set i (.lent ds))|some (.lent ds)=>.ok ds ρ|_=>.stuck
 |none=>(e ρ).bind λr ρ=>lift (items r.d) ρ
noncomputable def aY(a:List Sl)(i:Option Nat)(ρ:List Sl):List Sl:=match i with
 |some i=>match a[i]?with|some (.own b ds)=>ρ.set i (.own b ds)|_=>ρ
 |none=>ρ
noncomputable def srcY(i:Nat)(f:Ev)(ρ:List Sl):Res (List D×List Sl):=(f ρ).bind λr a=>(lift (items r.d) a).bind λes a=>match a[i]?with|some (.val _ d)=>(lift (items d) a).bind λds a=>.ok ((es.zip ds).map λp=>D.tup [p.1,p.2],a) a|some (.own _ ds)=>.ok ((es.zip ds).map λp=>D.tup [p.1,p.2],a) (a.set i (.lent ds))|some (.lent ds)=>.ok ((es.zip ds).map λp=>D.tup [p.1,p.2],a) a|_=>.stuck
noncomputable def turns(f:List Nat)(one:Bool)(a:List Sl->Res Bool)(e:Ev):List D->List D->List Sl->Res (List D)|[],c,ρ=>.ok c ρ|d::r,c,ρ=>match bY ρ f one d with|none=>.stuck|some ρ=>(a ρ).bind λb ρ=>if b then(e ρ).bind λx ρ=>turns f one a e r (c++[x.d]) ρ else turns f one a e r c ρ
theorem Hf{b:List Nat}{o:Bool}{f:List Sl->Res Bool}{e:Ev}{a:List D}{ρ:List Sl}:turns b o f e [] a ρ=.ok a ρ:=rfl
theorem GQ{c:List Nat}{o:Bool}{f:List Sl->Res Bool}{e:Ev}{d:D}{r a:List D}{ρ:List Sl}:turns c o f e (d::r) a ρ=match bY ρ c o d with|none=>.stuck|some ρ=>(f ρ).bind λb ρ=>if b then(e ρ).bind λx ρ=>turns c o f e r (a++[x.d]) ρ else turns c o f e r a ρ:=rfl
mutual
noncomputable def ev(c:Call):P->List Sl->Res R
 |.var i,ρ=>match ρ[i]?with|some (.val _ d)=>.ok (.val d) ρ|some (.own b ds)=>.ok (.val (.lst ds)) (ρ.set i (.val b (.lst ds)))|some (.tH (.k kvs))=>.ok (.val (.cX (.k kvs))) (ρ.set i (.val false (.cX (.k kvs))))|some (.cJ kvs)=>.ok (.val (.dv (kvs.map (·.1)) (kvs.map (·.2)))) (ρ.set i (.val false (.dv (kvs.map (·.1)) (kvs.map (·.2)))))|_=>.stuck
 |.con d,ρ=>.ok (.val d) ρ|.bin o a b,ρ=>(jD (isVar a) (ev c a) (isVar b) (ev c b) ρ).bind λg ρ=>lift (rA o g.1 g.2) ρ|.neg a,ρ=>(cV (isVar a) (ev c a) ρ).bind λx ρ=>lift (Fe x) ρ|.not a,ρ=>(iu (ev c a) ρ).bind λb ρ=>.ok (.val (.bl (!b))) ρ|.and a b,ρ=>(iu (ev c a) ρ).bind λx ρ=>if x then(iu (ev c b) ρ).bind λy ρ=>.ok (.val (.bl y)) ρ else .ok (.val (.bl false)) ρ|.or a b,ρ=>(iu (ev c a) ρ).bind λx ρ=>if x then .ok (.val (.bl true)) ρ else(iu (ev c b) ρ).bind λy ρ=>.ok (.val (.bl y)) ρ|.cmp o a b,ρ=>(jD (isVar a) (ev c a) (isVar b) (ev c b) ρ).bind λg ρ=>lift (uZ o g.1 g.2) ρ|.Oz t a b,ρ=>(iu (ev c t) ρ).bind λk ρ=>if k then(ev c a ρ).bind λr ρ=>.ok (.val r.d) ρ else(ev c b ρ).bind λr ρ=>.ok (.val r.d) ρ|.tup as,ρ=>(evs c as ρ).bind λds ρ=>.ok (.val (.tup ds)) ρ|.lst as,ρ=>(evs c as ρ).bind λds ρ=>.ok (.own ds) ρ|.idx a i,ρ=>(jD (isVar a) (ev c a) (isVar i) (ev c i) ρ).bind λg ρ=>lift (JS g.1 g.2) ρ|.slice a l h,ρ=>match isVar a with|some i=>(lift (pk ρ i) ρ).bind λ_ ρ=>(cV (isVar l) (ev c l) ρ).bind λy ρ=>(cV (isVar h) (ev c h) ρ).bind λz ρ=>(lift (pk ρ i) ρ).bind λx ρ=>lift (M9 x (part l y) (part h z)) ρ|none=>(cV none (ev c a) ρ).bind λx ρ=>(cV (isVar l) (ev c l) ρ).bind λy ρ=>(cV (isVar h) (ev c h) ρ).bind λz ρ=>lift (M9 x (part l y) (part h z)) ρ
 |.call f as,ρ=>(yp c as ρ).bind λxs ρ=>qm c f xs ρ|.blt b [a],ρ=>(cV (isVar a) (ev c a) ρ).bind λx ρ=>lift (blt b [x]) ρ|.blt b as,ρ=>(evs c as ρ).bind λds ρ=>lift (blt b ds) ρ|.inst A a,ρ=>(cV (isVar a) (ev c a) ρ).bind λx ρ=>.ok (.val (.bl (A.any λt=>cA t x))) ρ|.comp src n B one u v,ρ=>(srcOf (isVar src) (ev c src) ρ).bind λds q=>if ds.length<=lim then(turns B one (u6 c u) (ev c v) ds [] (q++replicate n .aP)).bind λxs s=>.ok (.own xs) (aY ρ (isVar src) (s.take q.length))else .stuck|.xF a b,ρ=>(jD (isVar a) (ev c a) (isVar b) (ev c b) ρ).bind λg ρ=>lift ((iy g.1).bind λi=>(iy g.2).bind λj=>if-1000000<=i/\i<=1000000000/\j<=1000000000/\-1000000000<=j then some (.val (.lst ((List.range (j-i).toNat).map λ(k:Nat)=>D.int (i+(k:Int)))))else none) ρ|.Vh a,ρ=>(ev c a ρ).bind λr ρ=>lift ((items r.d).map λds=>.val (.lst (ds.mapIdx λi d=>D.tup [.int (i:Int),d]))) ρ|.zip a b,ρ=>(ev c a ρ).bind λx ρ=>(ev c b ρ).bind λy ρ=>lift ((items x.d).bind λds=>(items y.d).map λes=>.val (.lst ((ds.zip es).map λp=>D.tup [p.1,p.2]))) ρ|.vw x,ρ=>match ρ[x]?with|some (.tH m)=>.ok (.val (.cX m)) (ρ.set x (.val false (.cX m)))|some (.cJ kvs)=>.ok (.val (.dv (kvs.map (·.1)) (kvs.map (·.2)))) (ρ.set x (.val false (.dv (kvs.map (·.1)) (kvs.map (·.2)))))|some (.own b ds)=>.ok (.val (.lst ds)) (ρ.set x (.val b (.lst ds)))|some (.val _ d)=>.ok (.val d) ρ|_=>.stuck
 |.OD x k,ρ=>match ρ[x]?with
   |some (.cJ _)=>(cV (isVar k) (ev c k) ρ).bind λw ρ=>match ρ[x]?with|some (.cJ kvs)=>lift ((iy w).bind λk=>(lu kvs k).map .val) ρ|_=>.stuck
   |_=>.stuck
 |.OJ x k neg,ρ=>(cV (isVar k) (ev c k) ρ).bind λw ρ=>match ρ[x]?with|some (.cJ kvs)=>lift ((iy w).map λk=>.val (.bl (if neg then !(kvs.map (·.1)).contains k else(kvs.map (·.1)).contains k))) ρ|_=>.stuck
 |.xG k e,ρ=>.ok (.val (.dv [k] [.int e])) ρ
noncomputable def evs(c:Call):List P->List Sl->Res (List D)|[],ρ=>.ok [] ρ|a::r,ρ=>(ev c a ρ).bind λx ρ=>(evs c r ρ).bind λxs ρ=>.ok (x.d::xs) ρ
noncomputable def yp(c:Call):List P->List Sl->Res (List Arg)|[],ρ=>.ok [] ρ|a::r,ρ=>match isVar a with|some i=>(lift (pk ρ i) ρ).bind λ_ ρ=>(yp c r ρ).bind λxs ρ=>.ok (.dY i::xs) ρ|none=>(ev c a ρ).bind λx ρ=>(yp c r ρ).bind λxs ρ=>.ok (rY x::xs) ρ
noncomputable def u6(c:Call):Option P->List Sl->Res Bool|none,ρ=>.ok true ρ|some t,ρ=>iu (ev c t) ρ
end
theorem HD{c:Call}{ρ:List Sl}:evs c [] ρ=.ok [] ρ:=rfl
theorem GD{c:Call}{a:P}{r:List P}{ρ:List Sl}:evs c (a::r) ρ=(HH.ev c a ρ).bind λx ρ=>(evs c r ρ).bind λxs ρ=>.ok (x.d::xs) ρ:=rfl
theorem Fb{c:Call}{ρ:List Sl}:yp c [] ρ=.ok [] ρ:=rfl
theorem zx{c:Call}{a:P}{r:List P}{ρ:List Sl}:yp c (a::r) ρ=match isVar a with|some i=>(lift (pk ρ i) ρ).bind λ_ ρ=>(yp c r ρ).bind λxs ρ=>.ok (.dY i::xs) ρ|none=>(HH.ev c a ρ).bind λx ρ=>(yp c r ρ).bind λxs ρ=>.ok (rY x::xs) ρ:=rfl
theorem E1{c i ρ}:ev c (.var i) ρ=match ρ[i]?with|some (.val _ d)=>.ok (.val d) ρ|some (.own b ds)=>.ok (.val (.lst ds)) (ρ.set i (.val b (.lst ds)))|some (.tH (.k kvs))=>.ok (.val (.cX (.k kvs))) (ρ.set i (.val false (.cX (.k kvs))))|some (.cJ kvs)=>.ok (.val (.dv (kvs.map (·.1)) (kvs.map (·.2)))) (ρ.set i (.val false (.dv (kvs.map (·.1)) (kvs.map (·.2)))))|_=>.stuck:=(rfl)
theorem E2{c d ρ}:ev c (.con d) ρ=.ok (.val d) ρ:=(rfl)
theorem E3{c o a b ρ}:ev c (.bin o a b) ρ=(jD (isVar a) (ev c a) (isVar b) (ev c b) ρ).bind λe ρ=>lift (rA o e.1 e.2) ρ:=(rfl)
theorem E4{c a ρ}:ev c (.neg a) ρ=(cV (isVar a) (ev c a) ρ).bind λx ρ=>lift (Fe x) ρ:=(rfl)
theorem E5{c a ρ}:ev c (.not a) ρ=(iu (ev c a) ρ).bind λb ρ=>.ok (.val (.bl (!b))) ρ:=(rfl)
theorem E6{c a b ρ}:ev c (.and a b) ρ=(iu (ev c a) ρ).bind λx ρ=>if x then(iu (ev c b) ρ).bind λy ρ=>.ok (.val (.bl y)) ρ else .ok (.val (.bl false)) ρ:=(rfl)
theorem E7{c a b ρ}:ev c (.or a b) ρ=(iu (ev c a) ρ).bind λx ρ=>if x then .ok (.val (.bl true)) ρ else(iu (ev c b) ρ).bind λy ρ=>.ok (.val (.bl y)) ρ:=(rfl)
theorem E8{c o a b ρ}:ev c (.cmp o a b) ρ=(jD (isVar a) (ev c a) (isVar b) (ev c b) ρ).bind λe ρ=>lift (uZ o e.1 e.2) ρ:=(rfl)
theorem E9{c t a b ρ}:ev c (.Oz t a b) ρ=(iu (ev c t) ρ).bind λk ρ=>if k then(ev c a ρ).bind λr ρ=>.ok (.val r.d) ρ else(ev c b ρ).bind λr ρ=>.ok (.val r.d) ρ:=(rfl)
theorem E10{c as ρ}:ev c (.tup as) ρ=(evs c as ρ).bind λds ρ=>.ok (.val (.tup ds)) ρ:=(rfl)
theorem E11{c as ρ}:ev c (.lst as) ρ=(evs c as ρ).bind λds ρ=>.ok (.own ds) ρ:=(rfl)
theorem E12{c a i ρ}:ev c (.idx a i) ρ=(jD (isVar a) (ev c a) (isVar i) (ev c i) ρ).bind λb ρ=>lift (JS b.1 b.2) ρ:=(rfl)
theorem E13{c a l h ρ}:ev c (.slice a l h) ρ=match isVar a with|some i=>(lift (pk ρ i) ρ).bind λ_ ρ=>(cV (isVar l) (ev c l) ρ).bind λy ρ=>(cV (isVar h) (ev c h) ρ).bind λz ρ=>(lift (pk ρ i) ρ).bind λx ρ=>lift (M9 x (part l y) (part h z)) ρ|none=>(cV none (ev c a) ρ).bind λx ρ=>(cV (isVar l) (ev c l) ρ).bind λy ρ=>(cV (isVar h) (ev c h) ρ).bind λz ρ=>lift (M9 x (part l y) (part h z)) ρ:=(rfl)
theorem E14{c f as ρ}:ev c (.call f as) ρ=(yp c as ρ).bind λxs ρ=>qm c f xs ρ:=(rfl)
theorem E15{c b a ρ}:ev c (.blt b [a]) ρ=(cV (isVar a) (ev c a) ρ).bind λx ρ=>lift (blt b [x]) ρ:=(rfl)
theorem E16{c b x y r ρ}:ev c (.blt b (x::y::r)) ρ=(evs c (x::y::r) ρ).bind λds ρ=>lift (blt b ds) ρ:=(rfl)
theorem Wc{c b ρ}:ev c (.blt b []) ρ=(evs c [] ρ).bind λds ρ=>lift (blt b ds) ρ:=(rfl)
theorem E17{c ts a ρ}:ev c (.inst ts a) ρ=(cV (isVar a) (ev c a) ρ).bind λx ρ=>.ok (.val (.bl (ts.any λt=>cA t x))) ρ:=(rfl)
theorem E18{c src n is one test elt ρ}:ev c (.comp src n is one test elt) ρ=(srcOf (isVar src) (ev c src) ρ).bind λds a=>if ds.length<=lim then(turns is one (u6 c test) (ev c elt) ds [] (a++replicate n .aP)).bind λxs b=>.ok (.own xs) (aY ρ (isVar src) (b.take a.length))else .stuck:=(rfl)
theorem E19{c a b ρ}:ev c (.xF a b) ρ=(jD (isVar a) (ev c a) (isVar b) (ev c b) ρ).bind λe ρ=>lift ((iy e.1).bind λi=>(iy e.2).bind λj=>if-1000000<=i/\i<=1000000000/\j<=1000000000/\-1000000000<=j then some (.val (.lst ((List.range (j-i).toNat).map λ(k:Nat)=>D.int (i+(k:Int)))))else none) ρ:=(rfl)
theorem E20{c a ρ}:ev c (.Vh a) ρ=(ev c a ρ).bind λr ρ=>lift ((items r.d).map λds=>.val (.lst (ds.mapIdx λi d=>D.tup [.int (i:Int),d]))) ρ:=(rfl)
theorem E21{c a b ρ}:ev c (.zip a b) ρ=(ev c a ρ).bind λx ρ=>(ev c b ρ).bind λy ρ=>lift ((items x.d).bind λds=>(items y.d).map λes=>.val (.lst ((ds.zip es).map λp=>D.tup [p.1,p.2]))) ρ:=(rfl)
theorem E22{c x ρ}:ev c (.vw x) ρ=match ρ[x]?with|some (.tH m)=>.ok (.val (.cX m)) (ρ.set x (.val false (.cX m)))|some (.cJ kvs)=>.ok (.val (.dv (kvs.map (·.1)) (kvs.map (·.2)))) (ρ.set x (.val false (.dv (kvs.map (·.1)) (kvs.map (·.2)))))|some (.own b ds)=>.ok (.val (.lst ds)) (ρ.set x (.val b (.lst ds)))|some (.val _ d)=>.ok (.val d) ρ|_=>.stuck:=(rfl)
theorem E23{c x k ρ}:ev c (.OD x k) ρ=match ρ[x]?with
 |some (.cJ _)=>(cV (isVar k) (ev c k) ρ).bind λa ρ=>match ρ[x]?with|some (.cJ kvs)=>lift ((iy a).bind λk=>(lu kvs k).map .val) ρ|_=>.stuck
 |_=>.stuck:=(rfl)
theorem E24{c x k neg ρ}:ev c (.OJ x k neg) ρ=(cV (isVar k) (ev c k) ρ).bind λa ρ=>match ρ[x]?with|some (.cJ kvs)=>lift ((iy a).map λk=>.val (.bl (if neg then !(kvs.map (·.1)).contains k else(kvs.map (·.1)).contains k))) ρ|_=>.stuck:=(rfl)
theorem E25{c k e ρ}:ev c (.xG k e) ρ=.ok (.val (.dv [k] [.int e])) ρ:=(rfl)
noncomputable def pckA(c:Call)(f p x t:Nat)(ρ:List Sl):Res R:=match pk ρ x with|some (.lst (_::_))=>ev c (.call f [.var p,.var x,.var t]) ρ|some (.lst [])=>ev c (.call f [.var p,.lst [.con (.int 0)],.var t]) ρ|_=>.stuck
inductive S where|pass|brk|cont|bad|expr(e:P)|asg(i:Nat)(e:P)|unp(i:List Nat)(e:P)|DR(x:Nat)(i e:P)|app(x:Nat)(e:P)|ret(e:P)|XD|ifs(c:P)(a b:List S)|jH(src:P)(i:List Nat)(one:Bool)(body:List S)|whl(c:P)(body:List S)|Jd(x:Nat)(i:P)(sub:Bool)(e:P)|Je(x:Nat)(src:P)(k:Nat)(is:List Nat)(one:Bool)(elt:P)|Jf(x:Nat)(i e:P)|DW(src:P)(is:List Nat)(one:Bool)(body:List S)|cG(x:Nat)|DX(x:Nat)|gq(x:Nat)(k e:P)|Vi(x y f g a:Nat)deriving Inhabited
inductive Fl where|next|brk|cont|ret(r:R)deriving Inhabited
noncomputable def HR:Nat->D->Bool|_,.non=>true|_,.bl _=>true|_,.int _=>true|_,.str _=>true|k+1,.tup ds=>ds.all (HR k)|_,_=>false
noncomputable def tY(c:Call)(x y f g a:Nat)(ρ:List Sl):Res Fl:=match ρ[a]?with|some (.val _ d)=>if HR 3 d=true/\a≠x then(lift (put ρ x .aP) ρ).bind λρ1 _=>match c f [.val false d]with|.ok (.val (.tup [.int z,.lst ds,.tup es])) _=>if ds.all cR=true/\es.all cR=true/\ds.length<1000 then match c g [.val false d,.val false (.tup [.int z,.lst ds,.tup es])]with|.ok (.val (.bl true)) _=>(lift (put ρ1 y (.val false (.tup [.int z,.lst ds,.tup es]))) ρ1).bind λb _=>.ok .next b|.ok (.val (.bl false)) _=>.ok (.ret (.val (.bl false))) ρ1|_=>.stuck else .stuck|_=>.stuck else .stuck|_=>.stuck
noncomputable def lfs:Sl->Bool|.aP=>true|.val _ d=>HR 9 d|_=>false
noncomputable def scl:D->Bool|.bl _=>true|.int _=>true|.non=>true|_=>false
noncomputable def Nx:Sl->Sl|.val b d=>if HR 9 d=true then .val b d else .aP|_=>.aP
noncomputable def fshT(y a b:Nat)(fl:Fl)(ρ:List Sl):Res Fl:=match fl with
 |.ret (.val d)=>if scl d=true then .ok (.ret (.val d)) (ρ.map Nx)else .stuck|.next=>match ρ[a]?,ρ[b]?with|some (.val false (.lst ds)),some (.val false (.lst es))=>if ds.all cR=true/\es.all cR=true/\ds.length<1000/\0<es.length/\a≠y/\b≠y then(lift (put (ρ.map Nx) y (.val false (.tup [.lst ds,.lst es]))) ρ).bind λρ2 _=>.ok .next ρ2 else .stuck|_,_=>.stuck
 |_=>.stuck
noncomputable def xU:R->Sl|.val d=>.val false d|.own ds=>.own false ds
noncomputable def iH(a:List Nat)(one:Bool)(body:List Sl->Res Fl):List D->List Sl->Res Fl|[],ρ=>.ok .next ρ|d::r,ρ=>match bY ρ a one d with|none=>.stuck|some ρ=>(body ρ).bind λfl ρ=>match fl with|.next=>iH a one body r ρ|.cont=>iH a one body r ρ|.brk=>.ok .next ρ|.ret r=>.ok (.ret r) ρ
theorem Iv{a:List Nat}{o:Bool}{b:List Sl->Res Fl}{ρ:List Sl}:iH a o b [] ρ=.ok .next ρ:=rfl
theorem yN{a:List Nat}{o:Bool}{b:List Sl->Res Fl}{d:D}{r:List D}{ρ:List Sl}:iH a o b (d::r) ρ=match bY ρ a o d with|none=>.stuck|some ρ=>(b ρ).bind λfl ρ=>match fl with|.next=>iH a o b r ρ|.cont=>iH a o b r ρ|.brk=>.ok .next ρ|.ret r=>.ok (.ret r) ρ:=rfl
noncomputable def o4(a:List Sl->Res Bool)(body:List Sl->Res Fl):Nat->List Sl->Res Fl|0,_=>.stuck|n+1,ρ=>(a ρ).bind λb ρ=>if b then(body ρ).bind λfl ρ=>match fl with|.next=>o4 a body n ρ|.cont=>o4 a body n ρ|.brk=>.ok .next ρ|.ret r=>.ok (.ret r) ρ else .ok .next ρ
theorem Qm{f:List Sl->Res Bool}{b:List Sl->Res Fl}{ρ:List Sl}:o4 f b 0 ρ=.stuck:=rfl
theorem Gu{f:List Sl->Res Bool}{b:List Sl->Res Fl}{n:Nat}{ρ:List Sl}:o4 f b (n+1) ρ=(f ρ).bind λx ρ=>if x then(b ρ).bind λfl ρ=>match fl with|.next=>o4 f b n ρ|.cont=>o4 f b n ρ|.brk=>.ok .next ρ|.ret r=>.ok (.ret r) ρ else .ok .next ρ:=rfl
noncomputable def gj(c:List Nat)(one:Bool)(b:Ev):List D->List (List D)->List Sl->Res (List (List D))|[],a,ρ=>.ok a ρ|d::r,a,ρ=>match bY ρ c one d with|none=>.stuck|some ρ=>(b ρ).bind λx ρ=>match x with|.own ds=>gj c one b r (a++[ds]) ρ|.val _=>.stuck
theorem Ip{b:List Nat}{o:Bool}{e:Ev}{a:List (List D)}{ρ:List Sl}:gj b o e [] a ρ=.ok a ρ:=rfl
theorem Ek{b:List Nat}{o:Bool}{e:Ev}{d:D}{r:List D}{a:List (List D)}{ρ:List Sl}:gj b o e (d::r) a ρ=match bY ρ b o d with|none=>.stuck|some ρ=>(e ρ).bind λx ρ=>match x with|.own ds=>gj b o e r (a++[ds]) ρ|.val _=>.stuck:=rfl
noncomputable def rowAt(a:List (List D))(k:Int):Option (List D):=(iT a.length k).bind λr=>a[r]?
noncomputable def jr(a:List (List D))(k:Int)(f:List D->Option (List D)):Option (List (List D)):=(iT a.length k).bind λr=>(a[r]?).bind λrow=>(f row).map λb=>a.set r b
noncomputable def setAt(l:Int)(d:D)(row:List D):Option (List D):=(iT row.length l).map λm=>row.set m d
noncomputable def iM(ρ:List Sl)(x:Nat):Option (List (List D)):=match ρ[x]?with|some (.hold a)=>some a|_=>none
noncomputable def uM(ρ:List Sl)(x:Nat)(k:D):Option (List D):=(iM ρ x).bind λa=>(iy k).bind λk=>rowAt a k
noncomputable def Ci(ρ:List Sl)(x:Nat)(o:Option (List (List D))):Res Fl:=match o with|some a=>.ok .next (ρ.set x (.hold a))|none=>.stuck
noncomputable def rowOne(x r:Nat)(b c e:List Sl->Res D)(ρ:List Sl):Res Fl:=(c ρ).bind λk ρ=>(lift ((iM ρ x).bind λa=>(a[r]?).bind λrow=>(iy k).bind λk=>(at' row k).bind iy) ρ).bind λu ρ=>(e ρ).bind λl ρ=>(lift ((iM ρ x).bind λa=>(a[r]?).bind λrow=>(iy l).bind λl=>(at' row l).bind iy) ρ).bind λv ρ=>(b ρ).bind λj ρ=>Ci ρ x ((iM ρ x).bind λa=>(a[r]?).bind λrow=>(iy j).bind λj=>(setAt j (.int (u+v)) row).map λf=>a.set r f)
noncomputable def RP(x y:Nat)(a b c:List Sl->Res D):Nat->Nat->List Sl->Res Fl|0,_,ρ=>.ok .next ρ|m+1,r,ρ=>(lift (put ρ y .aP) ρ).bind λρ _=>(rowOne x r a b c ρ).bind λ_ ρ=>RP x y a b c m (r+1) ρ
noncomputable def Q3(a:List Nat)(one:Bool)(body:List Sl->Res Fl)(b:List Sl->Option (Nat×List Sl)):List D->List Sl->Option (Nat×List Sl)|[],_=>none|d::r,ρ=>match bY ρ a one d with|none=>none|some ρ=>match b ρ with|some x=>some x|none=>match body ρ with|.ok .next ρ1=>Q3 a one body b r ρ1|.ok .cont ρ1=>Q3 a one body b r ρ1|_=>none
noncomputable def Sy(a:List Sl->Res Bool)(body:List Sl->Res Fl)(b:List Sl->Option (Nat×List Sl)):Nat->List Sl->Option (Nat×List Sl)|0,_=>none|n+1,ρ=>match a ρ with
   |.ok true ρ1=>match b ρ1 with|some x=>some x|none=>match body ρ1 with|.ok .next ρ2=>Sy a body b n ρ2|.ok .cont ρ2=>Sy a body b n ρ2|_=>none
   |_=>none
noncomputable def Pu:P->P|.idx a _=>a|.blt .sum [.comp s _ _ _ _ _]=>s|e=>e
noncomputable def arg0:P->P|.call _ (a::_)=>a|e=>e
noncomputable def zV(c:Call)(e:P)(ρ:List Sl):Option (Nat×List Sl):=match Pu e with
 |.call f as=>match yp c as ρ with
   |.ok xs ρ1=>match bK ρ1 xs []with
     |some args=>match c f args with|.exc k a=>some (k,dJ xs a 0 ρ1)|_=>none
     |none=>none
   |_=>none
 |_=>none
mutual
noncomputable def ex(c:Call)(n:Nat):S->List Sl->Res Fl
 |.pass,ρ=>.ok .next ρ|.brk,ρ=>.ok .brk ρ|.cont,ρ=>.ok .cont ρ|.bad,_=>.stuck|.expr e,ρ=>(ev c e ρ).bind λ_ ρ=>.ok .next ρ|.asg i e,ρ=>(ev c e ρ).bind λr ρ=>(lift (put ρ i (xU r)) ρ).bind λp _=>.ok .next p|.unp q e,ρ=>(ev c e ρ).bind λr ρ=>match r.d with|.tup ds=>(lift (putAll ρ q ds) ρ).bind λp _=>.ok .next p|_=>.stuck
 |.DR x i e,ρ=>(ev c e ρ).bind λr ρ=>(lift (pk ρ x) ρ).bind λ_ ρ=>(cV (isVar i) (ev c i) ρ).bind λk ρ=>match ρ[x]?,k with
   |some (.own b ds),.int k=>match iT ds.length k with|some j=>.ok .next (ρ.set x (.own b (ds.set j r.d)))|none=>.stuck
   |_,_=>.stuck
 |.app x e,ρ=>(lift (Ef ρ x) ρ).bind λ_ ρ=>(ev c e ρ).bind λr ρ=>match ρ[x]?with|some (.own b ds)=>if ds.length<lim then .ok .next (ρ.set x (.own b (ds++[r.d])))else .stuck|_=>.stuck
 |.ret e,ρ=>match isVar e with
   |some i=>match ρ[i]?with|some (.own false ds)=>.ok (.ret (.own ds)) (ρ.set i .aP)|_=>(ev c e ρ).bind λr ρ=>.ok (.ret r) ρ
   |none=>(ev c e ρ).bind λr ρ=>.ok (.ret r) ρ
 |.XD,ρ=>.ok (.ret (.val .non)) ρ|.ifs t a b,ρ=>(iu (ev c t) ρ).bind λk ρ=>if k then gY c n a ρ else gY c n b ρ|.jH src q one body,ρ=>(srcOf (isVar src) (ev c src) ρ).bind λds h=>(iH q one (gY c n body) ds h).bind λfl o=>.ok fl (aY ρ (isVar src) o)|.whl t body,ρ=>o4 (iu (ev c t)) (gY c n body) n ρ|.Jd x i sub e,ρ=>(lift (Ef ρ x) ρ).bind λ_ ρ=>(cV (isVar i) (ev c i) ρ).bind λk ρ=>(lift (Ef ρ x) ρ).bind λl ρ=>(lift ((iy k).bind λi=>at' l i) ρ).bind λa ρ=>(cV (isVar e) (ev c e) ρ).bind λb ρ=>match a,b,ρ[x]?,k with
   |.int u,.int v,some (.own w ds),.int k=>match iT ds.length k with|some j=>.ok .next (ρ.set x (.own w (ds.set j (.int (if sub then u-v else u+v)))))|none=>.stuck
   |_,_,_,_=>.stuck
 |.Je x src k q one s,ρ=>(srcOf (isVar src) (ev c src) ρ).bind λds h=>if ds.length<=lim then(gj q one (ev c s) ds [] (h++replicate k .aP)).bind λm o=>(lift (put (aY ρ (isVar src) (o.take h.length)) x (.hold m)) ρ).bind λp _=>.ok .next p else .stuck|.Jf x i e,ρ=>(cV (isVar i) (ev c i) ρ).bind λk ρ=>(lift (uM ρ x k) ρ).bind λ_ ρ=>(ev c e ρ).bind λr ρ=>Ci ρ x ((iM ρ x).bind λm=>(iy k).bind λk=>jr m k λrow=>if row.length<lim then some (row++[r.d])else none)|.DW src q one body,ρ=>(ev c src ρ).bind λr h=>(lift (items r.d) h).bind λds h=>iH q one (gY c n body) ds h|.cG x,ρ=>match ρ[x]?with|some (.hold m)=>.ok .next (ρ.set x (.val false (.lst (m.map D.lst))))|_=>.stuck
 |.DX x,ρ=>match ρ[x]?with|some .aP=>.ok .next (ρ.set x (.cJ []))|some (.cJ _)=>.ok .next (ρ.set x (.cJ []))|some (.val false _)=>.ok .next (ρ.set x (.cJ []))|_=>.stuck
 |.gq x k e,ρ=>(ev c e ρ).bind λr ρ=>match ρ[x]?with
   |some (.cJ _)=>(cV (isVar k) (ev c k) ρ).bind λA ρ=>match ρ[x]?,A with|some (.cJ kvs),.int k=>if kvs.length<lim then .ok .next (ρ.set x (.cJ (gq kvs k r.d)))else .stuck|_,_=>.stuck
   |_=>.stuck
 |.Vi x y f g a,ρ=>tY c x y f g a ρ
noncomputable def gY(c:Call)(n:Nat):List S->List Sl->Res Fl|[],ρ=>.ok .next ρ|s::r,ρ=>(ex c n s ρ).bind λfl ρ=>match fl with|.next=>gY c n r ρ|fl=>.ok fl ρ
noncomputable def exX(c:Call)(n:Nat):S->List Sl->Option (Nat×List Sl)
 |.ifs t a b,ρ=>match iu (ev c t) ρ with|.ok x ρ1=>if x then DG c n a ρ1 else DG c n b ρ1|_=>none
 |.jH src f one body,ρ=>match zV c src ρ with|some x=>some x|none=>match srcOf (isVar src) (ev c src) ρ with|.ok ds ρ1=>(Q3 f one (gY c n body) (DG c n body) ds ρ1).map λx=>(x.1,aY ρ (isVar src) x.2)|_=>none
 |.ret e,ρ=>zV c e ρ|.asg _ e,ρ=>zV c e ρ|.expr e,ρ=>zV c e ρ|.whl t body,ρ=>Sy (iu (ev c t)) (gY c n body) (DG c n body) n ρ|_,_=>none
noncomputable def DG(c:Call)(n:Nat):List S->List Sl->Option (Nat×List Sl)|[],_=>none|s::r,ρ=>match exX c n s ρ with|some x=>some x|none=>match ex c n s ρ with|.ok .next ρ1=>DG c n r ρ1|_=>none
end
theorem X1{c n ρ}:ex c n (.pass) ρ=.ok .next ρ:=(rfl)
theorem X2{c n ρ}:ex c n (.brk) ρ=.ok .brk ρ:=(rfl)
theorem X3{c n ρ}:ex c n (.cont) ρ=.ok .cont ρ:=(rfl)
theorem X4{c n ρ}:ex c n (.bad) ρ=.stuck:=(rfl)
theorem X5{c n e ρ}:ex c n (.expr e) ρ=(ev c e ρ).bind λ_ ρ=>.ok .next ρ:=(rfl)
theorem X6{c n i e ρ}:ex c n (.asg i e) ρ=(ev c e ρ).bind λr ρ=>(lift (put ρ i (xU r)) ρ).bind λa _=>.ok .next a:=(rfl)
theorem X7{c n is e ρ}:ex c n (.unp is e) ρ=(ev c e ρ).bind λr ρ=>match r.d with|.tup ds=>(lift (putAll ρ is ds) ρ).bind λa _=>.ok .next a|_=>.stuck:=(rfl)
theorem X8{c n x i e ρ}:ex c n (.DR x i e) ρ=(ev c e ρ).bind λr ρ=>(lift (pk ρ x) ρ).bind λ_ ρ=>(cV (isVar i) (ev c i) ρ).bind λk ρ=>match ρ[x]?,k with
 |some (.own b ds),.int k=>match iT ds.length k with|some j=>.ok .next (ρ.set x (.own b (ds.set j r.d)))|none=>.stuck
 |_,_=>.stuck:=(rfl)
theorem X9{c n x e ρ}:ex c n (.app x e) ρ=(lift (Ef ρ x) ρ).bind λ_ ρ=>(ev c e ρ).bind λr ρ=>match ρ[x]?with|some (.own b ds)=>if ds.length<lim then .ok .next (ρ.set x (.own b (ds++[r.d])))else .stuck|_=>.stuck:=(rfl)
theorem YK{c n e ρ}:ex c n (.ret e) ρ=match isVar e with
 |some i=>match ρ[i]?with|some (.own false ds)=>.ok (.ret (.own ds)) (ρ.set i .aP)|_=>(ev c e ρ).bind λr ρ=>.ok (.ret r) ρ
 |none=>(ev c e ρ).bind λr ρ=>.ok (.ret r) ρ:=(rfl)
theorem X11{c n ρ}:ex c n (.XD) ρ=.ok (.ret (.val .non)) ρ:=(rfl)
theorem Z0{c n t a b ρ}:ex c n (.ifs t a b) ρ=(iu (ev c t) ρ).bind λk ρ=>if k then gY c n a ρ else gY c n b ρ:=(rfl)
theorem X13{c n src is one body ρ}:ex c n (.jH src is one body) ρ=(srcOf (isVar src) (ev c src) ρ).bind λds a=>(iH is one (gY c n body) ds a).bind λfl b=>.ok fl (aY ρ (isVar src) b):=(rfl)
theorem X14{c n t body ρ}:ex c n (.whl t body) ρ=o4 (iu (ev c t)) (gY c n body) n ρ:=(rfl)
theorem X15{c n x i sub e ρ}:ex c n (.Jd x i sub e) ρ=(lift (Ef ρ x) ρ).bind λ_ ρ=>(cV (isVar i) (ev c i) ρ).bind λk ρ=>(lift (Ef ρ x) ρ).bind λl ρ=>(lift ((iy k).bind λi=>at' l i) ρ).bind λa ρ=>(cV (isVar e) (ev c e) ρ).bind λb ρ=>match a,b,ρ[x]?,k with
 |.int u,.int v,some (.own f ds),.int k=>match iT ds.length k with|some j=>.ok .next (ρ.set x (.own f (ds.set j (.int (if sub then u-v else u+v)))))|none=>.stuck
 |_,_,_,_=>.stuck:=(rfl)
theorem X16{c n x src k is one elt ρ}:ex c n (.Je x src k is one elt) ρ=(srcOf (isVar src) (ev c src) ρ).bind λds a=>if ds.length<=lim then(gj is one (ev c elt) ds [] (a++replicate k .aP)).bind λe b=>(lift (put (aY ρ (isVar src) (b.take a.length)) x (.hold e)) ρ).bind λf _=>.ok .next f else .stuck:=(rfl)
theorem X17{c n x i e ρ}:ex c n (.Jf x i e) ρ=(cV (isVar i) (ev c i) ρ).bind λk ρ=>(lift (uM ρ x k) ρ).bind λ_ ρ=>(ev c e ρ).bind λr ρ=>Ci ρ x ((iM ρ x).bind λa=>(iy k).bind λk=>jr a k λrow=>if row.length<lim then some (row++[r.d])else none):=(rfl)
theorem X18{c n src is one body ρ}:ex c n (.DW src is one body) ρ=(ev c src ρ).bind λr a=>(lift (items r.d) a).bind λds a=>iH is one (gY c n body) ds a:=(rfl)
theorem X19{c n x ρ}:ex c n (.cG x) ρ=match ρ[x]?with|some (.hold a)=>.ok .next (ρ.set x (.val false (.lst (a.map D.lst))))|_=>.stuck:=(rfl)
theorem X20{c n x ρ}:ex c n (.DX x) ρ=match ρ[x]?with|some .aP=>.ok .next (ρ.set x (.cJ []))|some (.cJ _)=>.ok .next (ρ.set x (.cJ []))|some (.val false _)=>.ok .next (ρ.set x (.cJ []))|_=>.stuck:=(rfl)
theorem X21{c n x k e ρ}:ex c n (.gq x k e) ρ=(ev c e ρ).bind λr ρ=>match ρ[x]?with
 |some (.cJ _)=>(cV (isVar k) (ev c k) ρ).bind λa ρ=>match ρ[x]?,a with|some (.cJ kvs),.int k=>if kvs.length<lim then .ok .next (ρ.set x (.cJ (gq kvs k r.d)))else .stuck|_,_=>.stuck
 |_=>.stuck:=(rfl)
theorem X22{c n x y f g a ρ}:ex c n (.Vi x y f g a) ρ=tY c x y f g a ρ:=(rfl)
structure Fd where
 np:Nat
 nn:Nat
 body:List S deriving Inhabited
noncomputable abbrev Tab:=Nat->Option Fd
noncomputable def enter(c:Call)(n:Nat)(d:Fd)(args:List Sl):Res R:=if args.length=d.np/\d.np<=d.nn then match gY c n d.body (args++replicate (d.nn-d.np) .aP)with|.ok .next ρ=>.ok (.val .non) (ρ.take d.np)|.ok (.ret r) ρ=>.ok r (ρ.take d.np)|_=>match DG c n d.body (args++replicate (d.nn-d.np) .aP)with|some (k,ρ)=>.exc k (ρ.take d.np)|none=>.stuck else .stuck
noncomputable def run(Γ:Tab)(w:Nat):Nat->Call|0,_,_=>.stuck|n+1,f,args=>match Γ f with|some d=>enter (run Γ w n) w d args|none=>.stuck
end HH
end
section
namespace HH
open PySem L2
variable{ρ:List Sl}{σ:St}{v:V}
noncomputable def Dc.ho:Dc->HO|.k kvs=>.dK (kvs.map λp=>(Sum.inl p.1,V.int p.2))|.t kvs=>.dT (kvs.map λp=>(p.1.map Sum.inl,V.int p.2))
noncomputable def Ai(ks:List Int)(vs:List V):HO:=.dK ((ks.zip vs).map λp=>(Sum.inl p.1,p.2))
section
variable(K:PySem.W.Frag)
mutual
def Rep(F:Hp):V->D->Prop|v,.non=>v=.non|v,.bl b=>v=.bl b|v,.int i=>v=.int i|v,.str x=>v=.str x|v,.tup ds=>∃a xs,v=.ref a/\dN K F a xs/\aA F xs ds|v,.lst ds=>∃a xs,v=.ref a/\dg K F a xs/\aA F xs ds|v,.cX m=>∃a o,v=.ref a/\F a=some (.cG o m.ho)|v,.dv ks ds=>∃a o vs,v=.ref a/\F a=some (.cG o (Ai ks vs))/\aA F vs ds/\ks.length=ds.length
def aA(F:Hp):List V->List D->Prop|vs,[]=>vs=[]|vs,d::ds=>∃v r,vs=v::r/\Rep F v d/\aA F r ds
end
end
section
variable{K:PySem.W.Frag}{F F' H H':Hp}
theorem aC.eZ{a:Addr}{xs:List V}(e:aC H H')(h:dN K H a xs):dN K H' a xs:=by
 rcases h with(h|⟨o,h⟩)|h;.exact .inl (.inl (e _ _ h))
 .exact .inl (.inr ⟨o,e _ _ h⟩)
 .exact .inr h
mutual
theorem Rep.mono(e:aC F F'):∀{d:D}{v:V},Rep K F v d->Rep K F' v d|.non,_,h=>by rw[Rep]at h ⊢;exact h|.bl _,_,h=>by rw[Rep]at h ⊢;exact h|.int _,_,h=>by rw[Rep]at h ⊢;exact h|.str _,_,h=>by rw[Rep]at h ⊢;exact h|.tup ds,_,h=>by rw[Rep]at h ⊢;obtain⟨a,xs,rfl,hs,r⟩:=h;exact⟨a,xs,rfl,aC.eZ e hs,aA.mono e r⟩|.lst ds,_,h=>by rw[Rep]at h ⊢;obtain⟨a,xs,rfl,hs,r⟩:=h;exact⟨a,xs,rfl,e.seq hs,aA.mono e r⟩|.cX m,_,h=>by rw[Rep]at h ⊢;obtain⟨a,o,rfl,hs⟩:=h;exact⟨a,o,rfl,e _ _ hs⟩|.dv ks ds,_,h=>by rw[Rep]at h ⊢;obtain⟨a,o,vs,rfl,hs,r,b⟩:=h;exact⟨a,o,vs,rfl,e _ _ hs,aA.mono e r,b⟩theorem aA.mono(e:aC F F'):∀{ds:List D}{vs:List V},aA K F vs ds->aA K F' vs ds|[],_,h=>by rw[aA]at h ⊢;exact h|d::ds,_,h=>by rw[aA]at h ⊢;obtain⟨v,r,rfl,h1,a⟩:=h;exact⟨v,r,rfl,Rep.mono e h1,aA.mono e a⟩end
theorem aA.nil:aA K F [] []:=by rw[aA]
theorem aA.cons{v:V}{d:D}{vs:List V}{ds:List D}(h:Rep K F v d)(t:aA K F vs ds):aA K F (v::vs) (d::ds):=by rw[aA];exact⟨v,vs,rfl,h,t⟩
theorem aA.bN{vs:List V}{d:D}{ds:List D}(h:aA K F vs (d::ds)):∃v r,vs=v::r/\Rep K F v d/\aA K F r ds:=by rw[aA]at h;exact h
theorem aA.dO{vs:List V}(h:aA K F vs []):vs=[]:=by rw[aA]at h;exact h
theorem aA.length:∀{ds:List D}{vs:List V},aA K F vs ds->vs.length=ds.length|[],_,h=>by rw[h.dO];rfl|d::ds,_,h=>by obtain⟨v,r,rfl,_,t⟩:=h.bN;simp[aA.length t]
theorem aA.get:∀{ds:List D}{vs:List V}{i:Nat}{d:D},aA K F vs ds->ds[i]?=some d->∃v,vs[i]?=some v/\Rep K F v d|[],_,_,_,h,e=>by simp at e|d::ds,_,0,_,h,e=>by obtain⟨v,r,rfl,h1,t⟩:=h.bN;simp at e;subst e;exact⟨v,rfl,h1⟩|d::ds,_,i+1,_,h,e=>by obtain⟨v,r,rfl,_,t⟩:=h.bN;simp at e;obtain⟨w,a,b⟩:=t.get e;exact⟨w,by simpa using a,b⟩
theorem aA.append:∀{ds es:List D}{vs a:List V},aA K F vs ds->aA K F a es->aA K F (vs++a) (ds++es)|[],_,_,_,h,h'=>by rw[h.dO];exact h'|d::ds,_,_,_,h,h'=>by obtain⟨v,r,rfl,h1,t⟩:=h.bN;exact .cons h1 (t.append h')
theorem aA.set{v:V}{d:D}(hr:Rep K F v d):∀{ds:List D}{vs:List V}(i:Nat),aA K F vs ds->aA K F (vs.set i v) (ds.set i d)|[],_,_,h=>by rw[h.dO];exact .nil|_::_,_,0,h=>by obtain⟨w,r,rfl,h1,t⟩:=h.bN;exact .cons hr t|_::_,_,i+1,h=>by obtain⟨w,r,rfl,h1,t⟩:=h.bN;exact .cons h1 (aA.set hr i t)
theorem aA.take:∀{ds:List D}{vs:List V}(n:Nat),aA K F vs ds->aA K F (vs.take n) (ds.take n)|[],_,n,h=>by rw[h.dO];simpa using aA.nil|_::_,_,0,h=>.nil|_::_,_,n+1,h=>by obtain⟨w,r,rfl,h1,t⟩:=h.bN;exact .cons h1 (t.take n)
theorem aA.drop:∀{ds:List D}{vs:List V}(n:Nat),aA K F vs ds->aA K F (vs.drop n) (ds.drop n)|[],_,n,h=>by rw[h.dO];simpa using aA.nil|_::_,_,0,h=>h|_::_,_,n+1,h=>by obtain⟨w,r,rfl,h1,t⟩:=h.bN;exact t.drop n
theorem aA.rep{ds:List D}{vs:List V}(h:aA K F vs ds):∀n,aA K F (replicate n vs).flatten (replicate n ds).flatten|0=>by simpa using aA.nil|n+1=>by simpa[replicate_succ]using h.append (aA.rep h n)
inductive Oc where|l(ds:List D)|d(m:Dc)|v(kvs:List (Int×D))
noncomputable def lst?:Sl->Option Oc|.own _ ds=>some (.l ds)|.lent ds=>some (.l ds)|.tH m=>some (.d m)|.cJ kvs=>some (.v kvs)|_=>none
def km(K:PySem.W.Frag)(F:Hp)(o:HO):Oc->Prop|.l ds=>∃xs,o=.lst xs/\aA K F xs ds|.d m=>o=m.ho|.v kvs=>∃vs,o=Ai (kvs.map (·.1)) vs/\aA K F vs (kvs.map (·.2))
theorem km.mono{o:HO}{x:Oc}(e:aC F F')(h:km K F o x):km K F' o x:=by cases x with|l ds=>obtain⟨xs,a,h⟩:=h;exact⟨xs,a,h.mono e⟩|d m=>exact h|v kvs=>obtain⟨xs,a,h⟩:=h;exact⟨xs,a,h.mono e⟩
def aW(ρ:List Sl)(σ:St)(i:Nat)(a:Addr):Prop:=(∃s ds,ρ[i]?=some s/\lst? s=some ds)/\σ[i]?=some (some (V.ref a))
def Own(ρ:List Sl)(σ:St)(a:Addr):Prop:=∃i,aW ρ σ i a
structure GS(K:PySem.W.Frag)(F:Hp)(ρ:List Sl)(σ:St)(H:Hp):Prop where
 sub:aC F H
 len:ρ.length=σ.length
 val:∀(i:Nat)(b:Bool)(d:D),ρ[i]?=some (Sl.val b d)->∃v:V,σ[i]?=some (some v)/\Rep K F v d
 own:∀(i:Nat)(s:Sl)(ds:Oc),ρ[i]?=some s->lst? s=some ds->∃(a:Addr)(xs:HO),σ[i]?=some (some (V.ref a))/\H a=some xs/\F a=none/\km K F xs ds
 dis:∀(i j:Nat)(a:Addr),aW ρ σ i a->aW ρ σ j a->i=j
theorem GS.rC(g:GS K F ρ σ H)(i:Nat)(s:Sl)(ds:List D)(e:ρ[i]?=some s)(b:lst? s=some (.l ds)):∃(a:Addr)(xs:List V),σ[i]?=some (some (V.ref a))/\H a=some (.lst xs)/\F a=none/\aA K F xs ds:=by obtain⟨a,o,h1,c,f,xs,rfl,h⟩:=g.own i s (.l ds) e b;exact⟨a,xs,h1,c,f,h⟩
noncomputable def ud:Sl->Bool|.val b _=>b|.own b _=>b|.lent _=>true|.aP=>false|.tH _=>false|.cJ _=>false|.hold _=>true
def lJ:Sl->Sl->Prop|.val true d,s=>s=.val true d|.own true _,s=>(∃ds,s=.own true ds)\/∃d,s=.val true d|.lent ds,s=>s=.lent ds|.hold ds,s=>s=.hold ds|_,_=>True
theorem lJ.refl(s:Sl):lJ s s:=by unfold lJ;split<;>first|rfl|exact .inl ⟨_,rfl⟩|trivial
theorem lJ.ud{s a:Sl}(h:lJ s a)(l:ud s=true):HH.ud a=true:=by cases s with
 |aP=>cases l|tH _=>cases l|cJ _=>cases l|val b d=>cases b with|true=>cases h;rfl|false=>cases l
 |own b d=>cases b with|true=>rcases h with⟨_,rfl⟩|⟨_,rfl⟩<;>rfl|false=>cases l
 |lent d=>cases h;rfl|hold d=>cases h;rfl
theorem lJ.trans{s c a:Sl}(l:HH.ud s=true)(h:lJ s c)(h':lJ c a):lJ s a:=by cases s with
 |aP=>cases l|tH _=>cases l|cJ _=>cases l|val b d=>cases b with|true=>cases h;exact h'|false=>cases l
 |own b d=>cases b with
   | true => rcases h with⟨_,rfl⟩|⟨d,rfl⟩;.exact h'
             .exact .inr ⟨d,h'⟩|false=>cases l
 |lent d=>cases h;exact h'|hold d=>cases h;exact h'
noncomputable def nt:Option HO->Option HO|some (.tup _)=>none|o=>o
theorem gB{o:Option HO}(h:o=none):nt o=none:=by rw[h];rfl
theorem Hm{H:Hp}{b:Addr}{xs:List V}(h:H b=some (.lst xs))(z:nt (H b)=none):False:=by rw[h]at z;cases z
theorem yo{o:HO}{x:Oc}(h:km K F o x)(z:nt (some o)=none):False:=by cases x with|l ds=>obtain⟨xs,rfl,_⟩:=h;cases z|d m=>cases m<;>(cases(show o=_ from h);cases z)|v kvs=>obtain⟨xs,rfl,_⟩:=h;cases z
structure az(K:PySem.W.Frag)(F:Hp)(ρ:List Sl)(σ:St)(H:Hp)(F':Hp)(ρ':List Sl)(σ':St)(H':Hp):Prop where
 gs:GS K F' ρ' σ' H'
 cu:aC F F'
 uV:∀b,F b=none->F' b≠none->Own ρ σ b\/nt (H b)=none
 keep:∀b o,H b=some o->¬ Own ρ σ b->H' b=some o
 u9:∀b,Own ρ' σ' b->Own ρ σ b\/H b=none
 len:ρ'.length=ρ.length
 lk:∀(i:Nat)(s:Sl),ρ[i]?=some s->ud s=true->σ'[i]?=σ[i]?/\∃s',ρ'[i]?=some s'/\lJ s s'
theorem az.refl{ρ:List Sl}{σ:St}(g:GS K F ρ σ H):az K F ρ σ H F ρ σ H:=⟨g,aC.refl _,λb h h'=>absurd h h',λ_ _ h _=>h,λ_ h=>.inl h,rfl,λi s h _=>⟨rfl,s,h,.refl s⟩⟩
theorem az.trans{F1 F2 j k:Hp}{ρ ρ1 ρ2:List Sl}{σ f g:St}(a:az K F ρ σ H F1 ρ1 f j)(b:az K F1 ρ1 f j F2 ρ2 g k):az K F ρ σ H F2 ρ2 g k:=by
 have back:∀c,Own ρ1 f c\/j c=none->Own ρ σ c\/H c=none:=λc h=>by
  rcases h with h|h;.exact a.u9 c h
  . by_cases ho:Own ρ σ c;.exact .inl ho
    .right;cases e:H c with|none=>rfl|some o=>rw[a.keep c o e ho]at h;cases h
 refine⟨b.gs,a.cu.trans b.cu,λc h h'=>?_,λc o h n=>?_,λc h=>back c (b.u9 c h),b.len.trans a.len,λi s h l=>?_⟩
 . by_cases e:F1 c=none
   . by_cases ho:Own ρ σ c;.exact .inl ho
     . rcases b.uV c e h' with z|z;.exact(back c (.inl z)).imp id gB
       .right;cases q:H c with|none=>rfl|some o=>rw[a.keep c o q ho]at z;exact z
   .exact a.uV c h e
 . refine b.keep c o (a.keep c o h n) λh'=>?_;rcases a.u9 c h' with h'|h';.exact n h'
   .rw[h]at h';cases h'
 .obtain⟨p,s1,h1,m⟩:=a.lk i s h l;obtain⟨r,s2,t,u⟩:=b.lk i s1 h1 (m.ud l);exact⟨r.trans p,s2,t,.trans l m u⟩
def cN(K:PySem.W.Frag)(F H:Hp)(v:V)(d:D):Prop:=Rep K F v d\/∃a xs ds,v=.ref a/\H a=some (.lst xs)/\aA K F xs ds/\d=.lst ds
def cz(K:PySem.W.Frag)(F':Hp)(b:List Sl)(c:St)(H':Hp)(ρ:List Sl)(σ:St)(H:Hp)(v:V):R->Prop|.val d=>Rep K F' v d|.own ds=>∃a xs,v=.ref a/\H' a=some (.lst xs)/\F' a=none/\aA K F' xs ds/\¬ Own b c a/\(Own ρ σ a\/H a=none)
theorem aC.bF{F:Hp}{a:Addr}{o:HO}(h:F a=none):aC F (upd F a o):=λb u e=>by
 have:b≠a:=by rintro rfl;rw[h]at e;cases e
 rw[ao this];exact e
theorem az.cG{c:List Sl}{f:St}{r:R}(s:az K F ρ σ H F' c f H')(h:cz K F' c f H' ρ σ H v r):∃g,az K F ρ σ H g c f H'/\aC F' g/\Rep K g v r.d:=by cases r with|val d=>exact⟨F',s,.refl _,h⟩|own ds=>
   obtain⟨a,xs,rfl,h1,u,w,x,y⟩:=h;have k:aC F' (upd F' a (.lst xs)):=aC.bF u;refine⟨upd F' a (.lst xs),⟨⟨λb o e=>?_,s.gs.len,λi b d e=>?_,λi sl l e q=>?_,s.gs.dis⟩,s.cu.trans k,λb n t=>?_,s.keep,s.u9,s.len,s.lk⟩,k,?_⟩
   . by_cases j:b=a;.subst j;rw[aD]at e;cases e;exact h1
     .rw[ao j]at e;exact s.gs.sub b o e
   .obtain⟨v,m,p⟩:=s.gs.val i b d e;exact⟨v,m,p.mono k⟩
   . obtain⟨b,ys,m,p,A,B⟩:=s.gs.own i sl l e q;have j:b≠a:=by rintro rfl;exact x ⟨i,⟨sl,l,e,q⟩,m⟩
     exact⟨b,ys,m,p,by rw[ao j];exact A,B.mono k⟩
   . by_cases j:b=a;.subst j;exact y.imp id gB
     .rw[ao j]at t;exact s.uV b n t
   .show Rep K _ _ (.lst ds);rw[Rep];exact⟨a,xs,rfl,dg.of aD,w.mono k⟩
theorem GS.pk{ρ:List Sl}{σ:St}{i:Nat}{d:D}(g:GS K F ρ σ H)(e:HH.pk ρ i=some d):∃v:V,σ[i]?=some (some v)/\cN K F H v d:=by
 unfold HH.pk at e;split at e;.rename_i b d' h;cases e;obtain⟨v,h1,c⟩:=g.val i b d h;exact⟨v,h1,.inl c⟩
 .rename_i b ds h;cases e;obtain⟨a,xs,h1,c,j,f⟩:=g.rC i _ ds h rfl;exact⟨.ref a,h1,.inr ⟨a,xs,ds,rfl,c,f,rfl⟩⟩
 .rename_i ds h;cases e;obtain⟨a,xs,h1,c,j,f⟩:=g.rC i _ ds h rfl;exact⟨.ref a,h1,.inr ⟨a,xs,ds,rfl,c,f,rfl⟩⟩
 .cases e
structure Ext(F H F' H':Hp):Prop where
 hs:aC H H'
 fs:aC F F'
 sub:aC F' H'
 gr:∀b,F b=none->F' b≠none->nt (H b)=none
theorem Ext.refl(h:aC F H):Ext F H F H:=⟨.refl _,.refl _,h,λ_ a b=>absurd a b⟩
theorem Ext.stp(g:GS K F ρ σ H)(e:Ext F H F' H'):az K F ρ σ H F' ρ σ H':=by
 refine⟨⟨e.sub,g.len,λi b d h=>?_,λi s ds h h'=>?_,g.dis⟩,e.fs,λb n j=>.inr (e.gr b n j),λb o h _=>e.hs b o h,λ_ h=>.inl h,rfl,λi s h _=>⟨rfl,s,h,.refl s⟩⟩;.obtain⟨v,h1,c⟩:=g.val i b d h;exact⟨v,h1,c.mono e.fs⟩
 .obtain⟨a,xs,h1,c,k,f⟩:=g.own i s ds h h';refine⟨a,xs,h1,e.hs _ _ c,?_,f.mono e.fs⟩;cases q:F' a with|none=>rfl|some o=>have:=e.gr a k (by rw[q];simp);rw[c]at this;exact(yo f this).elim
def cg(K:PySem.W.Frag)(F' H' H:Hp)(v:V):R->Prop|.val d=>Rep K F' v d|.own ds=>∃a xs,v=.ref a/\H' a=some (.lst xs)/\F' a=none/\aA K F' xs ds/\H a=none
theorem cg.pB{r:R}(g:GS K F ρ σ H)(h:cg K F' H' H v r):cz K F' ρ σ H' ρ σ H v r:=by cases r with|val d=>exact h|own ds=>obtain⟨a,xs,rfl,h1,l,m,f⟩:=h;refine⟨a,xs,rfl,h1,l,m,?_,.inr f⟩;rintro⟨i,⟨s,c,e,n⟩,o⟩;obtain⟨b,ys,j,k,_⟩:=g.own i s c e n;rw[o]at j;cases j;rw[f]at k;cases k
theorem cz.later{F1 g F2 i:Hp}{ρ1 ρ2:List Sl}{c f:St}{r:R}(a:az K F ρ σ H F1 ρ1 c g)(h:cz K F2 ρ2 f i ρ1 c g v r):cz K F2 ρ2 f i ρ σ H v r:=by cases r with|val d=>exact h|own ds=>
   obtain⟨b,xs,rfl,h1,j,k,l,h5⟩:=h;refine⟨b,xs,rfl,h1,j,k,l,?_⟩;rcases h5 with h5|h5;.exact a.u9 b h5
   . by_cases ho:Own ρ σ b;.exact .inl ho
     .right;cases e:H b with|none=>rfl|some o=>rw[a.keep b o e ho]at h5;cases h5
end
end HH
end
section
namespace HH
open PySem L2 PySem.Spec PyProof.Rows
variable{ρ' ρ ρ₀:List Sl}{es:List Expr}{K:PySem.W.Frag}{F H H₀:Hp}{σ:L2.St}{i n:Nat}{ds:List D}{x:Str}{v:V}{vs:List V}{op:CmpOp}{p':Pos}{as:List Arg}
theorem aa{c e:Type}{x:Res c}{f:c->List Sl->Res e}{b:e}(h:x.bind f=.ok b ρ'):∃a ρ,x=.ok a ρ/\f a ρ=.ok b ρ':=by cases x with|ok a ρ=>exact⟨a,ρ,rfl,h⟩|exc _ _=>cases h|stuck=>cases h
theorem aF{c:Type}{o:Option c}{a:c}(h:lift o ρ=.ok a ρ'):o=some a/\ρ=ρ':=by cases o with|none=>cases h|some b=>cases h;exact⟨rfl,rfl⟩
theorem map_some{c e:Type}{o:Option c}{f:c->e}{b:e}(h:o.map f=some b):∃a,o=some a/\f a=b:=by cases o with|none=>cases h|some a=>cases h;exact⟨a,rfl,rfl⟩
theorem bZ{c e:Type}{o:Option c}{f:c->Option e}{b:e}(h:o.bind f=some b):∃a,o=some a/\f a=some b:=by cases o with|none=>cases h|some a=>exact⟨a,rfl,h⟩
theorem aU{e:Type}{c:Prop}[Decidable c]{a b:e}(h:(if c then some a else none)=some b):c/\a=b:=by
 split at h;.rename_i hc;cases h;exact⟨hc,rfl⟩
 .cases h
section
variable{X:Cx}{c:Call}{e a b:Expr}{p pa pb:P}{pos:Pos}
theorem dZ{t t':TE}(h:PE X e t)(i:∀σ H Q,t' σ H Q->t σ H Q):PE X e t':=λf s σ H Q I q=>h f s σ H Q I (i σ H Q q)
theorem wW{t t':TT}(h:PT X e t)(i:∀σ H Q,t' σ H Q->t σ H Q):PT X e t':=λf s σ H Q I q=>h f s σ H Q I (i σ H Q q)
theorem Oj{t t':TT}(h:PW X e t)(i:∀σ H Q,t' σ H Q->t σ H Q):PW X e t':=λwh f s σ H Q I q=>h wh f s σ H Q I (i σ H Q q)
theorem wX{t t':TA}(h:PA X es t)(i:∀σ H Q,t' σ H Q->t σ H Q):PA X es t':=λpos f s σ H Q I q=>h pos f s σ H Q I (i σ H Q q)
inductive xM(K:PySem.W.Frag)(f:Ev)(σ:L2.St)(H:Hp)(Q:VK):Prop where|mk(F:Hp)(ρ:List Sl)(r:R)(ρ':List Sl)(g:GS K F ρ σ H)(e:f ρ=.ok r ρ')(k:∀v F' H',az K F ρ σ H F' ρ' σ H'->cz K F' ρ' σ H' ρ σ H v r->Q v H')
inductive Jt(K:PySem.W.Frag)(f:List Sl->Res Bool)(σ:L2.St)(H:Hp)(Q:Bool->Hp->Prop):Prop where|mk(F:Hp)(ρ:List Sl)(b:Bool)(ρ':List Sl)(g:GS K F ρ σ H)(e:f ρ=.ok b ρ')(k:∀F' H',az K F ρ σ H F' ρ' σ H'->Q b H')
inductive aa2(K:PySem.W.Frag)(f:List Sl->Res (List D))(σ:L2.St)(H:Hp)(Q:List V->Hp->Prop):Prop where|mk(F:Hp)(ρ:List Sl)(ds:List D)(ρ':List Sl)(g:GS K F ρ σ H)(e:f ρ=.ok ds ρ')(k:∀vs F' H',az K F ρ σ H F' ρ' σ H'->aA K F' vs ds->Q vs H')
structure SX(X:Cx)(c:Call)(e:Expr)(p:P):Prop where ev:PE X e (xM X.K (HH.ev c p))var:∀i,isVar p=some i->PE X e (dD i)
def SA(X:Cx)(c:Call)(es:List Expr)(ps:List P):Prop:=PA X es (aa2 X.K (evs c ps))/\ps.length=es.length
theorem SX.cV(h:SX X c e p):∃t,PE X e t/\∀{σ:L2.St}{H F:Hp}{ρ ρ':List Sl}{d:D}{Q:VK},GS X.K F ρ σ H->cV (isVar p) (HH.ev c p) ρ=.ok d ρ'->(∀v j f,az X.K F ρ σ H j ρ' σ f->cN X.K j f v d->Q v f)->t σ H Q:=by cases hv:isVar p with|none=>refine⟨_,h.ev,λ{σ H F ρ ρ' d Q}g e k=>?_⟩;obtain⟨r,ρ1,l,m⟩:=aa e;cases m;refine⟨F,ρ,r,_,g,l,λv j f s q=>?_⟩;obtain⟨o,u,_,w⟩:=s.cG q;exact k v o f u (.inl w)|some i=>refine⟨_,h.var i hv,λ{σ H F ρ ρ' d Q}g e k=>?_⟩;obtain⟨l,m⟩:=aF e;subst m;obtain⟨v,h1,y⟩:=g.pk l;exact⟨v,h1,k v F H (.refl g) y⟩
theorem SX.jD(I:SX X c a pa)(M:SX X c b pb):∃J h,PE X a J/\PE X b h/\∀{σ:L2.St}{H F:Hp}{ρ ρ':List Sl}{j:D×D}{R:V->V->Hp->Prop},GS X.K F ρ σ H->jD (isVar pa) (HH.ev c pa) (isVar pb) (HH.ev c pb) ρ=.ok j ρ'->(∀v u w l,az X.K F ρ σ H w ρ' σ l->cN X.K w l v j.1->cN X.K w l u j.2->R v u l)->J σ H λx A=>h σ A λy B=>R x y B:=by obtain⟨h,m,o⟩:=M.cV;cases hv:isVar pa with|none=>refine⟨_,h,I.ev,m,λ{σ H F ρ ρ' j R}g e k=>?_⟩;obtain⟨x,ρ1,q,e⟩:=aa e;obtain⟨y,ρ2,f,e⟩:=aa e;cases e;obtain⟨r,L,q,C⟩:=aa q;cases C;refine⟨F,ρ,r,_,g,q,λv w l s N=>?_⟩;obtain⟨F1,s1,_,O⟩:=s.cG N;refine o s1.gs f λu F2 B s2 E=>?_;exact k v u F2 B (s1.trans s2) (.inl (O.mono s2.cu)) E|some i=>refine⟨_,h,I.var i hv,m,λ{σ H F ρ ρ' j R}g e k=>?_⟩;obtain⟨x0,Q,C,e⟩:=aa e;obtain⟨G,U⟩:=aF C;subst U;obtain⟨y,ρ1,q,e⟩:=aa e;obtain⟨x,ρ2,f,e⟩:=aa e;cases e;have W:=aF f;clear f;obtain⟨f,Y⟩:=W;subst Y;obtain⟨v,h1,_⟩:=g.pk G;refine⟨v,h1,o g q λu F1 A s1 E=>?_⟩;obtain⟨v',t,Z⟩:=s1.gs.pk f;rw[h1]at t;cases t;exact k v u F1 A s1 Z E
inductive rD(K:PySem.W.Frag)(f:D->D->Option R)(x y:V)(H:Hp)(Q:VK):Prop where|mk(F:Hp)(d e:D)(r:R)(sm:aC F H)(px:cN K F H x d)(py:cN K F H y e)(he:f d e=some r)(k:∀v F' H',Ext F H F' H'->cg K F' H' H v r->Q v H')
inductive rD1(K:PySem.W.Frag)(f:D->Option R)(x:V)(H:Hp)(Q:VK):Prop where|mk(F:Hp)(d:D)(r:R)(sm:aC F H)(px:cN K F H x d)(he:f d=some r)(k:∀v F' H',Ext F H F' H'->cg K F' H' H v r->Q v H')
theorem uw{E:Expr}{f:D->D->Option R}{q:P}(t:∀{m o},PE X a m->PE X b o->PE X E (nQ (rD X.K f) m o))(y:SX X c a pa)(A:SX X c b pb)(B:∀ρ,HH.ev c q ρ=(HH.jD (isVar pa) (HH.ev c pa) (isVar pb) (HH.ev c pb) ρ).bind λj ρ=>lift (f j.1 j.2) ρ)(C:isVar q=none):SX X c E q:=by obtain⟨m,o,h1,G,I⟩:=y.jD A;refine⟨dZ (t h1 G) ?_,λi h=>by rw[C]at h;cases h⟩;rintro σ H Q⟨F,ρ,r,ρ',g,e,k⟩;rw[B]at e;obtain⟨j,ρ1,J,l⟩:=aa e;have L:=aF l;clear l;obtain⟨l,M⟩:=L;subst M;refine I g J λv u N Z s O U=>⟨N,j.1,j.2,r,s.gs.sub,O,U,l,λw F2 W x Y=>?_⟩;exact k w F2 W (s.trans (x.stp s.gs)) (.later s (Y.pB s.gs))
theorem Qf{E:Expr}{f:D->Option R}{q:P}(m:∀{l},PE X a l->PE X E (tUn (rD1 X.K f) l))(o:SX X c a pa)(t:∀ρ,HH.ev c q ρ=(HH.cV (isVar pa) (HH.ev c pa) ρ).bind λx ρ=>lift (f x) ρ)(u:isVar q=none):SX X c E q:=by obtain⟨l,h1,y⟩:=o.cV;refine⟨dZ (m h1) ?_,λi h=>by rw[u]at h;cases h⟩;rintro σ H Q⟨F,ρ,r,ρ',g,e,k⟩;rw[t]at e;obtain⟨x,ρ1,A,j⟩:=aa e;have B:=aF j;clear j;obtain⟨j,C⟩:=B;subst C;refine y g A λv G M s I=>⟨G,x,r,s.gs.sub,I,j,λw F2 J x L=>?_⟩;exact k w F2 J (s.trans (x.stp s.gs)) (.later s (L.pB s.gs))
theorem GS.freeze{b:Bool}(g:GS K F ρ σ H)(e:ρ[i]?=some (.own b ds)):∃v C,σ[i]?=some (some v)/\az K F ρ σ H C (ρ.set i (.val b (.lst ds))) σ H/\Rep K C v (.lst ds):=by
 obtain⟨a,xs,h1,I,J,L⟩:=g.rC i _ ds e rfl;have y:i<ρ.length:=(dU e).1;have A:aC F (upd F a (.lst xs)):=aC.bF J;have E:Rep K (upd F a (.lst xs)) (.ref a) (.lst ds):=by rw[Rep];exact⟨a,xs,rfl,dg.of aD,L.mono A⟩
 have M:Own ρ σ a:=⟨i,⟨_,_,e,rfl⟩,h1⟩;have r:∀j x,aW (ρ.set i (.val b (.lst ds))) σ j x->aW ρ σ j x/\j≠i:=λj x⟨⟨s,h,m,u⟩,B⟩=>by
  by_cases f:j=i;.subst f;rw[getElem?_set_self y]at m;cases m;cases u
  .rw[fZ f]at m;exact⟨⟨⟨s,h,m,u⟩,B⟩,f⟩
 refine⟨.ref a,upd F a (.lst xs),h1,⟨⟨λx o q=>?_,by simpa using g.len,λj N d q=>?_,λj s h q w=>?_,λj k x q w=>g.dis j k x (r j x q).1 (r k x w).1⟩,A,λx n G=>?_,λ_ _ q _=>q,λx⟨j,q⟩=>.inl ⟨j,(r j x q).1⟩,by simp,λj s q l=>⟨rfl,?_⟩⟩,E⟩
 . by_cases t:x=a;.subst t;rw[aD]at q;cases q;exact I
   .rw[ao t]at q;exact g.sub x o q
 . by_cases f:j=i;.subst f;rw[getElem?_set_self y]at q;cases q;exact⟨_,h1,E⟩
   .rw[fZ f]at q;obtain⟨v,m,u⟩:=g.val j N d q;exact⟨v,m,u.mono A⟩
 . by_cases f:j=i;.subst f;rw[getElem?_set_self y]at q;cases q;cases w
   . rw[fZ f]at q;obtain⟨x,ys,m,u,B,O⟩:=g.own j s h q w;have t:x≠a:=by rintro rfl;exact f (g.dis j i x ⟨⟨s,h,q,w⟩,m⟩ ⟨⟨_,_,e,rfl⟩,h1⟩)
     exact⟨x,ys,m,u,by rw[ao t];exact B,O.mono A⟩
 . by_cases t:x=a;.subst t;exact .inl M
   .rw[ao t]at G;exact absurd n G
 . by_cases f:j=i;.subst f;rw[e]at q;cases q;refine⟨_,getElem?_set_self y,?_⟩;cases b with|true=>exact .inr ⟨_,rfl⟩|false=>cases l
   .exact⟨s,by rw[fZ f];exact q,.refl s⟩
theorem GS.Bu{m:Dc}(g:GS K F ρ σ H)(e:ρ[i]?=some (.tH m)):∃a,σ[i]?=some (some (.ref a))/\H a=some m.ho/\∀u,az K F ρ σ H (upd F a (.cG u m.ho)) (ρ.set i (.val false (.cX m))) σ (upd H a (.cG u m.ho))/\Rep K (upd F a (.cG u m.ho)) (.ref a) (.cX m):=by
 obtain⟨a,L,h1,M,N,O⟩:=g.own i _ _ e rfl;cases(show L=m.ho from O);have B:i<ρ.length:=(dU e).1;refine⟨a,h1,M,λu=>?_⟩;have C:aC F (upd F a (.cG u m.ho)):=aC.bF N;have G:Rep K (upd F a (.cG u m.ho)) (.ref a) (.cX m):=by rw[Rep];exact⟨a,u,rfl,aD⟩
 have I:Own ρ σ a:=⟨i,⟨_,_,e,rfl⟩,h1⟩;have w:∀j x,aW (ρ.set i (.val false (.cX m))) σ j x->aW ρ σ j x/\j≠i:=λj x⟨⟨s,r,t,y⟩,E⟩=>by
  by_cases f:j=i;.subst f;rw[getElem?_set_self B]at t;cases t;cases y
  .rw[fZ f]at t;exact⟨⟨⟨s,r,t,y⟩,E⟩,f⟩
 refine⟨⟨⟨λx o q=>?_,by simpa using g.len,λj Q d q=>?_,λj s r q A=>?_,λj k x q A=>g.dis j k x (w j x q).1 (w k x A).1⟩,C,λx n J=>?_,λx o q n=>?_,λx⟨j,q⟩=>.inl ⟨j,(w j x q).1⟩,by simp,λj s q l=>⟨rfl,?_⟩⟩,G⟩
 . by_cases h:x=a;.subst h;rw[aD]at q ⊢;exact q
   .rw[ao h]at q ⊢;exact g.sub x o q
 . by_cases f:j=i;.subst f;rw[getElem?_set_self B]at q;cases q;exact⟨_,h1,G⟩
   .rw[fZ f]at q;obtain⟨v,t,y⟩:=g.val j Q d q;exact⟨v,t,y.mono C⟩
 . by_cases f:j=i;.subst f;rw[getElem?_set_self B]at q;cases q;cases A
   . rw[fZ f]at q;obtain⟨x,ys,t,y,E,U⟩:=g.own j s r q A;have h:x≠a:=by rintro rfl;exact f (g.dis j i x ⟨⟨s,r,q,A⟩,t⟩ ⟨⟨_,_,e,rfl⟩,h1⟩)
     exact⟨x,ys,t,by rw[ao h];exact y,by rw[ao h];exact E,U.mono C⟩
 . by_cases h:x=a;.subst h;exact .inl I
   .rw[ao h]at J;exact absurd n J
 . have h:x≠a:=by rintro rfl;exact n I
   rw[ao h];exact q
 . by_cases f:j=i;.subst f;rw[e]at q;cases q;cases l
   .exact⟨s,by rw[fZ f];exact q,.refl s⟩
theorem GS.Ao{kvs:List (Int×D)}(g:GS K F ρ σ H)(e:ρ[i]?=some (.cJ kvs)):∃a vs,σ[i]?=some (some (.ref a))/\H a=some (Ai (kvs.map (·.1)) vs)/\∀t,az K F ρ σ H (upd F a (.cG t (Ai (kvs.map (·.1)) vs))) (ρ.set i (.val false (.dv (kvs.map (·.1)) (kvs.map (·.2))))) σ (upd H a (.cG t (Ai (kvs.map (·.1)) vs)))/\Rep K (upd F a (.cG t (Ai (kvs.map (·.1)) vs))) (.ref a) (.dv (kvs.map (·.1)) (kvs.map (·.2))):=by
 obtain⟨a,U,h1,J,L,M⟩:=g.own i _ _ e rfl;obtain⟨vs,rfl,N⟩:=M;have B:i<ρ.length:=(dU e).1;refine⟨a,vs,h1,J,λt=>?_⟩;have A:aC F (upd F a (.cG t (Ai (kvs.map (·.1)) vs))):=aC.bF L;have E:Rep K (upd F a (.cG t (Ai (kvs.map (·.1)) vs))) (.ref a) (.dv (kvs.map (·.1)) (kvs.map (·.2))):=by rw[Rep];exact⟨a,t,vs,rfl,aD,N.mono A,by simp⟩
 have G:Own ρ σ a:=⟨i,⟨_,_,e,rfl⟩,h1⟩;have u:∀j x,aW (ρ.set i (.val false (.dv (kvs.map (·.1)) (kvs.map (·.2))))) σ j x->aW ρ σ j x/\j≠i:=λj x⟨⟨s,m,r,w⟩,C⟩=>by
  by_cases f:j=i;.subst f;rw[getElem?_set_self B]at r;cases r;cases w
  .rw[fZ f]at r;exact⟨⟨⟨s,m,r,w⟩,C⟩,f⟩
 refine⟨⟨⟨λx o q=>?_,by simpa using g.len,λj O d q=>?_,λj s m q y=>?_,λj k x q y=>g.dis j k x (u j x q).1 (u k x y).1⟩,A,λx n I=>?_,λx o q n=>?_,λx⟨j,q⟩=>.inl ⟨j,(u j x q).1⟩,by simp,λj s q l=>⟨rfl,?_⟩⟩,E⟩
 . by_cases h:x=a;.subst h;rw[aD]at q ⊢;exact q
   .rw[ao h]at q ⊢;exact g.sub x o q
 . by_cases f:j=i;.subst f;rw[getElem?_set_self B]at q;cases q;exact⟨_,h1,E⟩
   .rw[fZ f]at q;obtain⟨v,r,w⟩:=g.val j O d q;exact⟨v,r,w.mono A⟩
 . by_cases f:j=i;.subst f;rw[getElem?_set_self B]at q;cases q;cases y
   . rw[fZ f]at q;obtain⟨x,ys,r,w,C,Q⟩:=g.own j s m q y;have h:x≠a:=by rintro rfl;exact f (g.dis j i x ⟨⟨s,m,q,y⟩,r⟩ ⟨⟨_,_,e,rfl⟩,h1⟩)
     exact⟨x,ys,r,by rw[ao h];exact w,by rw[ao h];exact C,Q.mono A⟩
 . by_cases h:x=a;.subst h;exact .inl G
   .rw[ao h]at I;exact absurd n I
 . have h:x≠a:=by rintro rfl;exact n G
   rw[ao h];exact q
 . by_cases f:j=i;.subst f;rw[e]at q;cases q;cases l
   .exact⟨s,by rw[fZ f];exact q,.refl s⟩
theorem Inv.Gb{X:Cx}{f:List (Addr×Obj)}{s:Shared}{a:Addr}{kvs:List (Key×V)}(I:L2.Inv X f σ H s)(h:H a=some (.dK kvs)):∃o,L2.Inv X f σ (upd H a (.cG o (.dK kvs))) s:=by obtain⟨hz,j,vs,r,g⟩:=(show bI X.prog X.w H s.heap a (.dK kvs)from I.hok a _ h);obtain⟨o,ho,_⟩:=g.typeIs;exact⟨o,I.write (h':=s.heap) (t':=s.toks) (by rw[h];exact trivial) (.inl rfl) (λb u _ e=>e) ⟨o,ho⟩ ⟨ho,hz,j,vs,r,g⟩⟩
theorem RX(A:X.N[i]?=some x)(B:xK X.env.scope x)(hd:(x==("__debug__":Str))=false:=by decide)(t:(x==("__classdict__":Str))=false:=by decide):SX X c (.Name x pos) (.var i):=by
 have h:=eV (X:=X) (pos:=pos) A B hd t;refine⟨?_,λj C=>by cases C;exact h⟩;rintro f s σ H Q I⟨F,ρ,r,ρ',g,e,k⟩;rw[HH.E1]at e;split at e;.rename_i b d q;cases e;obtain⟨v,h1,l⟩:=g.val i b d q;exact h f s σ H Q I ⟨v,h1,k v F H (.refl g) l⟩
 .rename_i b ds q;cases e;obtain⟨v,E,h1,l,m⟩:=g.freeze q;exact h f s σ H Q I ⟨v,h1,k v E H l m⟩
 .rename_i kvs q;cases e;obtain⟨a,h1,l,m⟩:=g.Bu q;refine bV (h f s σ H (λv w=>v=.ref a/\w=H) I ⟨.ref a,h1,rfl,rfl⟩) λu s1⟨v,H1,I1,r1,e1,e2⟩=>?_;subst e1 e2;obtain⟨o,y⟩:=Inv.Gb I1 l;exact⟨.ref a,_,y,r1,k _ _ _ (m o).1 (m o).2⟩
 .rename_i kvs q;cases e;obtain⟨a,vs,h1,l,m⟩:=g.Ao q;refine bV (h f s σ H (λv w=>v=.ref a/\w=H) I ⟨.ref a,h1,rfl,rfl⟩) λu s1⟨v,H1,I1,r1,e1,e2⟩=>?_;subst e1 e2;obtain⟨o,y⟩:=Inv.Gb I1 l;exact⟨.ref a,_,y,r1,k _ _ _ (m o).1 (m o).2⟩
 .cases e
theorem yj{d:D}(h:PE X e (tC v))(hr:∀F,Rep X.K F v d):SX X c e (.con d):=⟨dZ h λσ H Q⟨F,ρ,r,ρ',g,e,k⟩=>by rw[HH.E2]at e;cases e;exact k v F H (.refl g) (hr F),λi h=>by cases h⟩
theorem aj{i j}:SX X c (.Constant (.int i) j pos) (.con (.int i)):=yj o6 λF=>by rw[Rep]
theorem gF{i j}:SX X c (.Constant (.bool i) j pos) (.con (.bl i)):=yj Ng λF=>by rw[Rep]
theorem Ig{j}:SX X c (.Constant .none j pos) (.con .non):=yj QS λF=>by rw[Rep]
theorem cN.int{K:PySem.W.Frag}{F H:Hp}{v:V}{i:Int}(h:cN K F H v (.int i)):v=.int i:=by
 rcases h with h|⟨_,_,_,_,_,_,h⟩;.rw[Rep]at h;exact h
 .cases h
theorem cN.bl{K:PySem.W.Frag}{F H:Hp}{v:V}{i:Bool}(h:cN K F H v (.bl i)):v=.bl i:=by
 rcases h with h|⟨_,_,_,_,_,_,h⟩;.rw[Rep]at h;exact h
 .cases h
theorem cN.str{K:PySem.W.Frag}{F H:Hp}{v:V}{i:Str}(h:cN K F H v (.str i)):v=.str i:=by
 rcases h with h|⟨_,_,_,_,_,_,h⟩;.rw[Rep]at h;exact h
 .cases h
theorem cN.non{K:PySem.W.Frag}{F H:Hp}{v:V}(h:cN K F H v .non):v=.non:=by
 rcases h with h|⟨_,_,_,_,_,_,h⟩;.rw[Rep]at h;exact h
 .cases h
theorem cN.tup{K:PySem.W.Frag}{F H:Hp}{v:V}{ds:List D}(s:aC F H)(h:cN K F H v (.tup ds)):∃a xs,v=.ref a/\dN K H a xs/\aA K F xs ds/\Rep K F v (.tup ds):=by
 rcases h with h|⟨_,_,_,_,_,_,h⟩;.have h':=h;rw[Rep]at h;obtain⟨a,xs,rfl,h1,f⟩:=h;exact⟨a,xs,rfl,aC.eZ s h1,f,h'⟩
 .cases h
theorem cN.lst{K:PySem.W.Frag}{F H:Hp}{v:V}{ds:List D}(s:aC F H)(h:cN K F H v (.lst ds)):∃a xs,v=.ref a/\dg K H a xs/\aA K F xs ds:=by
 rcases h with h|⟨a,xs,es,h1,f,g,h⟩;.rw[Rep]at h;obtain⟨a,xs,rfl,h1,f⟩:=h;exact⟨a,xs,rfl,s.seq h1,f⟩
 .cases h;exact⟨a,xs,h1,dg.of f,g⟩
theorem cN.cX{m:Dc}(s:aC F H)(h:cN K F H v (.cX m)):∃a o,v=.ref a/\H a=some (.cG o m.ho):=by
 rcases h with h|⟨_,_,_,_,_,_,h⟩;.rw[Rep]at h;obtain⟨a,o,rfl,h⟩:=h;exact⟨a,o,rfl,s _ _ h⟩
 .cases h
theorem Im{X:Cx}{f:List (Addr×Obj)}{s:Shared}{a:Addr}{g:Obj}{m:Dc}(I:L2.Inv X f σ H s)(h:H a=some (.cG g m.ho)):∃o,s.heap.get? a=some o/\o.cls=.type "dict":=by have z:=(show bI X.prog X.w H s.heap a (.cG g m.ho)from I.hok a _ h).2;cases m with|k kvs=>obtain⟨_,_,vs,_,d2⟩:=(show bI X.prog X.w H s.heap a (.dK _)from z);exact d2.typeIs|t kvs=>obtain⟨_,_,xs,_,o,es,ep,h1,j,_⟩:=(show bI X.prog X.w H s.heap a (.dT _)from z);exact⟨o,h1,j.1⟩
theorem cN.dv{ks:List Int}(s:aC F H)(h:cN K F H v (.dv ks ds)):∃a o vs,v=.ref a/\H a=some (.cG o (Ai ks vs))/\aA K F vs ds/\ks.length=ds.length:=by
 rcases h with h|⟨_,_,_,_,_,_,h⟩;.rw[Rep]at h;obtain⟨a,o,vs,rfl,h,h1,f⟩:=h;exact⟨a,o,vs,rfl,s _ _ h,h1,f⟩
 .cases h
theorem G4{X:Cx}{f:List (Addr×Obj)}{s:Shared}{a:Addr}{g:Obj}{ks:List Int}(I:L2.Inv X f σ H s)(h:H a=some (.cG g (Ai ks vs))):∃o,s.heap.get? a=some o/\o.cls=.type "dict":=by have z:=(show bI X.prog X.w H s.heap a (.cG g (Ai ks vs))from I.hok a _ h).2;obtain⟨_,_,vs,_,d2⟩:=(show bI X.prog X.w H s.heap a (.dK _)from z);exact d2.typeIs
theorem cN.items{d:D}(s:aC F H)(h:cN K F H v d)(e:items d=some ds):∃a xs,v=.ref a/\(dg K H a xs\/dN K H a xs)/\aA K F xs ds:=by cases d with|tup es=>cases e;obtain⟨a,xs,h1,f,g,_⟩:=h.tup s;exact⟨a,xs,h1,.inr f,g⟩|lst es=>cases e;obtain⟨a,xs,h1,f,g⟩:=h.lst s;exact⟨a,xs,h1,.inl f,g⟩|_=>cases e
theorem cg.dw{Q:VK}{d:D}(s:aC F H)(r:Rep K F v d)(k:∀v g f,Ext F H g f->cg K g f H v (.val d)->Q v f):Q v H:=k v F H (.refl s) r
theorem bW(i:Int):Rep K F (.int i) (.int i):=by rw[Rep]
theorem fc(i:Bool):Rep K F (.bl i) (.bl i):=by rw[Rep]
theorem Pr(i:Str):Rep K F (.str i) (.str i):=by rw[Rep]
theorem Qh:Rep K F .non .non:=by rw[Rep]
theorem vR{Q:VK}{xs:List V}{p:Addr}(s:aC F H)(r:aA K F xs ds)(f:H p=none)(k:∀v h g,Ext F H h g->cg K h g H v (.own ds)->Q v g):Q (.ref p) (upd H p (.lst xs)):=by
 have j:F p=none:=by cases q:F p with|none=>rfl|some o=>rw[s p o q]at f;cases f
 exact k _ F _ ⟨aC.bF f,.refl _,s.trans (aC.bF f),λ_ a b=>absurd a b⟩ ⟨p,xs,rfl,aD,j,r,f⟩
theorem yI{Q:VK}{xs:List V}{p:Addr}(s:aC F H)(r:aA K F xs ds)(g:H p=none)(k:∀v j h,Ext F H j h->cg K j h H v (.val (.tup ds))->Q v h):Q (.ref p) (upd H p (.tup xs)):=by
 have t:F p=none:=by cases q:F p with|none=>rfl|some o=>rw[s p o q]at g;cases g
 have l:aC F (upd F p (.tup xs)):=aC.bF t;refine k _ (upd F p (.tup xs)) _ ⟨aC.bF g,l,λb o e=>?_,λb n m=>?_⟩ ?_
 . by_cases f:b=p;.subst f;rw[aD]at e ⊢;exact e
   .rw[ao f]at e ⊢;exact s b o e
 . by_cases f:b=p;.subst f;exact gB g
   .rw[ao f]at m;exact absurd n m
 .show Rep K _ _ (.tup ds);rw[Rep];exact⟨p,xs,rfl,dN.of aD,r.mono l⟩
end
theorem rz(k:Int)(t:Tok)(l:Addr)(a:Array Value)(n:Nat)(b:Option Addr)(sl:Array (Option Value)):Meets (Builtin.«int.__rmul__» ⟨[.int k t,.ref l],[]⟩) (λ_ R s=>s.heap.get? l=some ⟨.type "list",b,.seq a n,sl⟩/\R (.ok (.ret Value.notImplemented)) s):=.of_wp λprog w A R s h=>by obtain⟨c,g,d,e,os⟩:=s;obtain⟨f,h⟩:=h;wp_walk;exact⟨_,rfl,h⟩
theorem Cy(l:Addr)(a:Array Value)(n:Nat)(b:Option Addr)(sl:Array (Option Value))(k:Int)(t:Tok)(h0:¬(!Builtin.List.listFitsIndex k)=true)(h1:¬a.size*k.toNat>(2^63-1)/8)(c:¬listTooLong (a.size*k.toNat)=true):Meets (Builtin.«list.__mul__» ⟨[.ref l,.int k t],[]⟩) (λ_ R s=>s.heap.get? l=some ⟨.type "list",b,.seq a n,sl⟩/\R (.ok (.ret (Value.ref s.heap.objs.size))) {s with heap:=s.heap.push {cls:=.type "list",data:=.seq (foldl (·++·) #[] (replicate (if a.isEmpty=true then 0 else k.toNat) a))}}):=.of_wp λprog w A R s h=>by obtain⟨f,g,d,j,os⟩:=s;obtain⟨e,h⟩:=h;have hz:=AutoListH.joined_fits c;wp_walk using wpAny_loadPart' e;refine wpAny_ite_false (decide_eq_false (Nat.not_lt.mpr hz)) ?_;wp_walk;exact⟨_,rfl,h⟩
section
variable{X:Cx}{c:Call}{e a b d:Expr}{p pa pb pd:P}{pos:Pos}
theorem LK:gk X (binaryOp .Add) (λx y H Q=>∃l b xs o,x=.ref l/\y=.ref b/\dg X.K H l xs/\dg X.K H b o/\xs.length+o.length<=sizeLine/\∀p,H p=none->Q (.ref p) (upd H p (.lst (xs++o)))):=by
 intro B s σ H x y v u Q I G J h;obtain⟨l,b,xs,o,rfl,rfl,L,M,hz,q⟩:=h;cases G;cases J;obtain⟨g,r,N,_⟩:=I.list L;obtain⟨f,C,t,_⟩:=I.list M;obtain⟨⟨cls,O,data,sl⟩,ho,hc,n,hd⟩:=id N.isList;obtain⟨⟨E,w,data2,A⟩,j,k,U,m⟩:=id t.isList;simp only at hc hd k m;subst hc hd k m;have e:g.toArray++f.toArray=(g++f).toArray:=by simp
 refine concat_meets ⟨_,ho,rfl⟩ ⟨_,j,rfl⟩ noFill_list_add seq_list_add PySem.F.slot_list_add PySem.F.entry_list_add (PySem.F.args_list_add_2 _ _) (list_addW l b g.toArray f.toArray n U O w sl A (by simp only[size_toArray];rw[<-r.length,<-C.length];exact hz)) ⟨ho,j,?_⟩;rw[e];exact⟨.ref _,_,I.RJ (t':=s.toks) (r.append C) (by rw[length_append];exact hz),rfl,q _ I.fresh⟩
theorem FQ:gk X (binaryOp .Add) (λx y H Q=>∃a b ys,x=.ref a/\y=.ref b/\dN X.K H a []/\dN X.K H b ys/\Q (.ref b) H):=by intro r s σ H x y v u Q I w A h;obtain⟨a,b,ys,rfl,rfl,B,C,q⟩:=h;cases w;cases A;obtain⟨l,r1,E,_⟩:=I.tuple B;obtain⟨f,N,G,_⟩:=I.tuple C;obtain⟨⟨cls,J,data,sl⟩,ho,hc,n,hd⟩:=id E;obtain⟨⟨t,m,data2,o⟩,g,j,L,k⟩:=id G;simp only at hc hd j k;subst hc hd j k;have M:l=[]:=r1.oO.mpr rfl;subst M;exact concat_meets ⟨_,ho,rfl⟩ ⟨_,g,rfl⟩ noFill_tuple_add seq_tuple_add slot_tuple_add entry_tuple_add (args_tuple_add_2 _ _) (tuple_addW0 a b _ f.toArray n L J m sl o (by simp)) ⟨ho,g,⟨.ref b,H,I,rfl,q⟩⟩
theorem bH:gk X (binaryOp .Add) (rD X.K (rA .add)):=by
 rintro f s σ H x y v u Q I h j⟨F,d,e,r,g,q,t,he,k⟩;replace he:qu d e=some r:=he;unfold qu at he;split at he;.cases he;rw[q.int]at h;rw[t.int]at j;exact Rt f s σ H _ _ v u Q I h j ⟨_,_,rfl,rfl,cg.dw g (bW _) k⟩
 .rename_i xs ys;obtain⟨o,he⟩:=aU he;subst he;obtain⟨a,vs,rfl,w,l⟩:=q.lst g;obtain⟨b,A,rfl,B,m⟩:=t.lst g;exact LK f s σ H _ _ v u Q I h j ⟨a,b,vs,A,rfl,rfl,w,B,by rw[l.length,m.length];exact o,λp C=>vR g (l.append m) C k⟩
 . rename_i xs ys;obtain⟨o,he⟩:=aU he;subst he;obtain⟨a,vs,rfl,w,l,G⟩:=q.tup g;obtain⟨b,A,rfl,B,m,J⟩:=t.tup g;by_cases h0:vs=[]
   . subst h0;have E:xs=[]:=by have:=l.length;exact List.eq_nil_of_length_eq_zero this.symm
     subst E;exact FQ f s σ H _ _ v u Q I h j ⟨a,b,A,rfl,rfl,w,B,cg.dw g J k⟩
   . refine Kh f s σ H _ _ v u Q I h j ⟨a,b,vs,A,rfl,rfl,w,B,h0,by rw[l.length,m.length];exact o,λe=>?_,λ_ p C=>yI g (l.append m) C k⟩;subst e;have E:ys=[]:=by have:=m.length;exact List.eq_nil_of_length_eq_zero this.symm
     subst E;rw[append_nil]at k;exact cg.dw g G k
 .rename_i L M;obtain⟨o,he⟩:=aU he;subst he;rw[q.str]at h;rw[t.str]at j;exact ym f s σ H _ _ v u Q I h j ⟨_,_,rfl,rfl,o,cg.dw g (Pr _) k⟩
 .cases he
theorem dh:gk X (binaryOp .Sub) (rD X.K (rA .sub)):=by
 rintro f s σ H x y v u Q I g h⟨F,d,e,r,j,l,m,he,k⟩;replace he:wj d e=some r:=he;unfold wj at he;split at he;.cases he;rw[l.int]at g;rw[m.int]at h;exact Rq f s σ H _ _ v u Q I g h ⟨_,_,rfl,rfl,cg.dw j (bW _) k⟩
 .cases he
theorem J7:gk X (binaryOp .Mult) (λx y H Q=>∃l k xs,x=.ref l/\y=.int k/\dg X.K H l xs/\-(2^63)<=k/\k<2^63/\xs.length*k.toNat<=sizeLine/\∀p,H p=none->Q (.ref p) (upd H p (.lst (replicate k.toNat xs).flatten))):=by
 intro w s σ H x y v u Q I B C h;obtain⟨l,k,xs,rfl,rfl,E,h1,G,hz,q⟩:=h;cases B;obtain⟨t,rfl⟩:=C;obtain⟨f,r,J,_⟩:=I.list E;obtain⟨⟨cls,A,data,sl⟩,ho,hc,n,hd⟩:=id J.isList;simp only at hc hd;subst hc hd;have g:f.toArray.size*k.toNat<=sizeLine:=by rw[size_toArray,<-r.length];exact hz
 have o:¬ f.toArray.size*k.toNat>(2^63-1)/8:=by
  have:(sizeLine:Nat)<=(2^63-1)/8:=by decide
  omega
 have j:foldl (·++·) #[] (replicate (if f.toArray.isEmpty=true then 0 else k.toNat) f.toArray)=(replicate k.toNat f).flatten.toArray:=by
  have f0:∀m:Nat,foldl (·++·) #[] (replicate m f.toArray)=(replicate m f).flatten.toArray:=λm=>by have:=foldl_rep f m [];rw[nil_append]at this;exact this
  rw[f0];cases f with|nil=>simp|cons a M=>rw[if_neg (by simp)]
 refine wpAny_binaryOp_repeat_ref (T:="list") (U:="int") (by decide) ⟨_,ho,rfl⟩ (λL=>typeIs_int L k t) noFill_list_mul F.fills_int_mul F.slot_int_rmul repeat_list F.slot_int_index.lookup ?_;refine call_meets F.slot_int_rmul (typeIs_int s k t) F.entry_int_rmul (F.args_int_rmul_2 _ _) (rz k t l f.toArray n A sl) ⟨ho,rfl,⟨_,ho,rfl⟩,?_⟩;refine call_meets F.slot_list_mul ⟨_,ho,rfl⟩ F.entry_list_mul (F.args_list_mul_2 _ _) (Cy l f.toArray n A sl k t (by rw[fitsIndex_both h1 G];exact Bool.false_ne_true) o (by rw[GJ g];exact Bool.false_ne_true)) ⟨ho,?_⟩;rw[j];exact⟨.ref _,_,I.RJ (t':=s.toks) (r.rep k.toNat) (by rw[len_rep,Nat.mul_comm];exact hz),rfl,q _ I.fresh⟩
theorem nu:fillsNumberSlot (.type "tuple") "mul"=pure false:=PySem.fillsNumberSlot_seq (id:="tuple.__mul__") (r:=some (.builtin "tuple.__rmul__")) slot_tuple_mul.lookup (by decide+kernel) PySem.F.slot_tuple_rmul.lookup (by decide+kernel)
theorem uK:seqRepeat? (.type "tuple")=pure (some (.builtin "tuple.__mul__")):=by unfold seqRepeat?;rw[PySem.seqSlot_of (T:="tuple") (name:="__mul__") (id:="tuple.__mul__") slot_tuple_mul.lookup (by decide+kernel),PySem.seqSlot_of (T:="tuple") (name:="__rmul__") (id:="tuple.__rmul__") PySem.F.slot_tuple_rmul.lookup (by decide+kernel)];rfl
theorem pH(k:Int)(t:Tok)(l:Addr)(f:Array Value)(n:Nat)(j:Option Addr)(sl:Array (Option Value)):Meets (Builtin.«int.__rmul__» ⟨[.int k t,.ref l],[]⟩) (λ_ R s=>s.heap.get? l=some ⟨.type "tuple",j,.seq f n,sl⟩/\R (.ok (.ret Value.notImplemented)) s):=.of_wp λprog w A R s h=>by obtain⟨m,g,d,o,os⟩:=s;obtain⟨q,h⟩:=h;wp_walk;exact⟨_,rfl,h⟩
theorem xY(l:Addr)(f:Array Value)(n:Nat)(r:Option Addr)(sl:Array (Option Value))(k:Int)(t:Tok)(h0:0<=k)(h1:k<2^63)(hz:f.size*k.toNat<=sizeLine)(u:0<f.size):Meets (Builtin.«tuple.__mul__» ⟨[.ref l,.int k t],[]⟩) (λ_ R s=>s.heap.get? l=some ⟨.type "tuple",r,.seq f n,sl⟩/\(k=1->R (.ok (.ret (Value.ref l))) s)/\(k≠1->R (.ok (.ret (Value.ref s.heap.objs.size))) {s with heap:=s.heap.push {cls:=.type "tuple",data:=.seq (foldl (·++·) #[] (replicate k.toNat f))}})):=.of_wp λprog w A R s h=>by
  obtain⟨y,g,d,J,os⟩:=s;obtain⟨o,B,C⟩:=h;have j:f.isEmpty=false:=by cases e:f.isEmpty with|false=>rfl|true=>rw[Array.isEmpty_iff_size_eq_zero]at e;omega
  show wpAny _ _ (asIndex (.int k t)>>=_) _ _ _;wp_walk using wpAny_loadPart' o;have E:IsTup y l f:=⟨_,o,rfl,n,rfl⟩;rw[if_neg (by simp;omega)];refine wpAny_bind (PyProof.Rows.tupleItemsOf_ E ?_);try dsimp only
  by_cases m:k=1;.rw[if_pos (by simp[m])];wp_walk using wpAny_loadPart' o;exact⟨_,rfl,B m⟩
  . have q:=C m;rw[if_neg (by simp[j,m])];by_cases G:k=0;.subst G;rw[if_pos (by simp)];unfold tupleExact;refine wpAny_bind (wpAny_newObj_type ?_);exact wpAny_pure ⟨_,rfl,q⟩
    . have L:(f.size:Int)*k<=sizeLine:=by
       have:((f.size*k.toNat:Nat):Int)<=(sizeLine:Nat):=by exact_mod_cast hz
       rw[Int.natCast_mul,show((k.toNat:Nat):Int)=k by omega]at this;exact this
      have I:(sizeLine:Int)<=(2^63-1)/8:=by decide
      rw[if_neg (by simp[j];omega),if_neg (by omega),if_neg (by simp[Builtin.Tuple.tupleTooMany];omega)];unfold tupleExact;refine wpAny_bind (wpAny_newObj_type ?_ ?_);.exact wpAny_pure ⟨_,rfl,q⟩
      .have:=foldl_rep f.toList k.toNat [];rw[nil_append,show f.toList.toArray=f by simp]at this;show(foldl (·++·) #[] (replicate k.toNat f)).size<=sizeLine;rw[show(#[]:Array Value)=([]:List Value).toArray from rfl,this,size_toArray,len_rep,length_toList,Nat.mul_comm];exact hz
theorem LR:gk X (binaryOp .Mult) (λx y H Q=>∃l k xs,x=.ref l/\y=.int k/\dN X.K H l xs/\0<xs.length/\0<=k/\k<2^63/\xs.length*k.toNat<=sizeLine/\(k=1->Q (.ref l) H)/\(k≠1->∀p,H p=none->Q (.ref p) (upd H p (.tup (replicate k.toNat xs).flatten)))):=by
 intro w s σ H x y v u Q I B C h;obtain⟨l,k,xs,rfl,rfl,E,m,h1,G,hz,J,L⟩:=h;cases B;obtain⟨t,rfl⟩:=C;obtain⟨f,r,M,_⟩:=I.tuple E;obtain⟨⟨cls,A,data,sl⟩,ho,hc,n,hd⟩:=id M;simp only at hc hd;subst hc hd;have g:f.toArray.size*k.toNat<=sizeLine:=by rw[size_toArray,<-r.length];exact hz
 have j:foldl (·++·) #[] (replicate k.toNat f.toArray)=(replicate k.toNat f).flatten.toArray:=by have:=foldl_rep f k.toNat [];rw[nil_append]at this;exact this
 refine wpAny_binaryOp_repeat_ref (T:="tuple") (U:="int") (by decide) ⟨_,ho,rfl⟩ (λN=>typeIs_int N k t) nu F.fills_int_mul F.slot_int_rmul uK F.slot_int_index.lookup ?_;refine call_meets F.slot_int_rmul (typeIs_int s k t) F.entry_int_rmul (F.args_int_rmul_2 _ _) (pH k t l f.toArray n A sl) ⟨ho,rfl,⟨_,ho,rfl⟩,?_⟩;refine call_meets slot_tuple_mul ⟨_,ho,rfl⟩ PySem.F.entry_tuple_mul (PySem.F.args_tuple_mul_2 _ _) (xY l f.toArray n A sl k t h1 G g (by rw[size_toArray,<-r.length];exact m)) ⟨ho,λe=>⟨.ref l,H,I,rfl,J e⟩,λe=>?_⟩;rw[j];refine⟨.ref s.heap.objs.size,_,I.laid (t':=s.toks) (o:=.tup (replicate k.toNat xs).flatten) (λb O q=>du q) (cQ) ?_,rfl,L e _ (I.hok.fresh (cQ))⟩;exact⟨by rw[len_rep,Nat.mul_comm];exact hz,_,r.rep k.toNat,IsTup.new _ _⟩
theorem jM:gk X (binaryOp .Mult) (rD X.K (rA .mul)):=by
 rintro f s σ H x y v u Q I m g⟨F,d,e,r,h,q,t,he,k⟩;replace he:qC d e=some r:=he;unfold qC at he;split at he;.obtain⟨hc,he⟩:=aU he;subst he;rw[q.int]at m;rw[t.int]at g;exact RW f s σ H _ _ v u Q I m g ⟨_,_,rfl,rfl,hc,cg.dw h (bW _) k⟩
 . rename_i xs i;obtain⟨⟨h1,o,l⟩,he⟩:=aU he;subst he;obtain⟨a,vs,rfl,w,j⟩:=q.lst h;rw[t.int]at g;have A:i<2^63:=by have B:=Nat.le_mul_of_pos_left i.toNat o;have E:i.toNat<=16777216:=le_trans B l;omega
   exact J7 f s σ H _ _ v u Q I m g ⟨a,i,vs,rfl,rfl,w,by omega,A,by rw[j.length];exact l,λp C=>vR h (j.rep i.toNat) C k⟩
 . rename_i xs i;obtain⟨⟨h1,o,l⟩,he⟩:=aU he;subst he;obtain⟨a,vs,rfl,w,j,G⟩:=q.tup h;rw[t.int]at g;have A:i<2^63:=by have B:=Nat.le_mul_of_pos_left i.toNat o;have E:i.toNat<=16777216:=le_trans B l;omega
   refine LR f s σ H _ _ v u Q I m g ⟨a,i,vs,rfl,rfl,w,by rw[j.length];exact o,h1,A,by rw[j.length];exact l,λe=>?_,λe p C=>yI h (j.rep i.toNat) C k⟩;subst e;refine cg.dw h ?_ k;have J:(replicate (1:Int).toNat xs).flatten=xs:=by simp
   rw[J];exact G
 .cases he
theorem vQ:gk X (binaryOp .FloorDiv) (rD X.K (rA .fdiv)):=by
 rintro f s σ H x y v u Q I g h⟨F,d,e,r,l,m,o,he,k⟩;replace he:qL d e=some r:=he;unfold qL at he;split at he
 . rename_i i j;obtain⟨⟨h1,w⟩,he⟩:=aU he;subst he;rw[m.int]at g;rw[o.int]at h;obtain⟨t,rfl⟩:=g;obtain⟨t',rfl⟩:=h;have q:j.natAbs.log2<9000:=by
    have:j.natAbs<2^200:=by
     have:(2:Nat)^200=1606938044258990275541962092341162602522202993782792835301376:=by decide
     omega
    have A:=(Nat.log2_lt (by omega)).mpr this;omega
   exact floordiv_int (by omega) (by rw[Int.fdiv_eq_ediv_of_nonneg i (by omega)];exact⟨.int _,H,I.tok _,⟨_,rfl⟩,cg.dw l (bW _) k⟩) (.inl (PyProof.noPylong_of_log2 q))
 .cases he
theorem gA:gk X (binaryOp .Mod) (rD X.K (rA .mod)):=by
 rintro f s σ H x y v u Q I g h⟨F,d,e,r,j,l,m,he,k⟩;replace he:vW d e=some r:=he;unfold vW at he;split at he;.obtain⟨h1,he⟩:=aU he;subst he;rw[l.int]at g;rw[m.int]at h;exact R6 f s σ H _ _ v u Q I g h ⟨_,_,rfl,rfl,h1,cg.dw j (bW _) k⟩
 .cases he
theorem jW:gk X (binaryOp .Pow) (rD X.K (rA .pow)):=by
 rintro f s σ H x y v u Q I g h⟨F,d,e,r,j,l,m,he,k⟩;replace he:vV d e=some r:=he;unfold vV at he;split at he;.obtain⟨⟨h1,q,o⟩,he⟩:=aU he;subst he;rw[l.int]at g;rw[m.int]at h;exact Qs f s σ H _ _ v u Q I g h ⟨_,_,rfl,rfl,⟨h1,by omega,o⟩,cg.dw j (bW _) k⟩
 .cases he
theorem aG{o:Op}{op:Operator}(ho:gk X (binaryOp op) (rD X.K (rA o)))(f:SX X c a pa)(g:SX X c b pb):SX X c (.BinOp a op b pos) (.bin o pa pb):=uw (λh1 h=>WD ho h1 h) f g (λρ=>rfl) rfl
theorem uB(j:SX X c a pa):SX X c (.UnaryOp .USub a pos) (.neg pa):=by refine Qf (f:=Fe) (λh1=>Xf ?_ h1) j (λρ=>rfl) rfl;rintro g s σ H x v Q I h⟨F,d,r,l,m,he,k⟩;unfold Fe at he;obtain⟨i,o,q⟩:=map_some he;subst q;cases d<;>cases o;rw[m.int]at h;exact PK g s σ H _ v Q I h ⟨_,rfl,cg.dw l (bW _) k⟩
theorem Bs{f:Int->Int->Bool}(ho:gk X (compareOp op) (JT λi j=>.bl (f i j))):gk X (compareOp op) (rD X.K λx y=>(JB f x y).map λk=>.val (.bl k)):=by
 rintro g s σ H x y v u Q I l m⟨F,d,e,r,o,q,w,he,k⟩;obtain⟨t,h,A⟩:=map_some (show(JB f d e).map _=some r from he);subst A;unfold JB at h;split at h;.cases h;rw[q.int]at l;rw[w.int]at m;exact ho g s σ H _ _ v u Q I l m ⟨_,_,rfl,rfl,cg.dw o (fc _) k⟩
 .cases h
theorem Iz{f:Int->Int->Bool}(ho:gk X (compareOp op) (JT λi j=>.bl (f i j))){o:Cm}(hc:cm o=JB f):gk X (compareOp op) (rD X.K (uZ o)):=by
 have e:uZ o=λx y=>(JB f x y).map λk=>.val (.bl k):=by funext x y;unfold uZ;rw[hc]
 rw[e];exact Bs ho
theorem Rn:gk X (compareOp .Lt) (rD X.K λx y=>(JB (λi j=>decide (i<j)) x y).map λk=>.val (.bl k)):=Bs V7
theorem pq:gk X (compareOp .Gt) (rD X.K (uZ .gt)):=Iz Wo rfl
theorem Rb:gk X (compareOp .GtE) (rD X.K (uZ .ge)):=Iz VJ rfl
theorem Ck{d:D}(h:cN K F H v d):decide (v=.non)=ji d:=by cases d with
 |non=>rw[h.non];rfl|bl _=>rw[h.bl];rfl|int _=>rw[h.int];rfl|str _=>rw[h.str];rfl|tup _=>
   rcases h with h|⟨a,_,_,rfl,_⟩;.rw[Rep]at h;obtain⟨a,_,rfl,_⟩:=h;rfl
   .rfl|lst _=>
   rcases h with h|⟨a,_,_,rfl,_⟩;.rw[Rep]at h;obtain⟨a,_,rfl,_⟩:=h;rfl
   .rfl|cX _=>
   rcases h with h|⟨a,_,_,rfl,_⟩;.rw[Rep]at h;obtain⟨a,_,rfl,_⟩:=h;rfl
   .rfl|dv _ _=>
   rcases h with h|⟨a,_,_,rfl,_⟩;.rw[Rep]at h;obtain⟨a,_,_,rfl,_⟩:=h;rfl
   .rfl
theorem Ka:gk X (compareOp .IsNot) (rD X.K (uZ .MK)):=by
 rintro f s σ H x y v u Q I h j⟨F,d,e,r,l,m,o,he,k⟩;obtain⟨t,g,q⟩:=map_some (show(Z4 true d e).map _=some r from he);subst q;unfold Z4 at g;split at g;.cases g;exact Mq f s σ H x y v u Q I h j ⟨o.non,by rw[Ck m];exact cg.dw l (fc _) k⟩
 .cases g
theorem uv{o:Cm}(ho:gk X (compareOp op) (rD X.K (uZ o)))(f:SX X c a pa)(g:SX X c b pb)(h:behindInMarks op b=false):SX X c (.Compare a [op] [b] pos) (.cmp o pa pb):=uw (λh1 j=>J3 ho h1 j h) f g (λρ=>rfl) rfl
end
section
variable{X:Cx}{c:Call}{e a b d:Expr}{p pa pb pd:P}{pos:Pos}{rest:List Expr}
theorem qM{x:D}{k:Bool}(h:zy x=some k):x=.bl k:=by cases x<;>cases h;rfl
theorem cL{x:D}{k:Int}(h:iy x=some k):x=.int k:=by cases x<;>cases h;rfl
theorem cz.bool{g j:Hp}{f:L2.St}{r:R}{k:Bool}(h:cz K g ρ' f j ρ σ H v r)(e:r.d=.bl k):v=.bl k:=by cases r with|val d=>cases(show d=.bl k from e);have h:Rep K g v (.bl k):=h;rw[Rep]at h;exact h|own ds=>cases e
def ST(X:Cx)(c:Call)(e:Expr)(p:P):Prop:=PT X e (Jt X.K (iu (HH.ev c p)))
def SW(X:Cx)(c:Call)(e:Expr)(p:P):Prop:=PW X e (Jt X.K (iu (HH.ev c p)))
theorem SW.st(h:SW X c e p):ST X c e p:=PW.pt h
theorem mV{t:TE}{Q:Bool->Hp->Prop}(j:∀Q,xM X.K (HH.ev c p) σ H Q->t σ H Q)(h:Jt X.K (iu (HH.ev c p)) σ H Q):t σ H λx l=>∃k,x=.bl k/\Q k l:=by obtain⟨F,ρ,k,ρ',g,e,q⟩:=h;obtain⟨r,ρ1,m,f⟩:=aa e;have o:=aF f;clear f;obtain⟨f,u⟩:=o;subst u;exact j _ ⟨F,ρ,r,ρ1,g,m,λv w y s A=>⟨k,A.bool (qM f),q w y s⟩⟩
theorem eX(h:SX X c e p)(he:∀f,isTrue e X.env f=(do let v<-f;standAt e.pos;holding [v] (truthy v)):=by intro _;rfl):ST X c e p:=wW (Ij h.ev he) λσ H Q q=>mV (λ_ z=>z) q
theorem bQ{o:Cm}(ho:gk X (compareOp op) (rD X.K (uZ o)))(j:SX X c a pa)(l:SX X c b pb)(m:behindInMarks op b=false):ST X c (.Compare a [op] [b] pos) (.cmp o pa pb):=by obtain⟨y,A,h1,B,C⟩:=j.jD l;refine wW (Bq ho h1 B m) λσ H Q q=>mV (t:=nQ (rD X.K (uZ o)) y A) (λQ z=>?_) q;obtain⟨F,ρ,r,ρ',g,e,k⟩:=z;rw[HH.E8]at e;obtain⟨h,ρ1,E,f⟩:=aa e;have G:=aF f;clear f;obtain⟨f,I⟩:=G;subst I;refine C g E λv u J U s L M=>⟨J,h.1,h.2,r,s.gs.sub,L,M,f,λw F2 N x O=>?_⟩;exact k w F2 N (s.trans (x.stp s.gs)) (.later s (O.pB s.gs))
theorem jc(l:ST X c a pa):ST X c (.UnaryOp .Not a pos) (.not pa):=by
 refine wW (Ey l) ?_;rintro σ H Q⟨F,ρ,k,ρ',g,e,q⟩;unfold iu at e;rw[HH.E5]at e;obtain⟨r,ρ1,m,f⟩:=aa e;obtain⟨h,ρ2,o,t⟩:=aa m;cases t;have u:=aF f;clear f;obtain⟨f,w⟩:=u;subst w;have f:(!h)=k:=by cases f;rfl
 exact⟨F,ρ,h,_,g,o,λy j s=>by show Q (!h) j;rw[f];exact q y j s⟩
theorem Kv(ρ:List Sl):iu (HH.ev c (.and pa pb)) ρ=(iu (HH.ev c pa) ρ).bind λx ρ=>if x then iu (HH.ev c pb) ρ else .ok false ρ:=by unfold iu;rw[HH.E6];unfold iu;cases HH.ev c pa ρ with|exc _ _=>rfl|stuck=>rfl|ok r ρ1=>simp only[Res.bind];cases h:zy r.d with|none=>rfl|some k=>cases k with|false=>rfl|true=>simp only[lift,if_true];cases HH.ev c pb ρ1 with|exc _ _=>rfl|stuck=>rfl|ok f ρ2=>simp only[Res.bind];cases h2:zy f.d with|none=>rfl|some g=>rfl
theorem Qq(ρ:List Sl):iu (HH.ev c (.or pa pb)) ρ=(iu (HH.ev c pa) ρ).bind λx ρ=>if x then .ok true ρ else iu (HH.ev c pb) ρ:=by unfold iu;rw[HH.E7];unfold iu;cases HH.ev c pa ρ with|exc _ _=>rfl|stuck=>rfl|ok r ρ1=>simp only[Res.bind];cases h:zy r.d with|none=>rfl|some k=>cases k with|true=>rfl|false=>simp only[lift,false_eq_true,if_false];cases HH.ev c pb ρ1 with|exc _ _=>rfl|stuck=>rfl|ok f ρ2=>simp only[Res.bind];cases h2:zy f.d with|none=>rfl|some g=>rfl
theorem Ks(f:ST X c a pa):SW X c (.BoolOp .And [a] pos) pa:=JP f
theorem mX(f:ST X c a pa):SW X c (.BoolOp .Or [a] pos) pa:=QW f
theorem S6(f:ST X c a pa)(h:SW X c (.BoolOp .And (b::rest) pos) pb):SW X c (.BoolOp .And (a::b::rest) pos) (.and pa pb):=by refine Oj (Py f h) ?_;rintro σ H Q⟨F,ρ,k,ρ',g,e,q⟩;rw[Kv]at e;obtain⟨x,ρ1,j,e⟩:=aa e;refine⟨F,ρ,x,ρ1,g,j,λF1 l s1=>?_⟩;cases x with|true=>rw[if_pos rfl]at e ⊢;exact⟨F1,ρ1,k,ρ',s1.gs,e,λF2 m s2=>q F2 m (s1.trans s2)⟩|false=>rw[if_neg Bool.false_ne_true]at e ⊢;cases e;exact q F1 l s1
theorem qw(f:ST X c a pa)(h:SW X c (.BoolOp .Or (b::rest) pos) pb):SW X c (.BoolOp .Or (a::b::rest) pos) (.or pa pb):=by refine Oj (Xj f h) ?_;rintro σ H Q⟨F,ρ,k,ρ',g,e,q⟩;rw[Qq]at e;obtain⟨x,ρ1,j,e⟩:=aa e;refine⟨F,ρ,x,ρ1,g,j,λF1 l s1=>?_⟩;cases x with|true=>rw[if_pos rfl]at e ⊢;cases e;exact q F1 l s1|false=>rw[if_neg Bool.false_ne_true]at e ⊢;exact⟨F1,ρ1,k,ρ',s1.gs,e,λF2 m s2=>q F2 m (s1.trans s2)⟩
theorem R9(j:SX X c a pa):SX X c (.UnaryOp .Not a pos) (.not pa):=by refine⟨dZ (Qa j.ev) ?_,λi h=>by cases h⟩;rintro σ H Q⟨F,ρ,r,ρ',g,e,k⟩;rw[HH.E5]at e;obtain⟨x,ρ1,l,m⟩:=aa e;cases m;exact mV (c:=c) (λ_ z=>z) ⟨F,ρ,x,_,g,l,λf o s=>k _ f o s (show Rep X.K f _ _ from fc _)⟩
theorem Bk{op}(f:SX X c a pa):PE X (.BoolOp op [a] pos) (xM X.K (HH.ev c pa)):=QH f.ev
theorem El(l:SX X c a pa)(m:PE X (.BoolOp .And (b::rest) pos) (xM X.K (HH.ev c pb))):SX X c (.BoolOp .And (a::b::rest) pos) (.and pa pb):=by refine⟨dZ (Q9 l.ev m) ?_,λi h=>by cases h⟩;rintro σ H Q⟨F,ρ,r,ρ',g,e,k⟩;rw[HH.E6]at e;obtain⟨x,ρ1,o,e⟩:=aa e;refine mV (c:=c) (λ_ z=>z) (Q:=λx f=>if x=true then xM X.K (HH.ev c pb) σ f Q else Q (.bl false) f) ⟨F,ρ,x,ρ1,g,o,λF1 f s1=>?_⟩;cases x with|true=>rw[if_pos rfl]at e ⊢;obtain⟨y,ρ2,q,s⟩:=aa e;cases s;obtain⟨t,u,w,j⟩:=aa q;have A:=aF j;clear j;obtain⟨j,B⟩:=A;subst B;refine⟨F1,ρ1,t,_,s1.gs,w,λv F2 C s2 E=>?_⟩;rw[E.bool (qM j)];exact k _ F2 C (s1.trans s2) (show Rep X.K F2 _ _ from fc _)|false=>rw[if_neg Bool.false_ne_true]at e ⊢;cases e;exact k _ F1 f s1 (show Rep X.K F1 _ _ from fc _)
theorem ug(hc:ST X c e p)(t:SX X c a pa)(u:SX X c b pb):SX X c (.IfExp e a b pos) (.Oz p pa pb):=by refine⟨dZ (Fq hc t.ev u.ev) ?_,λi h=>by cases h⟩;rintro σ H Q⟨F,ρ,r,ρ',g,e,k⟩;rw[HH.E9]at e;obtain⟨x,ρ1,w,e⟩:=aa e;refine⟨F,ρ,x,ρ1,g,w,λF1 y s1=>?_⟩;cases x with|true=>rw[if_pos rfl]at e ⊢;obtain⟨f,ρ2,j,l⟩:=aa e;cases l;refine⟨F1,ρ1,f,_,s1.gs,j,λv F2 m s2 o=>?_⟩;obtain⟨q,s3,_,s⟩:=s2.cG o;exact k v q m (s1.trans s3) s|false=>rw[if_neg Bool.false_ne_true]at e ⊢;obtain⟨f,ρ2,j,l⟩:=aa e;cases l;refine⟨F1,ρ1,f,_,s1.gs,j,λv F2 m s2 o=>?_⟩;obtain⟨q,s3,_,s⟩:=s2.cG o;exact k v q m (s1.trans s3) s
theorem uq:∀{ps:List P}{ρ ρ':List Sl}{ds:List D},evs c ps ρ=.ok ds ρ'->ds.length=ps.length|[],_,_,_,h=>by rw[HD]at h;cases h;rfl|p::ps,_,_,_,h=>by rw[GD]at h;obtain⟨r,ρ1,_,h⟩:=aa h;obtain⟨xs,ρ2,f,h⟩:=aa h;cases h;simp[uq f]
theorem bG:SA X c [] []:=⟨wX cH λσ H Q⟨F,ρ,ds,ρ',g,e,k⟩=>by rw[HD]at e;cases e;exact k [] F H (.refl g) .nil,rfl⟩
theorem Af{ps:List P}(f:SX X c a pa)(hr:SA X c es ps)(hs:starEach (a::es) X.env=(false,eval a X.env)::starEach es X.env:=by rfl):SA X c (a::es) (pa::ps):=by refine⟨wX (aX f.ev hr.1 hs) ?_,by simp[hr.2]⟩;rintro σ H Q⟨F,ρ,ds,ρ',g,e,k⟩;rw[GD]at e;obtain⟨r,ρ1,h,e⟩:=aa e;obtain⟨xs,ρ2,j,e⟩:=aa e;cases e;refine⟨F,ρ,r,ρ1,g,h,λv t u s l=>?_⟩;obtain⟨F1,s1,_,m⟩:=s.cG l;refine⟨F1,ρ1,xs,_,s1.gs,j,λvs F2 o s2 q=>?_⟩;exact k _ F2 o (s1.trans s2) (.cons (m.mono s2.cu) q)
theorem Ext.Kg{h j:Hp}{Q:VK}{xs:List V}(s:az K j ρ σ h F ρ' σ H)(r:aA K F xs ds)(k:∀v g f,az K j ρ σ h g ρ' σ f->cz K g ρ' σ f ρ σ h v (.val (.tup ds))->Q v f)(p:Addr)(l:H p=none):Q (.ref p) (upd H p (.tup xs)):=yI s.gs.sub r l λv g f x m=>k v g f (s.trans (x.stp s.gs)) m
theorem dq{ps:List P}{x1}(h:SA X c es ps)(hz:ps.length<=sizeLine:=by decide):SX X c (.Tuple es x1 pos) (.tup ps):=by refine⟨dZ (HB h.1) ?_,λi h=>by cases h⟩;rintro σ H Q⟨F,ρ,r,ρ',g,e,k⟩;rw[HH.E10]at e;obtain⟨ds,ρ1,f,e⟩:=aa e;cases e;exact⟨F,ρ,ds,_,g,f,λvs m o s j=>⟨by rw[j.length,uq f];exact hz,λp l=>Ext.Kg s j k p l⟩⟩
theorem gH{ps:List P}(h:SA X c es ps)(hz:ps.length<=sizeLine:=by decide):SX X c (.List es pos) (.lst ps):=by refine⟨dZ (Pa h.1) ?_,λi h=>by cases h⟩;rintro σ H Q⟨F,ρ,r,ρ',g,e,k⟩;rw[HH.E11]at e;obtain⟨ds,ρ1,f,e⟩:=aa e;cases e;exact⟨F,ρ,ds,_,g,f,λvs q t s j=>⟨by rw[j.length,uq f];exact hz,λp l=>vR s.gs.sub j l λv F2 m x o=>k v F2 m (s.trans (x.stp s.gs)) (.later s (o.pB s.gs))⟩⟩
theorem Gf{i:Int}{d:D}(h:at' ds i=some d):∃j,L2.iT ds.length i=some j/\ds[j]?=some d:=bZ h
theorem aca:Ze X (rD X.K JS):=by
 rintro f slice g s σ H x y v u Q I o l⟨F,d,e,r,m,A,B,he,k⟩hs;unfold JS at he;obtain⟨ds,C,he⟩:=bZ he;obtain⟨i,E,he⟩:=bZ he;obtain⟨z,G,he⟩:=map_some he;subst he;cases cL E;rw[B.int]at l;obtain⟨p,xs,rfl,hq,q⟩:=A.items m C;obtain⟨j,h1,J⟩:=Gf G;obtain⟨w,L,t⟩:=q.get J;have h:GR xs i=some w:=by unfold GR;rw[q.length,h1];exact L
 rcases hq with hq|hq;.exact zT f slice g s σ H _ _ v u Q I o l ⟨p,xs,i,w,rfl,rfl,hq,h,cg.dw m t k⟩ hs
 .exact GP f slice g s σ H _ _ v u Q I o l ⟨p,xs,i,w,rfl,rfl,hq,h,cg.dw m t k⟩ hs
theorem aq(g:SX X c a pa)(h:SX X c b pb)(hs:tZ b:=by intro _ _;rfl):SX X c (.Subscript a b pos) (.idx pa pb):=uw (f:=JS) (λh1 j=>Hs aca h1 j hs) g h (λρ=>rfl) rfl
def J8(K:PySem.W.Frag)(f:D->Option R):List V->Hp->VK->Prop:=λxs H Q=>∃x,xs=[x]/\rD1 K f x H Q
theorem nJ{E:Expr}{f:D->Option R}{q:P}(l:∀{t},PA X [a] t->PE X E (Q0 (J8 X.K f) t))(m:SX X c a pa)(o:∀ρ,HH.ev c q ρ=(HH.cV (isVar pa) (HH.ev c pa) ρ).bind λx ρ=>lift (f x) ρ)(u:isVar q=none)(hs:starEach [a] X.env=(false,eval a X.env)::starEach [] X.env:=by rfl):SX X c E q:=by obtain⟨M,h1,y⟩:=m.cV;refine⟨dZ (l (aX h1 cH hs)) ?_,λi h=>by rw[u]at h;cases h⟩;rintro σ H Q⟨F,ρ,r,ρ',g,e,k⟩;rw[o]at e;obtain⟨x,ρ1,A,j⟩:=aa e;have B:=aF j;clear j;obtain⟨j,C⟩:=B;subst C;refine y g A λv G N s I=>⟨v,rfl,G,x,r,s.gs.sub,I,j,λw F2 J x L=>?_⟩;exact k w F2 J (s.trans (x.stp s.gs)) (.later s (L.pB s.gs))
theorem Wx:dH X (.builtin "len") (J8 X.K λx=>blt .len [x]):=by rintro f s σ H xs h Q I r⟨x,j,F,d,l,g,m,he,k⟩;obtain⟨ds,o,he⟩:=map_some (show(items d).map _=some l from he);subst he;obtain⟨p,ys,rfl,q,t⟩:=m.items g o;exact tU f s σ H xs h Q I r ⟨p,ys,j,q,by rw[t.length];exact cg.dw g (bW _) k⟩
theorem RK:dH X (.type "list") (J8 X.K λx=>blt .list [x]):=by rintro f s σ H xs h Q I r⟨x,j,F,d,m,g,o,he,k⟩;obtain⟨ds,q,he⟩:=map_some (show(items d).map _=some m from he);subst he;obtain⟨p,ys,rfl,t,u⟩:=o.items g q;exact lW f s σ H xs h Q I r ⟨p,ys,j,t,λl w=>vR g u w k⟩
theorem Lf:dH X (.type "tuple") (J8 X.K λx=>blt .tuple [x]):=by rintro f s σ H xs m Q I r⟨x,o,F,d,u,g,q,he,k⟩;obtain⟨ds,h,he⟩:=map_some (show(items d).map _=some u from he);subst he;cases d with|tup es=>cases h;obtain⟨a,ys,rfl,j,t,rt⟩:=q.tup g;exact kO f s σ H xs m Q I r ⟨a,ys,o,.inr ⟨j,cg.dw g rt k⟩⟩|lst es=>cases h;obtain⟨a,ys,rfl,j,t⟩:=q.lst g;exact kO f s σ H xs m Q I r ⟨a,ys,o,.inl ⟨j,λl w=>yI g t w k⟩⟩|_=>cases h
theorem iC(f:x="len")(g:Gl X x)(j:X.mg x=none)(k:SX X c a pa)(hs:starEach [a] X.env=(false,eval a X.env)::starEach [] X.env:=by rfl):SX X c (.Call (.Name x p') [a] [] pos) (.blt .len [pa]):=by subst f;exact nJ (λh=>eO Wx g j PySem.boot_len h (he:=hs)) k (λρ=>rfl) rfl hs
theorem Bm(f:x="list")(g:Gl X x)(j:X.mg x=none)(k:SX X c a pa)(hs:starEach [a] X.env=(false,eval a X.env)::starEach [] X.env:=by rfl):SX X c (.Call (.Name x p') [a] [] pos) (.blt .list [pa]):=by subst f;exact nJ (λh=>gW RK g j (by decide+kernel) h (he:=hs)) k (λρ=>rfl) rfl hs
theorem pO(f:x="tuple")(g:Gl X x)(j:X.mg x=none)(k:SX X c a pa)(hs:starEach [a] X.env=(false,eval a X.env)::starEach [] X.env:=by rfl):SX X c (.Call (.Name x p') [a] [] pos) (.blt .tuple [pa]):=by subst f;exact nJ (λh=>gW Lf g j (by decide+kernel) h (he:=hs)) k (λρ=>rfl) rfl hs
end
def De(K:PySem.W.Frag)(np:Nat)(f:List Sl->Res R):Sp:=λvs H Q _=>vs.length=np/\∃F args r a,GS K F args (vs.map some) H/\f args=.ok r a/\∀v e b c,az K F args (vs.map some) H e a b c->cz K e a b c args (vs.map some) H v r->Q v c
section
variable{K:PySem.W.Frag}
def zr(K:PySem.W.Frag)(F:Hp)(ρ:List Sl)(σ:L2.St)(H:Hp)(ρ₀:List Sl)(H₀:Hp)(v:V):Arg->Prop|.dat d=>Rep K F v d|.tmp ds=>∃x xs,v=.ref x/\H x=some (.lst xs)/\F x=none/\aA K F xs ds/\¬ Own ρ σ x/\(Own ρ₀ σ x\/H₀ x=none)|.dY i=>σ[i]?=some (some v)
structure vI(K:PySem.W.Frag)(F:Hp)(ρ:List Sl)(σ:L2.St)(H:Hp)(ρ₀:List Sl)(H₀:Hp)(as:List Arg)(vs:List V):Prop where
 len:as.length=vs.length
 one:∀(j:Nat)(a:Arg)(v:V),as[j]?=some a->vs[j]?=some v->zr K F ρ σ H ρ₀ H₀ v a
 dis:∀(j k:Nat)(ds es:List D)(x:Addr),as[j]?=some (.tmp ds)->as[k]?=some (.tmp es)->vs[j]?=some (.ref x)->vs[k]?=some (.ref x)->j=k
theorem zr.later{b f:Hp}{a:Arg}(s:az K F ρ σ H b ρ' σ f)(h:zr K F ρ σ H ρ₀ H₀ v a):zr K b ρ' σ f ρ₀ H₀ v a:=by cases a with|dat d=>exact Rep.mono s.cu h|dY i=>exact h|tmp ds=>
   obtain⟨x,xs,h1,c,g,j,e,k⟩:=h;refine⟨x,xs,h1,s.keep x _ c e,?_,j.mono s.cu,λo=>?_,k⟩;.cases q:b x with|none=>rfl|some o=>
       rcases s.uV x g (by rw[q];simp)with z|z;.exact absurd z e
       .exact(Hm c z).elim
   . rcases s.u9 x o with z|z;.exact e z
     .rw[c]at z;cases z
theorem vI.nil:vI K F ρ σ H ρ₀ H₀ [] []:=⟨rfl,λj a v h=>by simp at h,λj k ds es x h=>by simp at h⟩
theorem vI.cons{F H H₀:Hp}{ρ ρ₀:List Sl}{σ:L2.St}{a:Arg}{v:V}{as:List Arg}{vs:List V}(h:zr K F ρ σ H ρ₀ H₀ v a)(t:vI K F ρ σ H ρ₀ H₀ as vs)(hd:∀ds x,a=.tmp ds->v=.ref x->∀(k:Nat)es,as[k]?=some (.tmp es)->vs[k]?≠some (.ref x)):vI K F ρ σ H ρ₀ H₀ (a::as) (v::vs):=by
 refine⟨by simp[t.len],λj b u h1 c=>?_,λj k ds es x h1 c e f=>?_⟩;.cases j with|zero=>simp at h1 c;subst h1;subst c;exact h|succ j=>exact t.one j b u (by simpa using h1) (by simpa using c)
 .cases j with
   |zero=>cases k with|zero=>rfl|succ k=>simp at h1 e;exact absurd (by simpa using f) (hd ds x h1 e k es (by simpa using c))
   |succ j=>cases k with|zero=>simp at c f;exact absurd (by simpa using e) (hd es x c f j ds (by simpa using h1))|succ k=>rw[t.dis j k ds es x (by simpa using h1) (by simpa using c) (by simpa using e) (by simpa using f)]
def Gg(ρ:List Sl):Arg->Sl->Prop|.dat d,s=>s=.val false d|.tmp ds,s=>s=.own false ds|.dY i,s=>(∃b d,ρ[i]?=some (.val b d)/\s=.val false d)\/(∃b ds,ρ[i]?=some (.own b ds)/\s=.own true ds)\/∃ds,ρ[i]?=some (.lent ds)/\s=.lent ds
theorem qP{ρ:List Sl}:∀{as:List Arg}{c:List Nat}{args:List Sl},bK ρ as c=some args->args.length=as.length/\(∀(j:Nat)(a:Arg)(s:Sl),as[j]?=some a->args[j]?=some s->Gg ρ a s)/\(∀(j:Nat)(i:Nat)(s:Sl)ds,as[j]?=some (.dY i)->args[j]?=some s->lst? s=some ds->i∉c)/\(∀(j k:Nat)(i:Nat)(s t:Sl)ds es,as[j]?=some (.dY i)->as[k]?=some (.dY i)->args[j]?=some s->args[k]?=some t->lst? s=some ds->lst? t=some es->j=k)
 |[],c,args,h=>by rw[yd]at h;cases h;exact⟨rfl,λj a s h=>by simp at h,λj i s ds h=>by simp at h,λj k i s t ds es h=>by simp at h⟩|a::as,c,args,h=>by--the acH slot,the acI
   have A:∃s0 r u,args=s0::r/\bK ρ as u=some r/\Gg ρ a s0/\((∃i ds,a=.dY i/\lst? s0=some ds/\u=i::c/\i∉c)\/((∀i ds,a=.dY i->lst? s0≠some ds)/\u=c)):=by cases a with|dat d=>rw[zp]at h;obtain⟨r,g,l⟩:=map_some h;exact⟨_,r,c,l.symm,g,rfl,.inr ⟨λi ds z=>(by cases z),rfl⟩⟩|tmp d=>rw[yt]at h;obtain⟨r,g,l⟩:=map_some h;exact⟨_,r,c,l.symm,g,rfl,.inr ⟨λi ds z=>(by cases z),rfl⟩⟩|dY i=>
      rw[pQ]at h;split at h;.rename_i b d q;obtain⟨r,g,l⟩:=map_some h;exact⟨_,r,c,l.symm,g,.inl ⟨b,d,q,rfl⟩,.inr ⟨λ_ _ _ z=>(by cases z),rfl⟩⟩
      . rename_i b ds q;split at h;.cases h
        .rename_i o;obtain⟨r,g,l⟩:=map_some h;exact⟨_,r,_,l.symm,g,.inr (.inl ⟨b,ds,q,rfl⟩),.inl ⟨i,_,rfl,rfl,rfl,by simpa using o⟩⟩
      . rename_i ds q;split at h;.cases h
        .rename_i o;obtain⟨r,g,l⟩:=map_some h;exact⟨_,r,_,l.symm,g,.inr (.inr ⟨ds,q,rfl⟩),.inl ⟨i,_,rfl,rfl,rfl,by simpa using o⟩⟩
      .cases h
   obtain⟨s0,r,u,rfl,hr,B,o⟩:=A;obtain⟨O,l2,C,Q⟩:=qP hr;have sub:∀i,i∉u->i∉c:=λi L M=>by
    rcases o with⟨_,_,_,_,rfl,_⟩|⟨_,rfl⟩;.exact L (mem_cons_of_mem _ M)
    .exact L M
   refine⟨by simp[O],λj b s h1 f=>?_,λj i s ds h1 f p=>?_,λj k i s t ds es h1 f p y E G=>?_⟩;.cases j with|zero=>simp at h1 f;subst h1;subst f;exact B|succ j=>exact l2 j b s (by simpa using h1) (by simpa using f)
   .cases j with|zero=>
       simp at h1 f;subst h1;subst f;rcases o with⟨N,_,e,_,_,m⟩|⟨m,_⟩;.cases e;exact m
       .exact absurd p (m i ds rfl)|succ j=>exact sub i (C j i s ds (by simpa using h1) (by simpa using f) p)
   . have U:∀(k:Nat)(t:Sl)es,a=.dY i->lst? s0=some ds->(as[k]?=some (.dY i))->r[k]?=some t->lst? t=some es->False:=λk t es w I J ht he=>by
      rcases o with⟨N,_,e,_,rfl,m⟩|⟨m,_⟩;.rw[w]at e;cases e;exact C k i t es J ht he mem_cons_self
      .exact m i ds w I
     have W:∀(k:Nat)(t:Sl)es,a=.dY i->lst? s0=some es->(as[k]?=some (.dY i))->r[k]?=some t->lst? t=some ds->False:=λk t es w I J ht he=>by
      rcases o with⟨N,_,e,_,rfl,m⟩|⟨m,_⟩;.rw[w]at e;cases e;exact C k i t ds J ht he mem_cons_self
      .exact m i es w I
     cases j with
     |zero=>cases k with|zero=>rfl|succ k=>simp at h1 p;subst p;exact(U k t es h1 E (by simpa using f) (by simpa using y) G).elim
     |succ j=>cases k with|zero=>simp at f y;subst y;exact(W j s es f G (by simpa using h1) (by simpa using p) E).elim|succ k=>rw[Q j k i s t ds es (by simpa using h1) (by simpa using f) (by simpa using p) (by simpa using y) E G]
theorem vI.get(A:vI K F ρ σ H ρ₀ H₀ as vs){args:List Sl}{j:Nat}{s:Sl}(c:args.length=as.length)(h:args[j]?=some s):∃a v,as[j]?=some a/\vs[j]?=some v/\zr K F ρ σ H ρ₀ H₀ v a:=by
 have e:j<args.length:=(dU h).1;have h1:j<as.length:=by omega
 have b:j<vs.length:=by rw[<-A.len];exact h1
 exact⟨as[j],vs[j],by simp[h1],by simp[b],A.one j _ _ (by simp[h1]) (by simp[b])⟩
theorem args_gs{args:List Sl}(g:GS K F ρ σ H)(A:vI K F ρ σ H ρ₀ H₀ as vs)(h:bK ρ as []=some args):GS K F args (vs.map some) H:=by
 obtain⟨I,l2,l3,Z⟩:=qP h;have M:∀{j:Nat}{v:V},vs[j]?=some v->(vs.map some)[j]?=some (some v):=λe=>by rw[getElem?_map,e];rfl
 have dn:∀{j:Nat}{v:V},(vs.map some)[j]?=some (some v)->vs[j]?=some v:=λ{j v}e=>by rw[getElem?_map]at e;cases q:vs[j]?with|none=>rw[q]at e;cases e|some w=>rw[q]at e;cases e;rfl
 refine⟨g.sub,by rw[I,A.len,length_map],λj b d e=>?_,λj s ds e J=>?_,λj k x⟨⟨s,ds,e1,e2⟩,N⟩⟨⟨t,es,f1,f2⟩,f3⟩=>?_⟩;.obtain⟨a,v,h1,u,m⟩:=A.get I e;have B:=l2 j a _ h1 e;refine⟨v,M u,?_⟩;cases a with|dat d'=>cases B;exact m|tmp ds=>cases B|dY i=>
     rcases B with⟨O,d',r,c⟩|⟨_,_,_,c⟩|⟨_,_,c⟩;.cases c;obtain⟨w,f,p⟩:=g.val i O d r;have m:σ[i]?=some (some v):=m;rw[m]at f;cases f;exact p
     .cases c
     .cases c
 .obtain⟨a,v,h1,u,m⟩:=A.get I e;have B:=l2 j a _ h1 e;cases a with|dat d'=>cases B;cases J|tmp es=>cases B;cases J;obtain⟨x,xs,rfl,c,f,p,_⟩:=m;exact⟨x,_,M u,c,f,xs,rfl,p⟩|dY i=>
     have m:σ[i]?=some (some v):=m;rcases B with⟨O,d',r,c⟩|⟨O,es,r,c⟩|⟨es,r,c⟩;.cases c;cases J
     .cases c;cases J;obtain⟨x,xs,f,p⟩:=g.own i _ _ r rfl;rw[m]at f;cases f;exact⟨x,xs,M u,p⟩
     .cases c;cases J;obtain⟨x,xs,f,p⟩:=g.own i _ _ r rfl;rw[m]at f;cases f;exact⟨x,xs,M u,p⟩
 . obtain⟨a,v,h1,u,m⟩:=A.get I e1;obtain⟨Q,v',C,L,E⟩:=A.get I f1;have N:=dn N;have f3:=dn f3;rw[u]at N;cases N;rw[L]at f3;cases f3;have s1:=l2 j a _ h1 e1;have s2:=l2 k Q _ C f1;have U:∀{i:Nat}{s:Sl}{ds:Oc},lst? s=some ds->Gg ρ (.dY i) s->∃G o,ρ[i]?=some G/\lst? G=some o:=λ{i s ds}l z=>by
    rcases z with⟨_,_,_,z⟩|⟨b,es,q,_⟩|⟨es,q,_⟩;.subst z;cases l
    .exact⟨_,_,q,rfl⟩
    .exact⟨_,_,q,rfl⟩
   cases a with
   |dat d=>cases s1;cases e2|tmp Tf=>cases Q with|dat d=>cases s2;cases f2|tmp Y=>exact A.dis j k Tf Y x h1 C u L|dY i=>obtain⟨y,_,r,_,_,_,c,_⟩:=m;cases r;obtain⟨G,o,f,p⟩:=U f2 s2;exact absurd ⟨i,⟨G,o,f,p⟩,E⟩ c
   |dY i=>obtain⟨G,o,f,p⟩:=U e2 s1;cases Q with|dat d=>cases s2;cases f2|tmp Y=>obtain⟨y,_,r,_,_,_,c,_⟩:=E;cases r;exact absurd ⟨i,⟨G,o,f,p⟩,m⟩ c|dY i'=>obtain⟨W,X,q5,q6⟩:=U f2 s2;have:=g.dis i i' x ⟨⟨G,o,f,p⟩,m⟩ ⟨⟨W,X,q5,q6⟩,E⟩;subst this;exact Z j k i s t ds es h1 C e1 f1 e2 f2
theorem mU{as:List Arg}{ss:List Sl}:∀(ρ:List Sl)(n i:Nat),(dJ as ss n ρ)[i]?=(ρ[i]?).map λs=>dB s (aM (n+i) as ss)
 |[],n,i=>by simp[oY,lz]|s::ρ,n,0=>by simp[oY,lz]|s::ρ,n,i+1=>by
   rw[lz];simp only[List.getElem?_cons_succ];rw[mU ρ (n+1) i];have:n+1+i=n+(i+1):=by omega
   rw[this]
theorem mK{as:List Arg}{ss:List Sl}:∀(ρ:List Sl)(n:Nat),(dJ as ss n ρ).length=ρ.length|[],n=>rfl|s::ρ,n=>by rw[lz];simp[mK ρ]
theorem iw{i:Nat}:∀{as:List Arg}{ss:List Sl}{t:Sl},aM i as ss=some t->∃j:Nat,as[j]?=some (.dY i)/\ss[j]?=some t
 |[],_,_,h=>by simp[aM]at h|a::as,[],_,h=>by cases a<;>simp[aM]at h|a::as,s::ss,t,h=>by
   have b:aM i as ss=some t->∃j:Nat,(a::as)[j]?=some (.dY i)/\(s::ss)[j]?=some t:=λh=>by obtain⟨j,h1,c⟩:=iw h;exact⟨j+1,by simpa using h1,by simpa using c⟩
   cases a with|dat d=>exact b (by simpa[aM]using h)|tmp d=>exact b (by simpa[aM]using h)|dY k=>
     rw[aM]at h;split at h;.rename_i e;cases h;subst e;exact⟨0,rfl,rfl⟩
     .exact b h
theorem kY{i:Nat}:∀{as:List Arg}{ss:List Sl},as.length=ss.length->aM i as ss=none->∀j:Nat,as[j]?≠some (.dY i)
 |[],_,_,_=>λj h=>by simp at h|a::as,[],b,_=>by simp at b|a::as,s::ss,b,h=>λj c=>by
   have f:as.length=ss.length:=by simpa using b
   have g:aM i as ss=none/\a≠.dY i:=by cases a with|dat d=>exact⟨by simpa[aM]using h,by simp⟩|tmp d=>exact⟨by simpa[aM]using h,by simp⟩|dY k=>
      rw[aM]at h;split at h;.cases h
      .rename_i l;exact⟨h,λe=>l (by cases e;rfl)⟩
   cases j with|zero=>simp at c;exact g.2 c|succ j=>exact kY f g.1 j (by simpa using c)
theorem Ez{Q X H':Hp}{args c:List Sl}{Y:L2.St}(s0:az K Q ρ₀ σ H₀ F ρ σ H)(A:vI K F ρ σ H ρ₀ H₀ as vs)(hb:bK ρ as []=some args)(s:az K F args (vs.map some) H X c Y H'):az K Q ρ₀ σ H₀ X (dJ as c 0 ρ) σ H'/\∀v r,cz K X c Y H' args (vs.map some) H v r->cz K X (dJ as c 0 ρ) σ H' ρ₀ σ H₀ v r:=by
 have g:=s0.gs;obtain⟨M,l2,l3,l4⟩:=qP hb;have up:∀{j:Nat}{v:V},vs[j]?=some v->(vs.map some)[j]?=some (some v):=λe=>by rw[getElem?_map,e];rfl
 have dn:∀{j:Nat}{v:V},(vs.map some)[j]?=some (some v)->vs[j]?=some v:=λ{j v}e=>by rw[getElem?_map]at e;cases q:vs[j]?with|none=>rw[q]at e;cases e|some w=>rw[q]at e;cases e;rfl
 have la:as.length=c.length:=by rw[s.len,M]--whose are the lists that the callee holds
 have own:∀b,Own args (vs.map some) b->(∃(j:Nat)(ds:List D),as[j]?=some (Arg.tmp ds)/\vs[j]?=some (V.ref b)/\¬ Own ρ σ b/\(Own ρ₀ σ b\/H₀ b=none))\/Own ρ σ b:=λb⟨j,⟨sl,ds,E,U⟩,e3⟩=>by obtain⟨a,v,h1,C,J⟩:=A.get M E;have s1:=l2 j a _ h1 E;have e3:=dn e3;rw[C]at e3;cases e3;cases a with|dat d=>cases s1;cases U|tmp es=>obtain⟨x,_,k,_,_,_,f,N⟩:=J;cases k;exact .inl ⟨j,es,h1,C,f,N⟩|dY i=>
    right;rcases s1 with⟨_,_,_,z⟩|⟨b',es,q,_⟩|⟨es,q,_⟩;.subst z;cases U
    .exact⟨i,⟨_,_,q,rfl⟩,J⟩
    .exact⟨i,⟨_,_,q,rfl⟩,J⟩
 have back:∀b,Own ρ σ b\/H b=none->Own ρ₀ σ b\/H₀ b=none:=λb h=>by
  rcases h with h|h;.exact s0.u9 b h
  . by_cases ho:Own ρ₀ σ b;.exact .inl ho
    .right;cases e:H₀ b with|none=>rfl|some o=>rw[s0.keep b o e ho]at h;cases h
 have L:∀b,Own args (vs.map some) b->Own ρ₀ σ b\/H₀ b=none:=λb h=>by
  rcases own b h with⟨_,_,_,_,_,z⟩|z;.exact z
  .exact back b (.inl z)--a name's slot behind the call
 have slot:∀{i:Nat}{t:Sl},(dJ as c 0 ρ)[i]?=some t->∃s1,ρ[i]?=some s1/\t=dB s1 (aM i as c):=λ{i t}h=>by rw[mU]at h;obtain⟨s1,E,U⟩:=map_some h;exact⟨s1,E,by rw[<-U,Nat.zero_add]⟩
 have XF:∀{i:Nat}{s1:Sl},ρ[i]?=some s1->(dJ as c 0 ρ)[i]?=some (dB s1 (aM i as c)):=λ{i s1}h=>by rw[mU,h,Nat.zero_add];rfl--what the callee left of a list that was lent to it
 have lent:∀{i j:Nat}{s1 t:Sl}{ds:List D},ρ[i]?=some s1->lst? s1=some (.l ds)->as[j]?=some (.dY i)->c[j]?=some t->∃v s2,σ[i]?=some (some v)/\Y[j]?=some (some v)/\args[j]?=some s2/\lJ s2 t/\((∃b,s1=.own b ds/\s2=.own true ds)\/(s1=.lent ds/\s2=.lent ds)):=λ{i j s1 t ds}h1 C J h4=>by
  have Z:j<args.length:=by rw[M];exact(dU J).1
  have E:args[j]?=some args[j]:=by simp[Z]
  obtain⟨a,v,k,f,N⟩:=A.get M E;rw[J]at k;cases k;have q4:=l2 j _ _ J E;have kind:(∃b,s1=.own b ds/\args[j]=.own true ds)\/(s1=.lent ds/\args[j]=.lent ds):=by
   rcases q4 with⟨_,_,z,_⟩|⟨b,es,z,z'⟩|⟨es,z,z'⟩;.rw[h1]at z;cases z;cases C
   .rw[h1]at z;cases z;cases C;exact .inl ⟨b,rfl,z'⟩
   .rw[h1]at z;cases z;cases C;exact .inr ⟨rfl,z'⟩
  have lk:ud args[j]=true:=by rcases kind with⟨_,_,z⟩|⟨_,z⟩<;>rw[z]<;>rfl
  obtain⟨u,s',y,z3⟩:=s.lk j _ E lk;rw[h4]at y;cases y;exact⟨v,_,N,by rw[u];exact up f,E,z3,kind⟩
 have MP:∀{i:Nat}{x:Addr},aW (dJ as c 0 ρ) σ i x->aW ρ σ i x:=λ{i x}⟨⟨t,ds,E,U⟩,e3⟩=>by obtain⟨s1,k,f⟩:=slot E;refine⟨?_,e3⟩;cases s1 with|aP=>subst f;cases U|val b d=>subst f;cases U|own b es=>exact⟨_,_,k,rfl⟩|lent es=>exact⟨_,_,k,rfl⟩|tH m=>exact⟨_,_,k,rfl⟩|cJ m=>exact⟨_,_,k,rfl⟩|hold _=>subst f;cases U
 refine⟨?_,λv r h=>?_⟩;rotate_left;.cases r with|val d=>exact h|own ds=>
     obtain⟨x,xs,h1,C,J,h4,h5,h6⟩:=h;refine⟨x,xs,h1,C,J,h4,λ⟨i,h⟩=>?_,?_⟩
     . have hO:=MP h;obtain⟨⟨s1,Tf,k,f⟩,N⟩:=hO;obtain⟨x',ah,w1,w2,_⟩:=g.own i s1 Tf k f;rw[N]at w1;cases w1;rcases h6 with h6|h6
       . rcases own x h6 with⟨_,_,_,_,z,_⟩|_;.exact z ⟨i,⟨s1,Tf,k,f⟩,N⟩
         .--a name was lent
           obtain⟨j,⟨sl,es,w3,w4⟩,w5⟩:=h6;obtain⟨a',v',G,O,y3⟩:=A.get M w3;have sa:=l2 j a' _ G w3;have w5:=dn w5;rw[O]at w5;cases w5;cases a' with|dat d=>cases sa;cases w4|tmp es'=>obtain⟨_,_,u1,_,_,_,u2,_⟩:=y3;cases u1;exact u2 ⟨i,⟨s1,Tf,k,f⟩,N⟩|dY i'=>
             have ex:∃s' ac,ρ[i']?=some s'/\lst? s'=some ac:=by
              rcases sa with⟨_,_,_,z⟩|⟨b,es,q,_⟩|⟨es,q,_⟩;.subst z;cases w4
              .exact⟨_,_,q,rfl⟩
              .exact⟨_,_,q,rfl⟩
             have:=g.dis i i' x ⟨⟨s1,Tf,k,f⟩,N⟩ ⟨ex,y3⟩;subst this;have hk:∃MN,Tf=.l MN:=by
              rcases sa with⟨_,_,_,z⟩|⟨b,es,q,_⟩|⟨es,q,_⟩;.subst z;cases w4
              .rw[k]at q;cases q;cases f;exact⟨_,rfl⟩
              .rw[k]at q;cases q;cases f;exact⟨_,rfl⟩
             obtain⟨MN,rfl⟩:=hk;have Z:j<c.length:=by rw[<-la];exact(dU G).1
             have B:c[j]?=some c[j]:=by simp[Z]
             obtain⟨v2,s2,u1,u2,u3,u4,u5⟩:=lent k f G B;rw[N]at u1;cases u1--the slot behind the call is a list's
             obtain⟨⟨t,dt,t1,t2⟩,_⟩:=h;obtain⟨s3,t3,t4⟩:=slot t1;rw[k]at t3;cases t3;have lo:∃t5,aM i as c=some t5:=by cases I:aM i as c with|none=>exact absurd G (kY la I j)|some t5=>exact⟨t5,rfl⟩
             obtain⟨t5,I⟩:=lo;obtain⟨j2,t6,t7⟩:=iw I;have ai:j2<args.length:=by rw[M];exact(dU t6).1
             obtain⟨_,s6,_,am,ae,ap,af⟩:=lent k f t6 t7;have ag:j2=j:=by
              have a1:lst? s6=some (.l MN):=by rcases af with⟨_,_,z⟩|⟨_,z⟩<;>rw[z]<;>rfl
              have a2:lst? s2=some (.l MN):=by rcases u5 with⟨_,_,z⟩|⟨_,z⟩<;>rw[z]<;>rfl
              exact l4 j2 j i s6 s2 _ _ t6 G ae u3 a1 a2
             subst ag;rw[B]at t7;cases t7;rw[I]at t4;refine h5 ⟨j2,?_,u2⟩;rcases u5 with⟨b,u,y⟩|⟨u,y⟩
             . subst u;subst y;rcases u4 with⟨d2,z⟩|⟨d2,z⟩;.exact⟨_,.l d2,B,by rw[z];rfl⟩
               .rw[z]at t4;subst t4;cases t2
             .subst u;subst y;exact⟨_,.l MN,B,by rw[show c[j2]=.lent MN from u4];rfl⟩
       .rw[w2]at h6;cases h6
     . rcases h6 with h6|h6;.exact L x h6
       .exact back x (.inr h6)
 refine⟨⟨s.gs.sub,by rw[mK];exact g.len,λi b d e=>?_,λi t ds e B=>?_,λi j x h1 C=>g.dis i j x (MP h1) (MP C)⟩,s0.cu.trans s.cu,λb n n'=>?_,λb o h n=>?_,λb⟨i,h⟩=>back b (.inl ⟨i,MP h⟩),by rw[mK];exact s0.len,λi s1 h l=>?_⟩;.--data
   obtain⟨s1,k,f⟩:=slot e;cases s1 with|aP=>cases f|lent es=>cases f|tH _=>cases f|cJ _=>cases f|hold _=>cases f|val b' d'=>cases f;obtain⟨v,u,y⟩:=g.val i b d k;exact⟨v,u,y.mono s.cu⟩|own b' es=>cases I:aM i as c with|none=>rw[I]at f;cases f|some t=>rw[I]at f;obtain⟨j,u,y⟩:=iw I;obtain⟨v,s2,G,O,y3,y4,p⟩:=lent k rfl u y;cases t with|aP=>cases f|own _ _=>cases f|lent _=>cases f|tH _=>cases f|cJ _=>cases f|hold _=>cases f|val b2 d2=>cases f;obtain⟨w,W,x2⟩:=s.gs.val j b2 d y;rw[O]at W;cases W;exact⟨v,G,x2⟩
 .--lists
   obtain⟨s1,k,f⟩:=slot e--a list that was not lent
   have stay:∀es,lst? s1=some es->(∀j:Nat,as[j]?≠some (.dY i))->t=s1->∃(a:Addr)(xs:HO),σ[i]?=some (some (V.ref a))/\H' a=some xs/\X a=none/\km K X xs ds:=λes he hn ht=>by
    subst ht;rw[he]at B;cases B;obtain⟨a,xs,u,y,z3,z4⟩:=g.own i _ ds k he;have no:¬ Own args (vs.map some) a:=λh=>by obtain⟨j,⟨sl,es,w1,w2⟩,w3⟩:=h;obtain⟨a',v,h1,C,J⟩:=A.get M w1;have sa:=l2 j a' _ h1 w1;have w3:=dn w3;rw[C]at w3;cases w3;cases a' with|dat d=>cases sa;cases w2|tmp es=>obtain⟨x,_,G,_,_,_,O,_⟩:=J;cases G;exact O ⟨i,⟨_,ds,k,he⟩,u⟩|dY i'=>
       have:∃s' ac,ρ[i']?=some s'/\lst? s'=some ac:=by
        rcases sa with⟨_,_,_,z⟩|⟨b,es,q,_⟩|⟨es,q,_⟩;.subst z;cases w2
        .exact⟨_,_,q,rfl⟩
        .exact⟨_,_,q,rfl⟩
       have:=g.dis i i' a ⟨⟨_,ds,k,he⟩,u⟩ ⟨this,J⟩;subst this;exact hn j h1
    refine⟨a,xs,u,s.keep a _ y no,?_,z4.mono s.cu⟩;cases q:X a with|none=>rfl|some o=>
      rcases s.uV a z3 (by rw[q];simp)with z|z;.exact absurd z no
      .rw[y]at z;exact(yo z4 z).elim
   cases I:aM i as c with
   |none=>have hn:=kY la I;rw[I]at f;cases s1 with|aP=>subst f;cases B|val b' d'=>subst f;cases B|own b' es=>exact stay _ rfl hn f|lent es=>exact stay _ rfl hn f|tH m=>exact stay _ rfl hn f|cJ m=>exact stay _ rfl hn f|hold _=>subst f;cases B
   |some t2=>rw[I]at f;obtain⟨j,u,y⟩:=iw I;cases s1 with
     |aP=>subst f;cases B|val b' d'=>subst f;cases B|hold _=>subst f;cases B|tH m=>
       have Z:j<args.length:=by rw[M];exact(dU u).1
       rcases l2 j _ _ u (show args[j]?=some args[j]by simp[Z])with⟨_,_,z,_⟩|⟨_,_,z,_⟩|⟨_,z,_⟩<;>(rw[k]at z;cases z)|cJ m=>
       have Z:j<args.length:=by rw[M];exact(dU u).1
       rcases l2 j _ _ u (show args[j]?=some args[j]by simp[Z])with⟨_,_,z,_⟩|⟨_,_,z,_⟩|⟨_,z,_⟩<;>(rw[k]at z;cases z)|own b' es=>
       obtain⟨v,s2,G,O,y3,y4,p⟩:=lent k rfl u y;have:t2≠.aP/\∀x,t2≠.lent x:=by
        rcases p with⟨_,_,p⟩|⟨p,_⟩;.subst p;rcases y4 with⟨_,rfl⟩|⟨_,rfl⟩<;>simp
        .cases p
       cases t2 with
       |aP=>exact absurd rfl this.1|hold x=>
         rcases p with⟨_,_,p⟩|⟨p,_⟩;.subst p;rcases y4 with⟨_,h⟩|⟨_,h⟩<;>cases h
         .cases p|tH x=>
         rcases p with⟨_,_,p⟩|⟨p,_⟩;.subst p;rcases y4 with⟨_,h⟩|⟨_,h⟩<;>cases h
         .cases p|cJ x=>
         rcases p with⟨_,_,p⟩|⟨p,_⟩;.subst p;rcases y4 with⟨_,h⟩|⟨_,h⟩<;>cases h
         .cases p|lent x=>exact absurd rfl (this.2 x)|val b2 d2=>subst f;cases B|own b2 ar=>subst f;cases B;obtain⟨a,xs,W,x2⟩:=s.gs.own j _ _ y rfl;rw[O]at W;cases W;exact⟨a,xs,G,x2⟩
     |lent es=>
       obtain⟨v,s2,G,O,y3,y4,p⟩:=lent k rfl u y;have ht:t=.lent es:=by rw[f];cases t2<;>rfl
       subst ht;cases B;rcases p with⟨_,p,_⟩|⟨_,p⟩;.cases p
       .subst p;cases(show t2=.lent es from y4);obtain⟨a,xs,W,x2⟩:=s.gs.own j _ _ y rfl;rw[O]at W;cases W;exact⟨a,xs,G,x2⟩
 . by_cases q:F b=none
   . rcases s.uV b q n' with z|z;.exact(L b z).imp id gB
     . by_cases ho:Own ρ₀ σ b;.exact .inl ho
       .right;cases f:H₀ b with|none=>rfl|some o=>rw[s0.keep b o f ho]at z;exact z
   .exact s0.uV b n q
 . refine s.keep b o (s0.keep b o h n) λz=>?_;rcases L b z with z|z;.exact n z
   .rw[h]at z;cases z
 .obtain⟨E,s2,C,k2⟩:=s0.lk i s1 h l;refine⟨E,_,XF C,?_⟩;have Vj:=k2.ud l;refine lJ.trans l k2 ?_;cases s2 with
   |aP=>cases Vj|tH _=>cases Vj|cJ _=>cases Vj|hold _=>exact lJ.refl _|val b d=>exact lJ.refl _|lent es=>cases aM i as c with|none=>rfl|some t=>cases t<;>rfl
   |own b es=>cases b with|false=>cases Vj|true=>cases aM i as c with|none=>exact .inl ⟨_,rfl⟩|some t=>cases t with|aP=>exact .inl ⟨_,rfl⟩|lent _=>exact .inl ⟨_,rfl⟩|tH _=>exact .inl ⟨_,rfl⟩|cJ _=>exact .inl ⟨_,rfl⟩|hold _=>exact .inl ⟨_,rfl⟩|own _ ds=>exact .inl ⟨_,rfl⟩|val _ d=>exact .inr ⟨_,rfl⟩
theorem vI.rebase{F1 c F2 f:Hp}{ρ1 ρ2:List Sl}(a:az K F ρ σ H F1 ρ1 σ c)(A:vI K F2 ρ2 σ f ρ1 c as vs):vI K F2 ρ2 σ f ρ H as vs:=by refine⟨A.len,λj b v h1 g=>?_,A.dis⟩;have h:=A.one j b v h1 g;cases b with|dat d=>exact h|dY i=>exact h|tmp ds=>
   obtain⟨x,xs,k,l,m,p,q,q6⟩:=h;refine⟨x,xs,k,l,m,p,q,?_⟩;rcases q6 with q6|q6;.exact a.u9 x q6
   . by_cases ho:Own ρ σ x;.exact .inl ho
     .right;cases e:H x with|none=>rfl|some o=>rw[a.keep x o e ho]at q6;cases q6
theorem vI.W0{F1 a F2 b:Hp}{ρ1 ρ2:List Sl}{r:R}(s1:az K F ρ σ H F1 ρ1 σ a)(c:cz K F1 ρ1 σ a ρ σ H v r)(s2:az K F1 ρ1 σ a F2 ρ2 σ b)(A:vI K F2 ρ2 σ b ρ1 a as vs):vI K F2 ρ2 σ b ρ H (rY r::as) (v::vs):=by
 have h1:zr K F1 ρ1 σ a ρ H v (rY r):=by cases r with|val d=>exact c|own ds=>exact c
 refine .cons (h1.later s2) (A.rebase s1) λds x g ev k es j e=>?_;cases r with|val d=>cases g|own l=>
   obtain⟨y,xs,f,m,q,s,o,t⟩:=c;rw[ev]at f;cases f;have h:=A.one k _ _ j e;obtain⟨z,u,p,_,_,_,_,w6⟩:=h;cases p;rcases w6 with w6|w6;.exact o w6
   .rw[m]at w6;cases w6
end
section
variable{K:PySem.W.Frag}{F F1 H H1:Hp}{ρ ρ1 ρ2:List Sl}{σ σ1:L2.St}
theorem yV{s:Sl}(h:put ρ i s=some ρ1):∃s0,ρ[i]?=some s0/\ud s0=false/\ρ1=ρ.set i s:=by
 unfold put at h;split at h;.rename_i q;cases h;exact⟨_,q,rfl,rfl⟩
 .rename_i q;cases h;exact⟨_,q,rfl,rfl⟩
 .rename_i q;cases h;exact⟨_,q,rfl,rfl⟩
 .cases h
theorem az.put{r:R}(s:az K F ρ σ H F1 ρ1 σ1 H1)(A:cz K F1 ρ1 σ1 H1 ρ σ H v r)(h:HH.put ρ1 i (xU r)=some ρ2):az K F ρ σ H F1 ρ2 (σ1.set i (some v)) H1:=by
 obtain⟨s0,h0,E,rfl⟩:=yV h;have y:i<ρ1.length:=(dU h0).1;have m:i<σ1.length:=by rw[<-s.gs.len];exact y
 have f:∀{j:Nat}{a:Addr},j≠i->aW (ρ1.set i (xU r)) (σ1.set i (some v)) j a->aW ρ1 σ1 j a:=λ{j a}c⟨⟨t,ds,o,p⟩,g⟩=>by rw[fZ c]at o g;exact⟨⟨t,ds,o,p⟩,g⟩
 have q:∀{a:Addr},aW (ρ1.set i (xU r)) (σ1.set i (some v)) i a->¬ Own ρ1 σ1 a/\(Own ρ σ a\/H a=none):=λ{a}⟨⟨t,ds,o,p⟩,g⟩=>by rw[getElem?_set_self y]at o;rw[getElem?_set_self m]at g;cases o;cases g;cases r with|val d=>cases p|own es=>obtain⟨x,xs,L,G,I,J,M,N⟩:=A;cases L;exact⟨M,N⟩
 refine⟨⟨s.gs.sub,by simp[s.gs.len],λj b d e=>?_,λj t ds e B=>?_,λj k a h1 C=>?_⟩,s.cu,s.uV,s.keep,λa⟨j,c⟩=>?_,by simp[s.len],λj t e l=>?_⟩
 . by_cases c:j=i;.subst c;rw[getElem?_set_self y]at e;cases r with|own es=>cases e|val d'=>cases e;exact⟨v,getElem?_set_self m,A⟩
   .rw[fZ c]at e ⊢;exact s.gs.val j b d e
 . by_cases c:j=i;.subst c;rw[getElem?_set_self y]at e;cases r with|val d'=>cases e;cases B|own es=>cases e;cases B;obtain⟨x,xs,rfl,G,I,J,_⟩:=A;exact⟨x,_,getElem?_set_self m,G,I,xs,rfl,J⟩
   .rw[fZ c]at e ⊢;exact s.gs.own j t ds e B
 . by_cases c:j=i
   . by_cases u:k=i;.rw[c,u]
     .subst c;exact absurd ⟨k,f u C⟩ (q h1).1
   . by_cases u:k=i;.subst u;exact absurd ⟨j,f c h1⟩ (q C).1
     .exact s.gs.dis j k a (f c h1) (f u C)
 . by_cases w:j=i;.subst w;exact(q c).2
   .exact s.u9 a ⟨j,f w c⟩
 . obtain⟨o,t1,p,g⟩:=s.lk j t e l;have c:j≠i:=by rintro rfl;rw[h0]at p;cases p;rw[g.ud l]at E;cases E
   exact⟨by rw[fZ c];exact o,t1,by rw[fZ c];exact p,g⟩
theorem GS.mut{x:Nat}{b:Bool}{es:List D}{a:Addr}{ys:List V}(g:GS K F ρ σ H)(e:ρ[x]?=some (.own b ds))(p:σ[x]?=some (some (.ref a)))(r:aA K F ys es):az K F ρ σ H F (ρ.set x (.own b es)) σ (upd H a (.lst ys)):=by
 have s:x<ρ.length:=(dU e).1;have y:aW ρ σ x a:=⟨⟨_,_,e,rfl⟩,p⟩;obtain⟨M,xs,h1,N,A,O⟩:=g.rC x _ ds e rfl;rw[p]at h1;cases h1;have h:∀{j:Nat}{c:Addr},aW (ρ.set x (.own b es)) σ j c->aW ρ σ j c:=λ{j c}⟨⟨t,dt,m,u⟩,q3⟩=>by
  by_cases f:j=x;.subst f;exact⟨⟨_,_,e,rfl⟩,q3⟩
  .rw[fZ f]at m;exact⟨⟨t,dt,m,u⟩,q3⟩
 refine⟨⟨λc o q=>?_,by simp[g.len],λj C d q=>?_,λj t dt q w=>?_,λj k c m u=>g.dis j k c (h m) (h u)⟩,.refl _,λc n E=>absurd n E,λc o q n=>?_,λc⟨j,q⟩=>.inl ⟨j,h q⟩,by simp,λj t q l=>⟨rfl,?_⟩⟩
 . have:c≠a:=by rintro rfl;rw[A]at q;cases q
   rw[ao this];exact g.sub c o q
 . by_cases f:j=x;.subst f;rw[getElem?_set_self s]at q;cases q
   .rw[fZ f]at q;exact g.val j C d q
 . by_cases f:j=x;.subst f;rw[getElem?_set_self s]at q;cases q;cases w;exact⟨a,_,p,aD,A,ys,rfl,r⟩
   . rw[fZ f]at q;obtain⟨c,G,B,I,J,L⟩:=g.own j t dt q w;have:c≠a:=by rintro rfl;exact f (g.dis j x c ⟨⟨t,dt,q,w⟩,B⟩ y)
     exact⟨c,G,B,by rw[ao this];exact I,J,L⟩
 . have:c≠a:=by rintro rfl;exact n ⟨x,y⟩
   rw[ao this];exact q
 . by_cases f:j=x;.subst f;rw[e]at q;cases q;refine⟨_,getElem?_set_self s,?_⟩;cases b with|true=>exact .inl ⟨_,rfl⟩|false=>cases l
   .exact⟨t,by rw[fZ f];exact q,.refl t⟩
theorem GS.lend{b:Bool}(g:GS K F ρ σ H)(e:ρ[i]?=some (.own b ds)):GS K F (ρ.set i (.lent ds)) σ H:=by
 have m:i<ρ.length:=(dU e).1;have f:∀{j:Nat}{c:Addr},aW (ρ.set i (.lent ds)) σ j c->aW ρ σ j c:=λ{j c}⟨⟨t,dt,h,l⟩,q3⟩=>by
  by_cases a:j=i;.subst a;exact⟨⟨_,_,e,rfl⟩,q3⟩
  .rw[fZ a]at h;exact⟨⟨t,dt,h,l⟩,q3⟩
 refine⟨g.sub,by simp[g.len],λj p d q=>?_,λj t dt q o=>?_,λj k c h l=>g.dis j k c (f h) (f l)⟩
 . by_cases a:j=i;.subst a;rw[getElem?_set_self m]at q;cases q
   .rw[fZ a]at q;exact g.val j p d q
 . by_cases a:j=i;.subst a;rw[getElem?_set_self m]at q;cases q;cases o;exact g.own j _ _ e rfl
   .rw[fZ a]at q;exact g.own j t dt q o
theorem az.aY{b:Bool}(g:GS K F ρ σ H)(e:ρ[i]?=some (.own b ds))(s:az K F (ρ.set i (.lent ds)) σ H F1 ρ1 σ1 H1):az K F ρ σ H F1 (ρ1.set i (.own b ds)) σ1 H1/\∀v r,cz K F1 ρ1 σ1 H1 (ρ.set i (.lent ds)) σ H v r->cz K F1 (ρ1.set i (.own b ds)) σ1 H1 ρ σ H v r:=by
 have E:i<ρ.length:=(dU e).1;have h1:(ρ.set i (.lent ds))[i]?=some (.lent ds):=getElem?_set_self E;obtain⟨G,I,A,J⟩:=s.lk i _ h1 rfl;cases(show I=.lent ds from J);have u:i<ρ1.length:=(dU A).1;have B:∀{j:Nat}{c:Addr},aW (ρ.set i (.lent ds)) σ j c->aW ρ σ j c:=λ{j c}⟨⟨t,dt,f,p⟩,m⟩=>by
  by_cases a:j=i;.subst a;exact⟨⟨_,_,e,rfl⟩,m⟩
  .rw[fZ a]at f;exact⟨⟨t,dt,f,p⟩,m⟩
 have L:∀{c:Addr},Own ρ σ c->Own (ρ.set i (.lent ds)) σ c:=λ{c}⟨j,⟨t,dt,f,p⟩,m⟩=>by
  by_cases a:j=i;.subst a;exact⟨j,⟨_,_,h1,rfl⟩,m⟩
  .exact⟨j,⟨t,dt,by rw[fZ a];exact f,p⟩,m⟩
 have y:∀{j:Nat}{c:Addr},aW (ρ1.set i (.own b ds)) σ1 j c->aW ρ1 σ1 j c:=λ{j c}⟨⟨t,dt,f,p⟩,m⟩=>by
  by_cases a:j=i;.subst a;exact⟨⟨_,_,A,rfl⟩,m⟩
  .rw[fZ a]at f;exact⟨⟨t,dt,f,p⟩,m⟩
 have w:∀{c:Addr}{h:Hp},Own (ρ.set i (.lent ds)) σ c\/h c=none->Own ρ σ c\/h c=none:=λ{c h}q=>q.imp (λ⟨j,q⟩=>⟨j,B q⟩) id;have M:∀{c:Addr}{h:Hp},Own (ρ.set i (.lent ds)) σ c\/nt (h c)=none->Own ρ σ c\/nt (h c)=none:=λ{c h}q=>q.imp (λ⟨j,q⟩=>⟨j,B q⟩) id;refine⟨⟨⟨s.gs.sub,by simp[s.gs.len],λj N d q=>?_,λj t dt q C=>?_,λj k c f p=>s.gs.dis j k c (y f) (y p)⟩,s.cu,λc n O=>M (s.uV c n O),λc o q n=>s.keep c o q λ⟨j,x⟩=>n ⟨j,B x⟩,λc⟨j,q⟩=>w (s.u9 c ⟨j,y q⟩),by simpa using s.len,λj t q l=>?_⟩,λv r h=>?_⟩
 . by_cases a:j=i;.subst a;rw[getElem?_set_self u]at q;cases q
   .rw[fZ a]at q;exact s.gs.val j N d q
 . by_cases a:j=i;.subst a;rw[getElem?_set_self u]at q;cases q;cases C;exact s.gs.own j _ _ A rfl
   .rw[fZ a]at q;exact s.gs.own j t dt q C
 . by_cases a:j=i;.subst a;rw[e]at q;cases q;refine⟨G,_,getElem?_set_self u,?_⟩;cases b with|true=>exact .inl ⟨_,rfl⟩|false=>cases l
   .obtain⟨Q,t',U,W⟩:=s.lk j t (by rw[fZ a];exact q) l;exact⟨Q,t',by rw[fZ a];exact U,W⟩
 .cases r with|val d=>exact h|own es=>obtain⟨x,xs,f,p,m,X,Y,Z⟩:=h;exact⟨x,xs,f,p,m,X,λ⟨j,q⟩=>Y ⟨j,y q⟩,w Z⟩
theorem GS.give(g:GS K F ρ σ H)(e:ρ[i]?=some (.own false ds)):∃v,σ[i]?=some (some v)/\az K F ρ σ H F (ρ.set i .aP) σ H/\cz K F (ρ.set i .aP) σ H ρ σ H v (.own ds):=by
 have o:i<ρ.length:=(dU e).1;obtain⟨a,xs,h1,s,u,w⟩:=g.rC i _ ds e rfl;have f:∀{j:Nat}{c:Addr},aW (ρ.set i .aP) σ j c->aW ρ σ j c/\j≠i:=λ{j c}⟨⟨t,dt,h,m⟩,q3⟩=>by
  by_cases b:j=i;.subst b;rw[getElem?_set_self o]at h;cases h;cases m
  .rw[fZ b]at h;exact⟨⟨⟨t,dt,h,m⟩,q3⟩,b⟩
 have p:aW ρ σ i a:=⟨⟨_,_,e,rfl⟩,h1⟩;refine⟨.ref a,h1,⟨⟨g.sub,by simp[g.len],λj y d q=>?_,λj t dt q r=>?_,λj k c h m=>g.dis j k c (f h).1 (f m).1⟩,.refl _,λc n A=>absurd n A,λ_ _ q _=>q,λc⟨j,q⟩=>.inl ⟨j,(f q).1⟩,by simp,λj t q l=>⟨rfl,?_⟩⟩,a,xs,rfl,s,u,w,λ⟨j,q⟩=>?_,.inl ⟨i,p⟩⟩
 . by_cases b:j=i;.subst b;rw[getElem?_set_self o]at q;cases q
   .rw[fZ b]at q;exact g.val j y d q
 . by_cases b:j=i;.subst b;rw[getElem?_set_self o]at q;cases q;cases r
   .rw[fZ b]at q;exact g.own j t dt q r
 . by_cases b:j=i;.subst b;rw[e]at q;cases q;cases l
   .exact⟨t,by rw[fZ b];exact q,.refl t⟩
 .exact(f q).2 (g.dis j i a (f q).1 p)
theorem GS.more{τ:List (Option V)}(g:GS K F ρ σ H)(u:τ.length=n):GS K F (ρ++replicate n .aP) (σ++τ) H:=by
 have get:∀{j:Nat}{t:Sl},(ρ++replicate n Sl.aP)[j]?=some t->t≠.aP->ρ[j]?=some t/\j<ρ.length:=λ{j t}q ne=>by
  by_cases h:j<ρ.length;.rw[getElem?_append_left h]at q;exact⟨q,h⟩
  . rw[getElem?_append_right (by omega),List.getElem?_replicate]at q;split at q;.cases q;exact absurd rfl ne
    .cases q
 have m:∀{j:Nat}{v:Option V},j<ρ.length->(σ[j]?=some v↔(σ++τ)[j]?=some v):=λ{j v}h=>by rw[getElem?_append_left (by rw[<-g.len];exact h)]
 have e:∀{j:Nat}{c:Addr},aW (ρ++replicate n .aP) (σ++τ) j c->aW ρ σ j c:=λ{j c}⟨⟨t,dt,o,l⟩,q3⟩=>by obtain⟨h1,f⟩:=get o (by rintro rfl;cases l);exact⟨⟨t,dt,h1,l⟩,(m f).mpr q3⟩
 refine⟨g.sub,by simp[g.len,u],λj b d q=>?_,λj t dt q s=>?_,λj k c o l=>g.dis j k c (e o) (e l)⟩;.obtain⟨h1,f⟩:=get q (by simp);obtain⟨v,p,r⟩:=g.val j b d h1;exact⟨v,(m f).mp p,r⟩
 .obtain⟨h1,f⟩:=get q (by rintro rfl;cases s);obtain⟨a,xs,p,r⟩:=g.own j t dt h1 s;exact⟨a,xs,(m f).mp p,r⟩
theorem az.less{τ:List (Option V)}{m:Nat}(M:m=ρ.length)(g:GS K F ρ σ H)(hn:τ.length=n)(s:az K F (ρ++replicate n .aP) (σ++τ) H F1 ρ1 σ1 H1):az K F ρ σ H F1 (ρ1.take m) (σ1.take m) H1/\∀v r,cz K F1 ρ1 σ1 H1 (ρ++replicate n .aP) (σ++τ) H v r->cz K F1 (ρ1.take m) (σ1.take m) H1 ρ σ H v r:=by
 subst M;have N:ρ.length<=ρ1.length:=by rw[s.len];simp
 have l2:ρ.length<=σ1.length:=by rw[<-s.gs.len];exact N
 have A:∀{y:Type}{l:List y}{j:Nat}{x:y},(l.take ρ.length)[j]?=some x->l[j]?=some x/\j<ρ.length:=λ{y l j x}q=>by
  rw[List.getElem?_take]at q;split at q;.exact⟨q,by assumption⟩
  .cases q
 have C:∀{y:Type}{l:List y}{j:Nat}{x:y},j<ρ.length->l[j]?=some x->(l.take ρ.length)[j]?=some x:=λ{y l j x}f q=>by rw[List.getElem?_take,if_pos f];exact q
 have E:∀{c:Addr},Own (ρ++replicate n .aP) (σ++τ) c->Own ρ σ c:=λ{c}⟨j,⟨t,dt,e,p⟩,u⟩=>by
  by_cases f:j<ρ.length;.rw[getElem?_append_left f]at e;rw[getElem?_append_left (by rw[<-g.len];exact f)]at u;exact⟨j,⟨t,dt,e,p⟩,u⟩
  . rw[getElem?_append_right (by omega),List.getElem?_replicate]at e;split at e;.cases e;cases p
    .cases e
 have O:∀{c:Addr},Own ρ σ c->Own (ρ++replicate n .aP) (σ++τ) c:=λ{c}⟨j,⟨t,dt,e,p⟩,u⟩=>by have f:j<ρ.length:=(dU e).1;exact⟨j,⟨t,dt,by rw[getElem?_append_left f];exact e,p⟩,by rw[getElem?_append_left (by rw[<-g.len];exact f)];exact u⟩
 have B:∀{j:Nat}{c:Addr},aW (ρ1.take ρ.length) (σ1.take ρ.length) j c->aW ρ1 σ1 j c:=λ{j c}⟨⟨t,dt,e,p⟩,u⟩=>⟨⟨t,dt,(A e).1,p⟩,(A u).1⟩;have w:∀{c:Addr}{h:Hp},Own (ρ++replicate n .aP) (σ++τ) c\/h c=none->Own ρ σ c\/h c=none:=λ{c h}q=>q.imp E id;have Q:∀{c:Addr}{h:Hp},Own (ρ++replicate n .aP) (σ++τ) c\/nt (h c)=none->Own ρ σ c\/nt (h c)=none:=λ{c h}q=>q.imp E id;refine⟨⟨⟨s.gs.sub,by simp only[length_take];omega,λj b d q=>?_,λj t dt q U=>?_,λj k c e p=>s.gs.dis j k c (B e) (B p)⟩,s.cu,λc a b=>Q (s.uV c a b),λc o q n=>s.keep c o q λx=>n (E x),λc⟨j,q⟩=>w (s.u9 c ⟨j,B q⟩),by simp only[length_take];omega,λj t q l=>?_⟩,λv r h=>?_⟩;.obtain⟨h1,G⟩:=A q;obtain⟨v,I,J⟩:=s.gs.val j b d h1;exact⟨v,C G I,J⟩
 .obtain⟨h1,G⟩:=A q;obtain⟨a,xs,I,J⟩:=s.gs.own j t dt h1 U;exact⟨a,xs,C G I,J⟩
 .have f:j<ρ.length:=(dU q).1;obtain⟨L,t',W,X⟩:=s.lk j t (by rw[getElem?_append_left f];exact q) l;rw[getElem?_append_left (by rw[<-g.len];exact f)]at L;refine⟨?_,t',C f W,X⟩;rw[List.getElem?_take,if_pos f];exact L
 .cases r with|val d=>exact h|own es=>obtain⟨x,xs,e,p,u,Y,Z,q6⟩:=h;exact⟨x,xs,e,p,u,Y,λ⟨j,q⟩=>Z ⟨j,B q⟩,w q6⟩
end
section
variable{X:Cx}{c:Call}{n:Nat}{e a b d:Expr}{p pa pb pd:P}{pos:Pos}{es:List Expr}{ps:List P}
inductive acv(K:PySem.W.Frag)(f:List Sl->Res (List Arg))(σ:L2.St)(H:Hp)(Q:List V->Hp->Prop):Prop where|mk(F:Hp)(ρ:List Sl)(as:List Arg)(ρ':List Sl)(g:GS K F ρ σ H)(e:f ρ=.ok as ρ')(k:∀vs F' H',az K F ρ σ H F' ρ' σ H'->vI K F' ρ' σ H' ρ H as vs->Q vs H')
def SG(X:Cx)(c:Call)(es:List Expr)(ps:List P):Prop:=PA X es (acv X.K (yp c ps))
theorem aH:SG X c [] []:=wX cH λσ H Q⟨F,ρ,as,ρ',g,e,k⟩=>by rw[Fb]at e;cases e;exact k [] F H (.refl g) .nil
theorem Kw(l:SX X c a pa)(hr:SG X c es ps)(hs:starEach (a::es) X.env=(false,eval a X.env)::starEach es X.env:=by rfl):SG X c (a::es) (pa::ps):=by cases hv:isVar pa with|none=>refine wX (aX l.ev hr hs) ?_;rintro σ H Q⟨F,ρ,as,ρ',g,e,k⟩;rw[zx,hv]at e;obtain⟨r,ρ1,m,e⟩:=aa e;obtain⟨xs,ρ2,f,e⟩:=aa e;cases e;refine⟨F,ρ,r,ρ1,g,m,λv F1 u s1 o=>⟨F1,ρ1,xs,_,s1.gs,f,λvs F2 h s2 A=>k _ F2 h (s1.trans s2) (vI.W0 s1 o s2 A)⟩⟩|some i=>refine wX (aX (l.var i hv) hr hs) ?_;rintro σ H Q⟨F,ρ,as,ρ',g,e,k⟩;rw[zx,hv]at e;obtain⟨w,q,s,e⟩:=aa e;obtain⟨j,t⟩:=aF s;subst t;obtain⟨xs,ρ2,f,e⟩:=aa e;cases e;obtain⟨v,h1,_⟩:=g.pk j;exact⟨v,h1,F,ρ,xs,_,g,f,λvs F2 h s2 A=>k _ F2 h s2 (.cons h1 A λds x z=>by cases z)⟩
theorem K8{k f:Nat}{t:Addr}{fd:FuncData}{j:List Str}(I:m6 X.prog X.w X.K X.mg X.base IK k t fd j (De X.K j.length (c f)))(hr:iU k X.A)(J:Gl X x)(L:X.mg x=some (.ref t))(M:keepIn X.K (.ref t)=true)(N:Binds X.K fd j [])(O:SG X c (e::es) ps)(U:(e::es).length=j.length)(u:(x==("__debug__":Str))=false:=by decide)(he:starEach (e::es) X.env=(false,eval e X.env)::starEach es X.env:=by rfl)(hpl:(backTo pos (starEach es X.env)).any (·.1)=false:=by rfl)(y:ps.length=(e::es).length:=by rfl):SX X c (.Call (.Name x p') (e::es) [] pos) (.call f ps):=by
 refine⟨dZ (uI (E:=E0) I hr J L M N .nil Ft O u he hpl) ?_,λi h=>by cases h⟩;rintro σ H Q⟨F,ρ,r,ρ',g,e,k⟩;rw[HH.E14]at e;obtain⟨as,ρ1,C,e⟩:=aa e;unfold qm at e;split at e;.cases e
 . rename_i args m;split at e
   . rename_i r' l hc;cases e;refine⟨F,ρ,as,ρ1,g,C,λvs F1 W s1 A=>?_⟩;have o:vs.length=j.length:=by
      have:∀{ps:List P}{ρ ρ':List Sl}{as:List Arg},yp c ps ρ=.ok as ρ'->as.length=ps.length:=by intro ps;induction ps with|nil=>intro ρ ρ' as h;rw[Fb]at h;cases h;rfl|cons q j G=>
         intro ρ ρ' as h;rw[zx]at h;split at h;.obtain⟨_,_,_,h⟩:=aa h;obtain⟨xs,ρ2,B,h⟩:=aa h;cases h;simp[G B]
         .obtain⟨_,_,_,h⟩:=aa h;obtain⟨xs,ρ2,B,h⟩:=aa h;cases h;simp[G B]
      rw[<-A.len,this C,y,U]
     show De X.K j.length (c f) (vs++[]) W Q E0;rw[append_nil];refine⟨o,F1,args,r,l,args_gs s1.gs A m,hc,λv Y Z H' s rr=>?_⟩;obtain⟨z1,z2⟩:=Ez s1 A m s;exact k v Y H' z1 (z2 v r rr)
   .cases e
   .cases e
def Ia(K:PySem.W.Frag)(D:Ends)(h:Hp)(ρ':List Sl)(f:L2.St)(g:Hp)(ρ:List Sl)(σ:L2.St)(H:Hp)(fl:Fl):Prop:=match fl with|.next=>D.nx f g|.brk=>D.bk f g|.cont=>D.ct f g|.ret r=>∀v,cz K h ρ' f g ρ σ H v r->D.rt v g
inductive Zt(K:PySem.W.Frag)(f:List Sl->Res Fl)(D:Ends)(σ:L2.St)(H:Hp):Prop where|mk(F:Hp)(ρ:List Sl)(fl:Fl)(ρ':List Sl)(g:GS K F ρ σ H)(e:f ρ=.ok fl ρ')(k:∀F' σ' H',az K F ρ σ H F' ρ' σ' H'->Ia K D F' ρ' σ' H' ρ σ H fl)
def SS(X:Cx)(c:Call)(n:Nat)(st:Stmt)(s:S):Prop:=PS X st (Zt X.K (ex c n s))
def SB(X:Cx)(c:Call)(n:Nat)(st:List Stmt)(s:List S):Prop:=sH X st (Zt X.K (gY c n s))
theorem fW{st:Stmt}{t t':TS}(h:PS X st t)(i:∀D σ H,t' D σ H->t D σ H):PS X st t':=λf s σ H D I q=>h f s σ H D I (i D σ H q)
theorem kZ{st:List Stmt}{t t':TS}(h:sH X st t)(i:∀D σ H,t' D σ H->t D σ H):sH X st t':=λf s σ H D I q=>h f s σ H D I (i D σ H q)
theorem xs0{c:Call}:gY c n [] ρ=.ok .next ρ:=rfl
theorem NQ{c:Call}{s:S}{r:List S}:gY c n (s::r) ρ=(ex c n s ρ).bind λfl ρ=>match fl with|.next=>gY c n r ρ|fl=>.ok fl ρ:=rfl
theorem au:SB X c n [] []:=kZ ue λD σ H⟨F,ρ,fl,ρ',g,e,k⟩=>by rw[xs0]at e;cases e;exact k F σ H (.refl g)
theorem aQ{st:Stmt}{s:S}{f:List Stmt}{ss:List S}(h1:SS X c n st s)(l:SB X c n f ss):SB X c n (st::f) (s::ss):=by refine kZ (dM h1 l) ?_;rintro D σ H⟨F,ρ,fl,ρ',g,e,k⟩;rw[NQ]at e;obtain⟨f1,ρ1,h,e⟩:=aa e;cases f1 with
 |next=>refine⟨F,ρ,.next,ρ1,g,h,λF1 m u s1=>⟨F1,ρ1,fl,ρ',s1.gs,e,λF2 j o s2=>?_⟩⟩;have q:=k F2 j o (s1.trans s2);cases fl with|next=>exact q|brk=>exact q|cont=>exact q|ret r=>exact λv t=>q v (t.later s1)
 |brk=>cases e;exact⟨F,ρ,.brk,_,g,h,k⟩|cont=>cases e;exact⟨F,ρ,.cont,_,g,h,k⟩|ret r=>cases e;exact⟨F,ρ,.ret r,_,g,h,k⟩
theorem Ws{t1 g:TE}(h1:PE X e t1)(j:PE X e g):PE X e (λσ H Q=>t1 σ H Q\/g σ H Q):=λf s σ H Q I h=>h.elim (h1 f s σ H Q I) (j f s σ H Q I)
theorem S9(he:SX X c e p):SS X c n (.Return (some e) pos) (.ret p):=by
 have plain:∀(D:Ends)(σ:L2.St)(H:Hp),(∃F ρ fl ρ',GS X.K F ρ σ H/\((HH.ev c p ρ).bind λr ρ=>.ok (Fl.ret r) ρ)=.ok fl ρ'/\∀j f h,az X.K F ρ σ H j ρ' f h->(match fl with|.next=>D.nx f h|.brk=>D.bk f h|.cont=>D.ct f h|.ret r=>∀v,cz X.K j ρ' f h ρ σ H v r->D.rt v h))->xM X.K (HH.ev c p) σ H D.rt:=λD σ H⟨F,ρ,fl,ρ',g,e,k⟩=>by obtain⟨r,ρ1,l,e⟩:=aa e;cases e;exact⟨F,ρ,r,_,g,l,λv F1 m s1 o=>k F1 σ m s1 v o⟩
 cases hv:isVar p with|none=>refine fW (zj he.ev) λD σ H⟨F,ρ,fl,ρ',g,e,k⟩=>plain D σ H ⟨F,ρ,fl,ρ',g,?_,k⟩;rw[HH.YK,hv]at e;exact e|some i=>--by the name itself:its own list is handed back,else its data
   have s:p=.var i:=by cases p<;>cases hv;rfl
   subst s;refine fW (zj (Ws (he.var i hv) he.ev)) ?_;rintro D σ H⟨F,ρ,fl,ρ',g,e,k⟩;rw[HH.YK,hv]at e;dsimp only at e;split at e;.rename_i ds q;cases e;obtain⟨v,h1,t,u⟩:=g.give q;exact .inl ⟨v,h1,k F σ H t v u⟩
   .exact .inr (plain D σ H ⟨F,ρ,fl,ρ',g,e,k⟩)
theorem dR{l m:List Stmt}{o s:List S}(hc:ST X c e p)(t:SB X c n l o)(u:SB X c n m s):SS X c n (.If e l m pos) (.ifs p o s):=by refine fW (GC hc t u) ?_;rintro D σ H⟨F,ρ,fl,ρ',g,e,k⟩;rw[HH.Z0]at e;obtain⟨x,ρ1,w,e⟩:=aa e;refine⟨F,ρ,x,ρ1,g,w,λF1 y s1=>?_⟩;have go:∀{f:List Sl->Res Fl},f ρ1=.ok fl ρ'->Zt X.K f D σ y:=λ{f}h=>⟨F1,ρ1,fl,ρ',s1.gs,h,λF2 j A s2=>by have q:=k F2 j A (s1.trans s2);cases fl with|next=>exact q|brk=>exact q|cont=>exact q|ret r=>exact λv B=>q v (B.later s1)⟩;cases x with|true=>rw[if_pos rfl]at e;exact go e|false=>rw[if_neg Bool.false_ne_true]at e;exact go e
theorem xV{f:Pos}(j:X.N.Nodup)(l:X.N[i]?=some x)(m:Loc X.env.scope x)(he:SX X c e p)(hs:swapsWith e (some (.Name x f)) pos.line X.env=pure false:=by rfl)(o:X.fn x=true\/X.env.scope.names.lookup x=some .local:=by first|exact .inl rfl|exact .inr rfl|assumption):SS X c n (.Assign [.Name x f] e pos) (.asg i p):=by refine fW (uc j l m he.ev hs o) ?_;rintro D σ H⟨F,ρ,fl,ρ',g,e,k⟩;rw[HH.X6]at e;obtain⟨r,ρ1,q,e⟩:=aa e;obtain⟨ρ2,s,h,e⟩:=aa e;cases e;have t:=aF h;clear h;obtain⟨h,y⟩:=t;exact⟨F,ρ,r,ρ1,g,q,λv F1 u s1 w=>k F1 _ u (s1.put w h)⟩
end
end HH
end
section
namespace L2
open PySem PySem.Spec PyProof.Rows
variable{env:Env}{scope:Scope}{X:Cx}
noncomputable def wF(X:Cx)(scope:Scope)(N':List Str)(cl:List (Str×Addr))(C:Addr)(s₀:Shared)(H₀:Hp)(ex:List Addr):Cx:={X with N:=N',s₀:=s₀,H₀:=H₀,env:=compEnvC scope cl C X.env,outer:=X.stack,stack:=X.stack,ex:=ex,fn:=λx=>scope.names.lookup x==some .cell,pn:=[],xe:=λ_ _=>False}
theorem xZ(l:List (Str×NameKind)):∀(cs:List (Str×Addr)),(∀n,(n,NameKind.free)∈l->∃c,env.cells.lookup n=some c)->(∀n c,cs.lookup n=some c->env.cells.lookup n=some c)->∃ cl,(forIn l cs (λ(x:Str × NameKind)(r:List (Str × Addr))=>(if(x.2==NameKind.free)=true then(do let a<-cellOf env x.1;pure (ForInStep.yield ((x.1,a)::r)))else pure (ForInStep.yield r):Sem (ForInStep (List (Str × Addr))))):Sem (List (Str × Addr)))=pure cl/\(∀n c,cl.lookup n=some c->env.cells.lookup n=some c)/\(∀n,((n,NameKind.free)∈l\/(cs.lookup n).isSome)->(cl.lookup n).isSome):=by induction l with|nil=>intro cs _ h;exact⟨cs,rfl,h,λn hn=>by rcases hn with hn|hn;cases hn;exact hn⟩|cons y l i=>
   obtain⟨n,k⟩:=y;intro cs b hc;rw[List.forIn_cons];by_cases f:k=.free
   . subst f;obtain⟨a,j⟩:=b n mem_cons_self;obtain⟨cl,e,h1,g⟩:=i ((n,a)::cs) (λm hm=>b m (mem_cons_of_mem _ hm)) λm c hm=>by
      rw[lookup_cons]at hm;split at hm;.rename_i q;have q:=eq_of_beq q;subst q;cases hm;exact j
      .exact hc m c hm
     refine⟨cl,?_,h1,λm hm=>g m ?_⟩
     . rw[<-e];have:cellOf env n=pure a:=by unfold cellOf;rw[j]
       simp only[beq_self_eq_true,if_true,this];rfl
     . rcases hm with hm|hm
       . rcases mem_cons.mp hm with hm|hm;.cases hm;right;simp[lookup_cons]
         .exact .inl hm
       . right;rw[lookup_cons];split;.rfl
         .exact hm
   . obtain⟨cl,e,h1,g⟩:=i cs (λm hm=>b m (mem_cons_of_mem _ hm)) hc;refine⟨cl,?_,h1,λm hm=>g m ?_⟩
     . rw[<-e];have:(k==NameKind.free)=false:=by simpa using f
       simp only[this,false_eq_true,if_false];rfl
     . rcases hm with hm|hm
       . rcases mem_cons.mp hm with hm|hm;.cases hm;exact absurd rfl f
         .exact .inl hm
       .exact .inr hm
theorem zq(a:∀n,(n,NameKind.free)∈scope.names->∃c,env.cells.lookup n=some c):∃cl,closureFor scope env=pure cl/\(∀n c,cl.lookup n=some c->env.cells.lookup n=some c)/\∀n,(n,NameKind.free)∈scope.names->(cl.lookup n).isSome:=by obtain⟨cl,e,h1,b⟩:=xZ (env:=env) scope.names [] a (by simp);refine⟨cl,?_,h1,λn f=>b n (.inl f)⟩;unfold closureFor;exact(congrArg (λt=>t>>=λr=>pure r) e).trans rfl
theorem dG{env:Env}:∀(names:List (Str×NameKind))(x:Str),(names.map λ(n,k)=>if(k==NameKind.free&&env.scope.kind==.function&&env.kindOf n==some .cell)then(n,NameKind.cell)else(n,k)).lookup x=(names.lookup x).map λk=>if(k==NameKind.free&&env.scope.kind==.function&&env.kindOf x==some .cell)=true then NameKind.cell else k
 |[],x=>rfl|(n,k)::r,x=>by
   have a:=dG (env:=env) r x;show List.lookup x ((if(k==NameKind.free&&env.scope.kind==.function&&env.kindOf n==some .cell)=true then(n,NameKind.cell)else(n,k))::_)=_;by_cases hc:(k==NameKind.free&&env.scope.kind==.function&&env.kindOf n==some .cell)=true;.rw[if_pos hc,lookup_cons,lookup_cons];cases hx:x==n with|true=>have:=eq_of_beq hx;subst this;show some NameKind.cell=some (if _ then _ else _);rw[if_pos hc]|false=>exact a
   .rw[if_neg hc,lookup_cons,lookup_cons];cases hx:x==n with|true=>have:=eq_of_beq hx;subst this;show some k=some (if _ then _ else _);rw[if_neg hc]|false=>exact a
noncomputable def V8(N N':List Str)(a:Scope):Bool:=(N.zip N').all λp=>(p.1==p.2&&a.names.lookup p.2==some .free)||(a.names.lookup p.2!=some .local&&a.names.lookup p.2!=some .cell&&a.names.lookup p.2!=some .free)
structure fO(X:Cx)(scope:Scope)(N':List Str)(n:Nat):Prop where
 kind:scope.kind=.function
 cons:∀y∈scope.names,scope.names.lookup y.1=some y.2
 names:∀y∈scope.names,y.2=.local->scope.names.lookup y.1=some .local
 cap:∀y∈scope.names,y.2=.free->X.env.scope.names.lookup y.1=some .cell\/X.env.scope.names.lookup y.1=some .free
 len:N'.length=X.N.length+n
 same:V8 X.N N' scope=true
theorem fO.get{N':List Str}{n:Nat}(c:fO X scope N' n){i:Nat}{x:Str}(g:i<X.N.length)(h:N'[i]?=some x)(a:xK (relabel scope X.env) x):X.N[i]?=some x/\scope.names.lookup x=some .free:=by
 have hz:(X.N.zip N')[i]?=some (X.N[i],x):=by rw[List.getElem?_zip_eq_some];exact⟨by simp[g],h⟩
 have:=(all_eq_true.mp c.same) _ (mem_of_getElem? hz);simp only[or_eq_true,and_eq_true]at this;rcases this with⟨h1,b⟩|⟨⟨h1,b⟩,f⟩;.have h1:=eq_of_beq h1;have b:=eq_of_beq b;exact⟨by simp[g,h1],b⟩
 . exfalso;have h1:scope.names.lookup x≠some .local:=by simpa using h1
   have b:scope.names.lookup x≠some .cell:=by simpa using b
   have f:scope.names.lookup x≠some .free:=by simpa using f
   have e:=dG (env:=X.env) scope.names x;have a:(relabel scope X.env).names.lookup x=some .local\/(relabel scope X.env).names.lookup x=some .cell\/(relabel scope X.env).names.lookup x=some .free:=a;rw[show(relabel scope X.env).names.lookup x=_ from e]at a;cases q:scope.names.lookup x with|none=>rw[q]at a;simp at a|some k=>
     rw[q]at a h1 b f;have j:(k==NameKind.free)=false:=by cases k<;>first|rfl|exact absurd rfl f
     simp only[Option.map_some,j,Bool.false_and,false_eq_true,if_false,Option.some.injEq]at a;rcases a with rfl|rfl|rfl;.exact h1 rfl
     .exact b rfl
     .exact f rfl
structure CI(cl:List (Str×Addr))(z:Nat)(h:Heap)(acc:List (Str×Addr)):Prop where from':∀n c,acc.lookup n=some c->cl.lookup n=some c\/(z<=c/\h.IsCell c none)inj:∀n n' c,acc.lookup n=some c->acc.lookup n'=some c->n=n'
theorem FP{cl:List (Str×Addr)}{z:Nat}(i:∀n c,cl.lookup n=some c->c<z):∀(names:List (Str×NameKind))(h:Heap)(f:List (Str×Addr)),z<=h.objs.size->CI cl z h f->CI cl z (pushCells h names) (cellsFrom h.objs.size names f)/\(∀n,(f.lookup n).isSome->((cellsFrom h.objs.size names f).lookup n).isSome)/\(∀n,((∃c,f.lookup n=some c/\z<=c)\/(n,NameKind.cell)∈names)->∃c,(cellsFrom h.objs.size names f).lookup n=some c/\z<=c)/\(∀n c,(n,NameKind.cell)∉names->(cellsFrom h.objs.size names f).lookup n=some c->f.lookup n=some c)
 |[],h,f,hz,x=>by
   refine⟨x,λ_ q=>q,λn q=>?_,λ_ _ _ q=>q⟩;rcases q with q|q;.exact q
   .cases q|(name,kind)::r,h,f,hz,x=>by
   unfold pushCells cellsFrom;by_cases l:kind=.cell
   . subst l;rw[if_pos (by rfl),if_pos (by rfl)];have p:CI cl z (h.push {cls:=.type "cell",data:=.cell none}) ((name,h.objs.size)::f):=by
      have lt:∀n c,f.lookup n=some c->c<h.objs.size:=λn c e=>by
       rcases x.from' n c e with q|q;.exact lt_of_lt_of_le (i n c q) hz
       .exact q.2.lt
      refine⟨λn c e=>?_,λn m c e j=>?_⟩
      . rw[lookup_cons]at e;split at e;.cases e;exact .inr ⟨hz,_,get?_push_size _ rfl,rfl⟩
        . rcases x.from' n c e with q|q;.exact .inl q
          .exact .inr ⟨q.1,q.2.keeps λb o e=>du e⟩
      . rw[lookup_cons]at e j;split at e<;>split at j;.rename_i _ a _ b;rw[eq_of_beq a,eq_of_beq b]
        .cases e;exact absurd (lt m _ j) (lt_irrefl _)
        .cases j;exact absurd (lt n _ e) (lt_irrefl _)
        .exact x.inj n m c e j
     have g:=FP i r (h.push {cls:=.type "cell",data:=.cell none}) ((name,h.objs.size)::f) (by rw[size_push];omega) p;rw[size_push]at g;refine⟨g.1,λn q=>g.2.1 n ?_,λn q=>g.2.2.1 n ?_,λn c q e=>?_⟩
     . rw[lookup_cons];split;.rfl
       .exact q
     . rcases q with⟨c,e,hc⟩|q
       . left;rw[lookup_cons];split;.exact⟨_,rfl,hz⟩
         .exact⟨c,e,hc⟩
       . rcases mem_cons.mp q with q|q;.cases q;left;exact⟨_,by simp[lookup_cons],hz⟩
         .exact .inr q
     . have:=g.2.2.2 n c (λz=>q (mem_cons_of_mem _ z)) e;rw[lookup_cons]at this;split at this;.rename_i a;exact absurd (by rw[eq_of_beq a];exact mem_cons_self) q
       .exact this
   . have k:(kind==NameKind.cell)=false:=by simpa using l
     rw[if_neg (by rw[k];decide),if_neg (by rw[k];decide)];have g:=FP i r h f hz x;refine⟨g.1,g.2.1,λn q=>g.2.2.1 n ?_,λn c q e=>g.2.2.2 n c (λz=>q (mem_cons_of_mem _ z)) e⟩;rcases q with q|q;.exact .inl q
     . rcases mem_cons.mp q with q|q;.cases q;exact absurd rfl l
       .exact .inr q
structure Ew(X:Cx)(scope:Scope)(z:Nat)(h:Heap)(cs:List (Str×Addr)):Prop where
 from':∀n c,cs.lookup n=some c->X.env.cells.lookup n=some c\/(z<c/\h.IsCell c none)inj:∀n n' c,cs.lookup n=some c->cs.lookup n'=some c->n=n'
 has:∀n,(scope.names.lookup n=some .free\/scope.names.lookup n=some .cell)->∃c,cs.lookup n=some c
 fre:∀n c,scope.names.lookup n=some .free->cs.lookup n=some c->X.env.cells.lookup n=some c
 own:∀n c,scope.names.lookup n=some .cell->cs.lookup n=some c->z<c
theorem Dj{M:Model}{A:Around}{E:Value->Shared->Prop}{s:Shared}{N':List Str}{n:Nat}{cl:List (Str×Addr)}{Q:Env->Shared->Prop}(ok:fO X scope N' n)(h:∀n c,X.env.cells.lookup n=some c->c<s.heap.objs.size)(f:∀x y c,X.env.cells.lookup x=some c->X.env.cells.lookup y=some c->x=y)(a:∀n c,cl.lookup n=some c->X.env.cells.lookup n=some c)(l:∀n,(n,NameKind.free)∈scope.names->(cl.lookup n).isSome)(m:∀ cs h',h'.Ns s.heap.objs.size (λ_=>none)->(∀ b o,s.heap.get? b=some o->h'.get? b=some o)->Ew X scope s.heap.objs.size h' cs->Q {scope:=scope,locals:=s.heap.objs.size,globals:=X.env.globals,cells:=cs,qual:=X.env.qual,func:=none,code:=X.env.code,frame:=X.env.frame,builtins:=X.env.builtins} {s with heap:=h'}):wpAny M A (newFunctionEnv scope X.env.globals cl [] X.env.qual none .none (some X.env)) Q E s:=by
 simp only[newFunctionEnv,Option.isSome_some,if_true];refine wpAny_bind (wpAny_alloc ?_);refine wpAny_bind (wpAny_layCells _ (λname kind cells=>by cases i:kind==NameKind.cell<;>simp[i]) _ _ _ _ ?_);have ck:=FP (cl:=cl) (z:=s.heap.objs.size+1) (λn c e=>lt_succ_of_lt (h n c (a n c e))) scope.names (s.heap.push {cls:=.type "dict",data:=.dict #[]}) cl (by rw[size_push];exact cQ) ⟨λn c e=>.inl e,λn k c e g=>f n k c (a n c e) (a k c g)⟩;obtain⟨c1,c2,c3,c4⟩:=ck;rw[show({s with heap:=s.heap.push {cls:=.type "dict",data:=.dict #[]}}:Shared).heap.objs.size=(s.heap.push {cls:=.type "dict",data:=.dict #[]}).objs.size from rfl];refine wpAny_bind ?_;rw[List.forIn_nil];refine wpAny_pure (wpAny_pure (m _ _ ((Heap.Ns.new s.heap (.type "dict")).keeps (pushCells_keeps _ _)) (λb o e=>pushCells_keeps _ _ b o (du e)) ⟨λn c e=>?_,c1.inj,λn q=>?_,λn c q e=>?_,λn c q e=>?_⟩))
 . rcases c1.from' n c e with z|z;.exact .inl (a n c z)
   .exact .inr ⟨z.1,z.2⟩
 . rcases q with q|q;.exact Option.isSome_iff_exists.mp (c2 n (l n (PySem.mem_of_lookup q)))
   .obtain⟨c,e,_⟩:=c3 n (.inr (PySem.mem_of_lookup q));exact⟨c,e⟩
 .refine a n c (c4 n c (λz=>?_) e);have:=ok.cons _ z;rw[q]at this;cases this
 .obtain⟨p,g,j⟩:=c3 n (.inr (PySem.mem_of_lookup q));rw[e]at g;cases g;exact j
section
variable{X:Cx}{pins:List (Addr×Obj)}{σ:L2.St}{H:Hp}{s:Shared}{scope:Scope}{N':List Str}{n:Nat}{fp:List Addr}{cl:List (Str×Addr)}
theorem Ha{h1:Heap}{m:Str->Option Value}{t:Nat}{cs:List (Str×Addr)}(ok:fO X scope N' n)(I:Inv X pins σ H s)(L:∀b∈fp,ou X pins H b/\b<s.heap.objs.size)(w:Ew X scope s.heap.objs.size h1 cs)(W:h1.Ns s.heap.objs.size m)(j:∀b u,s.heap.get? b=some u->h1.get? b=some u):Inv (wF X scope N' cs s.heap.objs.size s H fp) [] (σ++replicate n none) H {s with heap:=h1,toks:=t}:=by
 have Y:∀x,scope.names.lookup x=some .free->(relabel scope X.env).names.lookup x=some .cell\/(relabel scope X.env).names.lookup x=some .free:=λx h=>by
  have e:=dG (env:=X.env) scope.names x;rw[h]at e;have M:(relabel scope X.env).names.lookup x=_:=e;rw[M];simp only[Option.map_some];split;.exact .inl rfl
  .exact .inr rfl
 refine⟨⟨I.ok.mod,ok.kind,I.ok.glob,I.ok.blt,cQ,λx y c h1 Z=>w.inj x y c h1 Z,λx A=>?_,λx c h e=>le_of_lt (w.own x c (eq_of_beq (show(scope.names.lookup x==some NameKind.cell)=true from h)) e),I.ok.hd,I.ok.frames,.inl rfl,λb C=>?_,I.bs,le_trans I.ok.Ou I.sz,λb u e C=>?_,λb C N=>?_,I.stack,I.zR⟩,rfl,I.bare,Un.kept j,⟨m,W,λi x v e1 E hv=>?_⟩,λx c e=>?_,I.hok.fresh (cQ),λx c e=>?_,λp hp=>(by cases hp),I.hok.kept j,?_⟩;.--a XJ name has its cell
   have A:(relabel scope X.env).names.lookup x=some .cell\/(relabel scope X.env).names.lookup x=some .free:=A;have e:=dG (env:=X.env) scope.names x;have M:(relabel scope X.env).names.lookup x=_:=e;rw[M]at A;refine w.has x ?_;cases q:scope.names.lookup x with|none=>rw[q]at A;simp at A|some k=>
     rw[q]at A;by_cases hk:k=.free;.rw[hk];exact .inl rfl
     . have g:(k==NameKind.free)=false:=by simpa using hk
       simp only[Option.map_some,g,Bool.false_and,false_eq_true,if_false,Option.some.injEq]at A;rcases A with rfl|rfl;.exact .inr rfl
       .exact absurd rfl hk
 . obtain⟨f,lt⟩:=L b C;refine⟨ne_of_lt lt,λx c e=>?_⟩;rcases w.from' x c e with e|e;.exact f.2.2.2.2.1 x c e
   .rintro rfl;exact absurd (lt_trans e.1 lt) (lt_irrefl _)
 . obtain⟨f,lt⟩:=L b C;rcases f.2.2.2.1 with h|h;.exact I.ok.Jb b u e h
   .have this:b<X.base.objs.size:=lt_size e;exact absurd (lt_of_lt_of_le this (le_trans I.ok.Ou h)) (lt_irrefl _)
 . obtain⟨f,lt⟩:=L b C;rcases mem_cons.mp (I.ux b N)with h|h;.exact f.2.1 h
   .exact f.2.2.1 h
 .--the names
   have J:i<σ.length:=by
    by_cases J:i<σ.length;.exact J
    .rw[getElem?_append_right (by omega),List.getElem?_replicate]at E;split at E<;>cases E
   rw[getElem?_append_left J]at E;obtain⟨O,o⟩:=ok.get (by rw[<-I.len];exact J) e1 hv;have hk:=ok.cap (x,.free) (PySem.mem_of_lookup o) rfl;obtain⟨m0,ac,hl⟩:=I.loc;obtain⟨u,r,l⟩:=hl i x v O E (.inr hk);refine⟨u,r,.inr ⟨Y x o,?_⟩⟩;rcases l with⟨g,_⟩|⟨_,c,hc,B⟩;.have g:X.env.scope.names.lookup x=some .local:=g;rcases hk with hk|hk<;>(rw[g]at hk;cases hk)
   .obtain⟨c',G⟩:=w.has x (.inl o);have:=w.fre x c' o G;rw[hc]at this;cases this;refine⟨c,G,?_⟩;obtain⟨oc,Q,U⟩:=B;exact⟨oc,j c oc Q,U⟩
 . rcases w.from' x c e with e|e;.obtain⟨v,oc,Q,U⟩:=I.cell x c e;exact⟨v,oc,j c oc Q,U⟩
   .exact⟨_,e.2⟩
 . rcases w.from' x c e with e|e;.exact I.ik x c e
   .exact I.hok.fresh (le_of_lt e.1)
 .show(σ++replicate n none).length=N'.length;rw[length_append,List.length_replicate,I.len,ok.len]
theorem uh{prog:Program}{w:World}{A:Around}{R:Result->Shared->Prop}{p a iter:Expr}{ifs:List Expr}{pos:Pos}{C q:Value}(I:Nat->Shared->Prop)(t:∀ n s,I n s->wpAny (model prog w) A (pyNext C) (λr b=>match r with|none=>R (.ok .next) b|some v=>wpAny (model prog w) A (letOwnedTupleGo a C v) (λ_ b=>wpAny (model prog w) A (assign a env v) (λ_ j=>wpAny (model prog w) A (forIn ifs true λc r=>if r=true then do let ok<-isTrue c env (eval c env);pure (ForInStep.yield ok)else pure (ForInStep.yield r)) (λok g=>if ok=true then wpAny (model prog w) A (eval p env) (λx k=>wpAny (model prog w) A (call (.builtin "list.append") [q,x]) (λ_ l=>∃m,m<n/\I m l) (notedBy (model prog w) A env λe i=>R (.error e) i) k) (notedBy (model prog w) A env λe i=>R (.error e) i) g else ∃m,m<n/\I m g) (notedBy (model prog w) A env λe i=>R (.error e) i) j) (notedBy (model prog w) A env λe i=>R (.error e) i) b) (notedBy (model prog w) A env λe i=>R (.error e) i) b) (notedBy (model prog w) A env λe i=>R (.error e) i) s)(n:Nat){s:Shared}(h:I n s):codeAny (model prog w) A (.compLoop (.ListComp p [⟨a,iter,ifs,0⟩] scope pos) 0 C q env) R s:=by refine codeAny_loop rfl I (λn s E=>?_) n h;show wpAny _ A ((compTurn (.ListComp p [⟨a,iter,ifs,0⟩] scope pos) 0 C q env).onRaise (λx=>do noteFrame x env;theTreesLotGoes x)) _ _ s;refine wpAny_noted ?_;rw[compTurn_list];refine wpAny_bind (wpAny_standAt (wpAny_bind (wpAny_mono (t n s E) (λr b f=>?_) λ_ _ h'=>h')));cases r with|none=>exact wpAny_pure f|some v=>refine wpAny_bind (wpAny_mono f (λ_ b f=>?_) λ_ _ h'=>h');refine wpAny_bind (wpAny_mono f (λ_ j u=>wpAny_bind (wpAny_mono u (λok g o=>?_) λ_ _ h'=>h')) λ_ _ h'=>h');cases ok with|false=>exact wpAny_pure ⟨rfl,o⟩|true=>exact wpAny_bind (wpAny_bind (wpAny_mono o (λx k y=>wpAny_bind (wpAny_mono y (λ_ l B=>wpAny_pure (wpAny_pure ⟨rfl,B⟩)) λ_ _ h'=>h')) λ_ _ h'=>h'))
def QK(X:Cx)(ifs:List Expr)(t:TT):Prop:=∀(pins:List (Addr × Obj))(s:Shared)(σ:L2.St)(H:Hp)(Q:Bool->Hp->Prop),Inv X pins σ H s->t σ H Q->wpAny (model X.prog X.w) X.A (forIn ifs true λc r=>if r=true then do let ok<-isTrue c X.env (eval c X.env);pure (ForInStep.yield ok)else pure (ForInStep.yield r)) (TP X pins σ Q) X.xe s
theorem Ls:QK X [] (λ_ H Q=>Q true H):=λpins s σ H Q I h=>wpAny_tests_nil ⟨H,I,h⟩
theorem Mt{c:Expr}{t:TT}(h:PT X c t):QK X [c] t:=λpins s σ H Q I q=>wpAny_tests_one (h pins s σ H Q I q)
def N6(J:It)(g:TG)(tt:TT)(te:TE)(D:Addr)(Q:Hp->Prop)(W:Nat->Nat->List V->L2.St->Hp->Prop):Prop:=∀ i m ys σ H,W i m ys σ H->H D=some (.lst ys)/\((J.stop i H/\Q H)\/(J.go i H/\∀ x e,J.JC i H x e->g x σ e λa j=>tt a j λb f=>if b=true then te a f λy h=>h D=some (.lst ys)/\ys.length<sizeLine/\∃c,c<m/\W (i+1) c (ys++[y]) a (upd h D (.lst (ys++[y])))else ∃c,c<m/\W (i+1) c ys a f))
theorem sS{E:Value->Shared->Prop}{af a iter:Expr}{ifs:List Expr}{pos:Pos}{it:Addr}{tn:Nat->Heap->Prop}{J:It}{g:TG}{tt:TT}{te:TE}{Q:Addr->Hp->Prop}{RR:Value->Addr->Result->Shared->Prop}(hc:X.calm=true)(ok:fO X scope N' n)(I:Inv X pins σ H s)(bm:∀n c,cl.lookup n=some c->X.env.cells.lookup n=some c)(zG:∀n,(n,NameKind.free)∈scope.names->(cl.lookup n).isSome)(T:Turn X.prog X.w X.K a J fp it tn)(h0:tn 0 s.heap)(hf:∀b∈fp,ou X pins H b)(hg:∀cl C s₀ H₀ ex,PG (wF X scope N' cl C s₀ H₀ ex) a g)(ht:∀cl C s₀ H₀ ex,QK (wF X scope N' cl C s₀ H₀ ex) ifs tt)(he:∀cl C s₀ H₀ ex,PE (wF X scope N' cl C s₀ H₀ ex) af te)(hw:∀D,H D=none->∃W,(∃m,W 0 m [] (σ++replicate n none) (upd H D (.lst [])))/\N6 J g tt te D (Q D) W)(bn:∀D C B l,Q D l->(∃m,B.heap.Ns C m)->ou X pins l C->Inv X pins σ l B->RR (.ref D) C (.ok .next) B):wpAny (model X.prog X.w) X.A (newList []) (λaw ax=>wpAny (model X.prog X.w) X.A (newFunctionEnv scope X.env.globals cl [] X.env.qual none .none (some X.env)) (λam ay=>codeAny (model X.prog X.w) X.A (.compStart (.ListComp af [⟨a,iter,ifs,0⟩] scope pos) 0 (.ref it) aw {am with scope:=relabel scope X.env}) (RR aw am.locals) ay) E ax) E s:=by
 refine wpAny_newObj_type (Dj ok (λx c e=>?lt) I.ok.inj bm zG (λcs M ap hold bc=>?_));case lt=>obtain⟨v,z⟩:=I.cell x c e;exact lt_of_lt_of_le z.lt (by show _<=(s.heap.push _).objs.size;rw[size_push];exact le_succ _)
 dsimp only at ap hold bc ⊢--the new list,tracked
 have I3:Inv X pins σ (upd H s.heap.objs.size (.lst [])) {s with heap:=s.heap.push {cls:=.type "list",data:=.seq ([]:List Value).toArray}}:=I.RJ (t':=s.toks) .nil (vy);generalize ar:({s with heap:=s.heap.push {cls:=.type "list",data:=.seq ([]:List Value).toArray}}:Shared)=s3 at I3;have hsz:s3.heap.objs.size=s.heap.objs.size+1:=by rw[<-ar];exact size_push _ _
 have O1:s3.heap=s.heap.push {cls:=.type "list",data:=.seq ([]:List Value).toArray}:=by rw[<-ar]
 obtain⟨W,⟨m0,w0⟩,aE⟩:=hw s.heap.objs.size I.fresh;have aI:∀{h':Heap},(∀b o,s.heap.get? b=some o->h'.get? b=some o)->tn 0 h':=λk=>T.keep _ _ _ h0 λb j o e=>k b o e;have ag:∀b∈fp,ou X pins (upd H s.heap.objs.size (.lst [])) b/\b<s3.heap.objs.size:=λb j=>by obtain⟨o,e,_⟩:=T.obj 0 _ h0 b j;have lt:=lt_size e;obtain⟨f1,f2⟩:=hf b j;exact⟨⟨by rw[ao (ne_of_lt lt)];exact f1,f2⟩,by rw[hsz];exact lt_succ_of_lt lt⟩
 rw[<-O1]at ap hold bc ⊢;have I4:=Ha (t:=s3.toks) ok I3 ag bc ap hold;have XM:∀b o,s.heap.get? b=some o->M.get? b=some o:=λb o e=>hold b o (by rw[O1];exact du e);generalize U:wF X scope N' cs s3.heap.objs.size s3 (upd H s.heap.objs.size (.lst [])) fp=G at I4;have hA:G.A=X.A:=by rw[<-U];rfl
 have N:G.prog=X.prog:=by rw[<-U];rfl
 have O:G.w=X.w:=by rw[<-U];rfl
 have aS:G.K=X.K:=by rw[<-U];rfl
 have Y:G.calm=true:=by rw[<-U];exact hc
 have bo:G.xe=λ_ _=>False:=by rw[<-U];rfl
 have aT:G.env=compEnvC scope cs s3.heap.objs.size X.env:=by rw[<-U];rfl
 have bp:PG G a g:=by rw[<-U];exact hg _ _ _ _ _
 have bq:QK G ifs tt:=by rw[<-U];exact ht _ _ _ _ _
 have br:PE G af te:=by rw[<-U];exact he _ _ _ _ _
 have ff:∀{l:Hp}{b:Addr},b∈fp->l b=none->ou G [] l b:=λ{l b}j hn=>by
  obtain⟨f,lt⟩:=ag b j;rw[<-U];refine⟨hn,ne_of_lt lt,λbt=>?_,.inl j,λx c e=>?_,λp hp=>by cases hp⟩
  . rcases mem_cons.mp (I3.ux b bt)with h|h;.exact f.2.1 h
    .exact f.2.2.1 h
  . rcases bc.from' x c e with e|e;.exact f.2.2.2.2.1 x c e
    .rintro rfl;exact absurd (lt_trans e.1 lt) (lt_irrefl _)--behind the block
 have fin:∀{L:L2.St}{l:Hp}{B:Shared},Inv G [] L l B->Q s.heap.objs.size l->RR (.ref s.heap.objs.size) s3.heap.objs.size (.ok .next) B:=λ{L l B}J' q=>by
  rw[<-U]at J';have hC:l s3.heap.objs.size=none:=J'.free;obtain⟨hh,gg,dd,bv,bP⟩:=B;have bS:bP=s3.os:=J'.os;subst bS;refine bn _ _ _ l q (let⟨m,hm,_⟩:=J'.loc;⟨m,hm⟩) ?_ (I3.call (h':=hh) (g':=gg) (d':=dd) (t':=bv) (ch:=fp) J'.base J'.hok J'.bare λb j=>?_);.exact I3.Dw (cQ) hC
  .obtain⟨f,lt⟩:=ag b j;exact⟨f.2.2.2.1,f.2.1,f.2.2.2.2.1,f.2.2.2.2.2⟩
 have ac:codeAny (model X.prog X.w) X.A (.compLoop (.ListComp af [⟨a,iter,ifs,0⟩] scope pos) 0 (.ref it) (.ref s.heap.objs.size) G.env) (RR (.ref s.heap.objs.size) s3.heap.objs.size) {s3 with heap:=M,toks:=s3.toks}:=by
  refine uh (λk B=>∃i ys L l,Inv G [] L l B/\tn i B.heap/\(∀b∈fp,l b=none)/\W i k ys L l) (λk s5 hI=>?_) m0 ⟨0,[],_,_,I4,aI XM,λb j=>(ag b j).1.1,w0⟩;obtain⟨i,ys,ah,H5,I5,t5,f5,w5⟩:=hI;obtain⟨hD,av⟩:=aE i k ys ah H5 w5;have ai:∀{Z:Value->Shared->Prop},∀(e:Value)(B:Shared),G.xe e B->Z e B:=λe B z=>by rw[bo]at z;exact False.elim z
  rcases av with⟨stop,q⟩|⟨go,step⟩;.have z:=T.done G N O aS Y i [] s5 ah H5 (λ_ _=>False) I5 (λb j=>ff j (f5 b j)) t5 stop;rw[hA]at z;refine wpAny_mono z (?_) λ_ _ z=>False.elim z;rintro r s6⟨hr,I6⟩;subst hr;exact fin I6 q
  . have z:=T.item G N O aS Y i [] s5 ah H5 (λ_ _=>False) I5 (λb j=>ff j (f5 b j)) t5 go;rw[hA]at z;refine wpAny_mono z (?_) λ_ _ z=>False.elim z;rintro r s6⟨u,hr,z6⟩;subst hr;refine wpAny_mono z6 (?_) λ_ _ z=>False.elim z;rintro _ s7⟨x,H7,I7,r7,y7,t7,f7⟩;have bX:=I7.pinned (λb j=>ff j (f7 b j)) (T.obj _ _ t7)--what the pins keep
    have back:∀{L:L2.St}{l:Hp}{B:Shared},Inv G ([]++qJ fp s7.heap) L l B->Inv G [] L l B/\tn (i+1) B.heap/\∀b∈fp,l b=none:=λ{L l B}J'=>by refine⟨J'.lQ,T.keep _ _ _ t7 λb j o e=>(J'.pin (b,o) (mem_append_right _ (mem_append_right _ (iI j e)))).1,λb j=>?_⟩;obtain⟨o,e,_⟩:=T.obj _ _ t7 b j;exact(J'.pin (b,o) (mem_append_right _ (mem_append_right _ (iI j e)))).2.1
    have z7:=bp _ s7 ah H7 x u _ bX r7 (step x H7 y7);rw[hA,N,O]at z7;refine wpAny_mono z7 (?_) ai;rintro _ s8⟨ae,H8,I8,q8⟩;have z8:=bq _ s8 ae H8 _ I8 q8;rw[hA,N,O]at z8;refine wpAny_mono z8 (?_) ai;rintro b s9⟨H9,I9,q9⟩;cases b with|false=>rw[if_neg Bool.false_ne_true]at q9 ⊢;obtain⟨m',hm,w'⟩:=q9;obtain⟨b1,b2,b3⟩:=back I9;exact⟨m',hm,i+1,ys,ae,H9,b1,b2,b3,w'⟩|true=>rw[if_pos rfl]at q9 ⊢;have z9:=br _ s9 ae H9 _ I9 q9;rw[hA,N,O]at z9;refine wpAny_mono z9 (?_) ai;rintro y qX⟨yv,a8,ca,cb,ce,a9,m',hm,w'⟩;have ba:=jQ _ qX ae a8 (.ref s.heap.objs.size) [yv] (.ref s.heap.objs.size) [y] (λv bi=>bi=upd a8 s.heap.objs.size (.lst (ys++[yv]))) ca rfl (.cons cb .nil) ⟨_,ys,yv,rfl,rfl,ce,a9,rfl⟩;rw[hA,N,O]at ba;refine wpAny_mono ba (?_) ai;rintro _ Yu⟨_,bi,cf,_,ci⟩;subst ci;obtain⟨b1,b2,b3⟩:=back cf;exact⟨m',hm,i+1,ys++[yv],ae,_,b1,b2,b3,w'⟩
 have e3:({s3 with heap:=M,toks:=s3.toks}:Shared)={s with heap:=M}:=by rw[<-ar]
 rw[aT,e3]at ac;exact codeAny_compStart_list ac (T.self _ 0 _ _ _ (aI XM) ac)
end
section
variable{X:Cx}{elt target iter:Expr}{ifs:List Expr}{scope:Scope}{pos:Pos}{N':List Str}{n:Nat}{wi:TI}{g:TG}{tt:TT}{te:TE}
def rO(n:Nat)(wi:TI)(g:TG)(tt:TT)(te:TE):TE:=λσ H Q=>wi σ H λJ a=>∀D,a D=none->∃W,(∃m,W 0 m [] (σ++replicate n none) (upd a D (.lst [])))/\N6 J g tt te D (λb=>Q (.ref D) b) W
theorem lO{a:List (Addr×Obj)}{σ:L2.St}{H:Hp}{s:Shared}(I:Inv X a σ H s)(ok:fO X scope N' n):∃cl,closureFor scope X.env=pure cl/\(∀n c,cl.lookup n=some c->X.env.cells.lookup n=some c)/\∀n,(n,NameKind.free)∈scope.names->(cl.lookup n).isSome:=zq λm b=>I.ok.has m (ok.cap (m,.free) b rfl)
theorem JH(hc:X.calm=true)(ok:fO X scope N' n)(r:PI X target iter wi)(t:∀cl C s₀ H₀ ex,PG (wF X scope N' cl C s₀ H₀ ex) target g)(ht:∀cl C s₀ H₀ ex,QK (wF X scope N' cl C s₀ H₀ ex) ifs tt)(he:∀cl C s₀ H₀ ex,PE (wF X scope N' cl C s₀ H₀ ex) elt te)(hs:∀x,foldedSetIterable iter X.env x=pure x:=by intro _;rfl):PE X (.ListComp elt [⟨target,iter,ifs,0⟩] scope pos) (rO n wi g tt te):=by intro a s σ H Q I h;obtain⟨cl,c,i,u⟩:=lO I ok;rw[eval_ListComp];refine wpAny_comprehension_free (use:=none) rfl hs c ok.kind ok.names (bV (r a s σ H _ I h) λv s1 h1=>bV h1 λy s2 B=>?_);obtain⟨O,U,W,J,Y,rfl,E,T,t0,f2,G⟩:=B;refine sS (Q:=λD j=>Q (.ref D) j) (RR:=λk C=>compPost (model X.prog X.w) X.A X.xe none (EP X a σ Q) k C) hc ok E i u T t0 f2 t ht he G λD C L j q l f M=>?_;obtain⟨m,l⟩:=l;refine⟨m,l,λh' p=>⟨.ref D,j,?_,rfl,q⟩⟩;exact M.turned (t':=L.toks) (λb o N e=>p.extBut b o N e) f.1 f.2.1 f.2.2.2.1 f.2.2.2.2.1 f.2.2.2.2.2
theorem Li{i:Nat}{x:Str}{c j:Pos}(hc:X.calm=true)(U:X.N.Nodup)(r:X.N[i]?=some x)(W:Loc X.env.scope x)(ok:fO X scope N' n)(Y:PI X target iter wi)(Z:∀cl C s₀ H₀ ex,PG (wF X scope N' cl C s₀ H₀ ex) target g)(ht:∀cl C s₀ H₀ ex,QK (wF X scope N' cl C s₀ H₀ ex) ifs tt)(he:∀cl C s₀ H₀ ex,PE (wF X scope N' cl C s₀ H₀ ex) elt te)(t:swapsWith (.ListComp elt [⟨target,iter,ifs,0⟩] scope pos) (some (.Name x c)) j.line X.env=pure true)(hs:∀x,foldedSetIterable iter X.env x=pure x:=by intro _;rfl)(hf:X.fn x=true\/X.env.scope.names.lookup x=some .local:=by first|exact .inl rfl|exact .inr rfl|assumption):PS X (.Assign [.Name x c] (.ListComp elt [⟨target,iter,ifs,0⟩] scope pos) j) (xu (rO n wi g tt te) (fj i)):=by
 intro f s σ H D I h;obtain⟨cl,k,u,zG⟩:=lO I ok;rw[exec_Assign_Name_used _ _ _ _ t];refine wpAny_bind (wpAny_standAt (wpAny_bind ?_));show wpAny _ X.A (do let _<-comprehension (.ListComp elt [⟨target,iter,ifs,0⟩] scope pos) scope X.env _ (newList []) false (eval iter X.env) (some (assign (.Name x c) X.env))) _ _ s;refine wpAny_bind (wpAny_mono (wpAny_comprehension_free (use:=some (assign (.Name x c) X.env)) (Q:=λ_ p=>SP X f D .next p) rfl hs k ok.kind ok.names (bV (Y f s σ H _ I h) λv s1 h1=>bV h1 λac s2 h2=>?_)) (λ_ p hq=>wpAny_pure (wpAny_pure hq)) λ_ _ e=>e);obtain⟨it,fp,tn,J,H2,rfl,I2,T,t0,f2,hw⟩:=h2;refine sS (Q:=λDa y=>D.nx (σ.set i (some (.ref Da))) y) (RR:=λB C=>compPost (model X.prog X.w) X.A X.xe (some (assign (.Name x c) X.env)) (λ_ p=>SP X f D .next p) B C) hc ok I2 u zG T t0 f2 Z ht he hw λDa C p y q E l I'=>?_;obtain⟨m,E⟩:=E;show wpAny _ X.A (assign (.Name x c) X.env (.ref Da)) _ _ _;refine wpAny_assign_Name (rK I' U r W (show RelV (.ref Da) (.ref Da)from rfl) (?_) hf);rintro G L⟨a,sb,ha⟩;have M:C≠a:=by
  rcases ha with rfl|ha;.exact l.2.1
  .exact λz=>l.2.2.2.2.1 x a ha z.symm
 refine⟨m,E.sameBut sb M,λh' O=>⟨_,y,?_,q⟩⟩;exact L.turned (t':=G.toks) (λb o hb e=>O.extBut b o hb e) l.1 l.2.1 l.2.2.2.1 l.2.2.2.2.1 l.2.2.2.2.2
def ach(K:PySem.W.Frag)(c:TE):TI:=λσ H R=>c σ H λx b=>∃a,x=.ref a/\(((∃xs,dg K b a xs)/\R (Sv K a) b)\/((∃xs,dN K b a xs)/\R (TX K a) b))
theorem yZ{u l:Expr}{r:TE}(w:PE X l r):PI X u l (ach X.K r):=by
 intro f s σ H R I h;refine bV (w f s σ H _ I h) ?_;rintro v s1⟨x,t,c,r1,j⟩;obtain⟨a,e,j⟩:=j;subst e;cases r1;rcases j with⟨⟨xs,k⟩,q⟩|⟨⟨xs,k⟩,q⟩
 . obtain⟨i,y,p,hz⟩:=c.list k;refine wpAny_pyIter_list p.isList ?_;refine⟨s1.heap.objs.size,[s1.heap.objs.size],_,_,t,rfl,c.kept (t':=s1.toks) λb o e=>du e,Ds a _,⟨_,get?_push_size _ rfl,rfl,rfl⟩,λb m=>?_,q⟩;have e:b=s1.heap.objs.size:=by simpa using m
   subst e;exact c.Dw (cQ) (c.hok.fresh (cQ))
 . obtain⟨i,y,p,hz⟩:=c.tuple k;refine wpAny_pyIter_tuple (show s1.heap.IsTuple a i.toArray from p) ?_;refine⟨s1.heap.objs.size,[s1.heap.objs.size],_,_,t,rfl,c.kept (t':=s1.toks) λb o e=>du e,yc a _,⟨_,get?_push_size _ rfl,rfl,rfl⟩,λb m=>?_,q⟩;have e:b=s1.heap.objs.size:=by simpa using m
   subst e;exact c.Dw (cQ) (c.hok.fresh (cQ))
end
end L2
end
section
namespace HH
open PySem L2 PySem.Spec PyProof.Rows
variable{v:V}{i m:Nat}{K:PySem.W.Frag}{F H:Hp}{ρ:List Sl}{σ:L2.St}{x:Str}{p':Pos}{is:List Nat}{ds:List D}{s:Shared}{A:Around}{u':Value}
structure Walk(K:PySem.W.Frag)(F:Hp)(ρ:List Sl)(σ:L2.St)(H:Hp)(ul:List Sl->List Sl)(J:It)(ds:List D)(F1:Hp)(ρ1:List Sl)(H1:Hp):Prop where
 gs:GS K F1 ρ1 σ H1
 src:∀(n k:Nat)(F':Hp)(ρ':List Sl)(σ':L2.St)(H':Hp),az K F1 (ρ1++replicate n .aP) (σ++replicate n none) H1 F' ρ' σ' H'->(∀d,ds[k]?=some d->J.go k H'/\∀x lH,J.JC k H' x lH->∃F'',Ext F' H' F'' lH/\Rep K F'' x d)/\(ds.length<=k->J.stop k H')fin:∀F2 ρ2 σ2 H2,az K F1 ρ1 σ H1 F2 ρ2 σ2 H2->az K F ρ σ H F2 (ul ρ2) σ2 H2/\∀v r,cz K F2 ρ2 σ2 H2 ρ1 σ H1 v r->cz K F2 (ul ρ2) σ2 H2 ρ σ H v r
inductive tIt(K:PySem.W.Frag)(iv:Option Nat)(f:Ev)(σ:L2.St)(H:Hp)(R:It->Hp->Prop):Prop where|mk(F:Hp)(ρ:List Sl)(ds:List D)(ρ1:List Sl)(g:GS K F ρ σ H)(e:srcOf iv f ρ=.ok ds ρ1)(k:∀J F1 H1,Walk K F ρ σ H (aY ρ iv) J ds F1 ρ1 H1->R J H1)
section
variable{K:PySem.W.Frag}{F F1 H H1:Hp}{ρ ρ1:List Sl}{σ:L2.St}{ds:List D}{a:Addr}
theorem BR{xs:List V}{f b:Hp}(g:dN K b a xs)(r:aA K f xs ds)(s:aC f b)(k:Nat):(∀d,ds[k]?=some d->(TX K a).go k b/\∀x j,(TX K a).JC k b x j->∃c,Ext f b c j/\Rep K c x d)/\(ds.length<=k->(TX K a).stop k b):=by refine⟨λd hd=>?_,λh=>⟨xs,g,by rw[r.length];exact h⟩⟩;obtain⟨w,h1,l⟩:=r.get hd;refine⟨⟨xs,w,g,h1⟩,?_⟩;rintro x j⟨e,y⟩;subst e;have:=y xs g;rw[h1]at this;cases this;exact⟨f,.refl s,l⟩
theorem oX{xs:List V}{f b:Hp}(g:dg K b a xs)(r:aA K f xs ds)(s:aC f b)(k:Nat):(∀d,ds[k]?=some d->(Sv K a).go k b/\∀x j,(Sv K a).JC k b x j->∃c,Ext f b c j/\Rep K c x d)/\(ds.length<=k->(Sv K a).stop k b):=by refine⟨λd hd=>?_,λh=>⟨xs,g,by rw[r.length];exact h⟩⟩;obtain⟨w,h1,l⟩:=r.get hd;refine⟨⟨xs,w,g,h1⟩,?_⟩;rintro x j⟨e,y⟩;subst e;have:=y xs g;rw[h1]at this;cases this;exact⟨f,.refl s,l⟩
theorem wO{ul:List Sl->List Sl}{d:D}(s:az K F ρ σ H F1 ρ1 σ H1)(r:Rep K F1 v d)(f:items d=some ds)(fin:∀F2 ρ2 b e,az K F1 ρ1 σ H1 F2 ρ2 b e->az K F ρ σ H F2 (ul ρ2) b e/\∀v r,cz K F2 ρ2 b e ρ1 σ H1 v r->cz K F2 (ul ρ2) b e ρ σ H v r):∃a,v=.ref a/\(((∃xs,dg K H1 a xs)/\Walk K F ρ σ H ul (Sv K a) ds F1 ρ1 H1)\/((∃xs,dN K H1 a xs)/\Walk K F ρ σ H ul (TX K a) ds F1 ρ1 H1)):=by cases d with|tup es=>cases f;rw[Rep]at r;obtain⟨a,xs,rfl,h1,g⟩:=r;exact⟨a,rfl,.inr ⟨⟨xs,aC.eZ s.gs.sub h1⟩,s.gs,λn k l h j o c=>BR (aC.eZ c.gs.sub (aC.eZ c.cu h1)) (g.mono c.cu) c.gs.sub k,fin⟩⟩|lst es=>cases f;rw[Rep]at r;obtain⟨a,xs,rfl,h1,g⟩:=r;exact⟨a,rfl,.inl ⟨⟨xs,s.gs.sub.seq h1⟩,s.gs,λn k l h j o c=>oX (c.gs.sub.seq (c.cu.seq h1)) (g.mono c.cu) c.gs.sub k,fin⟩⟩|_=>cases f
theorem rR{ul:List Sl->List Sl}(g:GS K F ρ1 σ H)(e:ρ1[i]?=some (.lent ds))(fin:∀F2 ρ2 b c,az K F ρ1 σ H F2 ρ2 b c->az K F ρ σ H F2 (ul ρ2) b c/\∀v r,cz K F2 ρ2 b c ρ1 σ H v r->cz K F2 (ul ρ2) b c ρ σ H v r):∃a,σ[i]?=some (some (.ref a))/\(∃xs,dg K H a xs)/\Walk K F ρ σ H ul (Sv K a) ds F ρ1 H:=by obtain⟨a,xs,h1,o,C,E⟩:=g.rC i _ ds e rfl;have h:i<ρ1.length:=(dU e).1;refine⟨a,h1,⟨xs,dg.of o⟩,g,λn k G p q I f=>?_,fin⟩;obtain⟨j,t,u,w⟩:=f.lk i _ (by rw[getElem?_append_left h];exact e) rfl;cases(show t=.lent ds from w);rw[getElem?_append_left (by rw[<-g.len];exact h),h1]at j;obtain⟨J,ys,l,y,L,B⟩:=f.gs.rC i _ ds u rfl;rw[j]at l;cases l;exact oX (dg.of y) B f.gs.sub k
end
section
variable{X:Cx}{c:Call}{n:Nat}{e a b d tg:Expr}{p pa pb pd:P}{pos:Pos}
theorem nR{t t':TI}(h:PI X tg e t)(i:∀σ H R,t' σ H R->t σ H R):PI X tg e t':=λf s σ H R I q=>h f s σ H R I (i σ H R q)
def SI(X:Cx)(c:Call)(tg e:Expr)(p:P):Prop:=PI X tg e (tIt X.K (isVar p) (HH.ev c p))
theorem eY(h:SX X c e p):SI X c tg e p:=by unfold SI;cases hv:isVar p with|none=>refine nR (yZ h.ev) ?_;rintro σ H R⟨F,ρ,ds,ρ1,g,e,k⟩;obtain⟨r,ρ2,G,l⟩:=aa e;have o:=aF l;clear l;obtain⟨l,t⟩:=o;subst t;refine⟨F,ρ,r,_,g,G,λv O Q s u=>?_⟩;obtain⟨F2,s2,_,I⟩:=s.cG u;obtain⟨a,y,B⟩:=wO (ul:=aY ρ none) s2 I l λU J L W s3=>⟨s2.trans s3,λv r u=>u.later s2⟩;exact⟨a,y,B.imp (λ⟨z,w⟩=>⟨z,k _ _ _ w⟩) (λ⟨z,w⟩=>⟨z,k _ _ _ w⟩)⟩|some i=>
   refine nR (yZ (h.var i hv)) ?_;rintro σ H R⟨F,ρ,ds,ρ1,g,e,k⟩;unfold srcOf at e;dsimp only at e;split at e
   . rename_i b d q;have o:=aF e;clear e;obtain⟨l,t⟩:=o;subst t;obtain⟨v,h1,M⟩:=g.val i b d q;have fin:∀F2 ρ2 f j,az X.K F ρ σ H F2 ρ2 f j->az X.K F ρ σ H F2 (aY ρ (some i) ρ2) f j/\∀v r,cz X.K F2 ρ2 f j ρ σ H v r->cz X.K F2 (aY ρ (some i) ρ2) f j ρ σ H v r:=λF2 ρ2 f j s=>by unfold aY;dsimp only;rw[q];exact⟨s,λ_ _ z=>z⟩
     obtain⟨a,y,B⟩:=wO (ul:=aY ρ (some i)) (.refl g) M l fin;exact⟨v,h1,a,y,B.imp (λ⟨z,w⟩=>⟨z,k _ _ _ w⟩) (λ⟨z,w⟩=>⟨z,k _ _ _ w⟩)⟩
   . rename_i b C q;cases e;have N:i<ρ.length:=(dU q).1;have fin:∀F2 ρ2 f j,az X.K F (ρ.set i (.lent ds)) σ H F2 ρ2 f j->az X.K F ρ σ H F2 (aY ρ (some i) ρ2) f j/\∀v r,cz X.K F2 ρ2 f j (ρ.set i (.lent ds)) σ H v r->cz X.K F2 (aY ρ (some i) ρ2) f j ρ σ H v r:=λF2 ρ2 f j s=>by unfold aY;dsimp only;rw[q];exact az.aY g q s
     obtain⟨a,h1,E,w⟩:=rR (ul:=aY ρ (some i)) (g.lend q) (getElem?_set_self N) fin;exact⟨_,h1,a,rfl,.inl ⟨E,k _ _ _ w⟩⟩
   . rename_i C q;cases e;have fin:∀F2 ρ2 f j,az X.K F ρ σ H F2 ρ2 f j->az X.K F ρ σ H F2 (aY ρ (some i) ρ2) f j/\∀v r,cz X.K F2 ρ2 f j ρ σ H v r->cz X.K F2 (aY ρ (some i) ρ2) f j ρ σ H v r:=λF2 ρ2 f j s=>by unfold aY;dsimp only;rw[q];exact⟨s,λ_ _ z=>z⟩
     obtain⟨a,h1,E,w⟩:=rR (ul:=aY ρ (some i)) g q fin;exact⟨_,h1,a,rfl,.inl ⟨E,k _ _ _ w⟩⟩
   .cases e
theorem xx{F1 f:Hp}{ρ1:List Sl}(s:az K F ρ σ H F1 ρ1 σ f)(i j:Int):Walk K F ρ σ H (aY ρ none) (U7 i (j-i).toNat) ((List.range (j-i).toNat).map λ(k:Nat)=>D.int (i+(k:Int))) F1 ρ1 f:=by
 refine⟨s.gs,λn k l o q I t=>⟨λd hd=>?_,λh=>?_⟩,λJ u w L s3=>⟨s.trans s3,λv r y=>y.later s⟩⟩;.rw[getElem?_map]at hd;obtain⟨m,B,C⟩:=map_some hd;obtain⟨h1,g⟩:=dU B;rw[List.getElem_range]at g;subst g;subst C;rw[length_range]at h1;refine⟨h1,?_⟩;rintro x M⟨E,G⟩;subst E;subst G;exact⟨l,.refl t.gs.sub,bW _⟩
 .rw[length_map,length_range]at h;exact h
theorem lX(t:x="range")(u:Gl X x)(w:X.mg x=none)(y:SX X c a pa)(hs:starEach [a] X.env=[(false,eval a X.env)]:=by rfl):SI X c tg (.Call (.Name x p') [a] [] pos) (.xF (.con (.int 0)) pa):=by
 subst t;obtain⟨Q,h1,B⟩:=y.cV;refine nR (sX u w (aX h1 cH hs) hs) ?_;rintro σ H R⟨F,ρ,ds,ρ1,g,e,k⟩;obtain⟨r,ρ2,q,h⟩:=aa e;have l:=aF h;clear h;obtain⟨h,C⟩:=l;subst C;rw[HH.E19]at q;obtain⟨U,E,G,f⟩:=aa q;have l:=aF f;clear f;obtain⟨f,I⟩:=l;subst I;obtain⟨W,J,L,o⟩:=aa G;cases o;obtain⟨i,f1,f⟩:=bZ f;obtain⟨j,f2,f⟩:=bZ f;obtain⟨⟨b1,b2,b3,b4⟩,f⟩:=aU f;have f1:i=0:=by cases f1;rfl
 subst f1;subst f;cases h;cases cL f2;refine B g L λv M N s O=>⟨j,by rw[O.int],by omega,by omega,?_⟩;have:=xx s 0 j;rw[sub_zero]at this;refine k _ M N ?_;rw[sub_zero];exact this
theorem Lr(y:x="range")(B:Gl X x)(C:X.mg x=none)(E:SX X c a pa)(G:SX X c b pb)(hs:starEach [a,b] X.env=[(false,eval a X.env),(false,eval b X.env)]:=by rfl)(h:starEach [b] X.env=[(false,eval b X.env)]:=by rfl):SI X c tg (.Call (.Name x p') [a,b] [] pos) (.xF pa pb):=by subst y;obtain⟨W,Y,h1,I,J⟩:=E.jD G;refine nR (Dk B C (aX h1 (aX I cH h) (by rw[hs,h])) hs h) ?_;rintro σ H R⟨F,ρ,ds,ρ1,g,e,k⟩;obtain⟨r,ρ2,o,l⟩:=aa e;have q:=aF l;clear l;obtain⟨l,L⟩:=q;subst L;rw[HH.E19]at o;obtain⟨Z,M,N,f⟩:=aa o;have q:=aF f;clear f;obtain⟨f,O⟩:=q;subst O;obtain⟨i,f1,f⟩:=bZ f;obtain⟨j,f2,f⟩:=bZ f;obtain⟨⟨b1,b2,b3,b4⟩,f⟩:=aU f;subst f;cases l;refine J g N λv u Q U s t w=>⟨i,j,?_,by omega,k _ Q U (xx s i j)⟩;have o:=cL f1;have l:=cL f2;rw[o]at t;rw[l]at w;rw[t.int,w.int]
end
section
variable{X:Cx}{c:Call}{n:Nat}{e a b d tg iter:Expr}{p pa pb pd:P}{pos:Pos}{body:List Stmt}{ss:List S}
def Hl(K:PySem.W.Frag)(j:List Sl->D->Option (List Sl))(g:TG):Prop:=∀(x:V)(d:D)(F:Hp)(ρ f:List Sl)(σ:L2.St)(H:Hp)(Q:L2.St->Hp->Prop),GS K F ρ σ H->Rep K F x d->j ρ d=some f->(∀h,az K F ρ σ H F f h H->Q h H)->g x σ H Q
theorem uD(i:Nat):Hl K (λρ d=>put ρ i (.val false d)) (fj i):=λx d F ρ f σ H Q g r h k=>k _ (az.put (r:=.val d) (.refl g) r h)
theorem di:∀(is:List Nat)(gs:Eh),(∀(xs:List V)(ds:List D)(F:Hp)(ρ f:List Sl)(σ:L2.St)(H:Hp)(Q:L2.St->Hp->Prop),GS K F ρ σ H->aA K F xs ds->putAll ρ is ds=some f->(∀j,az K F ρ σ H F f j H->Q j H)->gs xs σ H Q)->∀i,∀(xs:List V)(ds:List D)(F:Hp)(ρ f:List Sl)(σ:L2.St)(H:Hp)(Q:L2.St->Hp->Prop),GS K F ρ σ H->aA K F xs ds->putAll ρ (i::is) ds=some f->(∀j,az K F ρ σ H F f j H->Q j H)->Gn (fj i) gs xs σ H Q:=by intro is gs l i xs ds F ρ f σ H Q g r h k;cases ds with|nil=>simp[ju,iJ,mQ,m8]at h|cons d ds=>obtain⟨v,vs,rfl,h1,o⟩:=r.bN;rw[iJ]at h;obtain⟨ρ1,q,t⟩:=bZ h;have s1:=az.put (r:=.val d) (.refl g) h1 q;refine⟨v,vs,rfl,l vs ds F ρ1 f _ H _ s1.gs o t λj s2=>k j (s1.trans s2)⟩
theorem oF:∀(xs:List V)(ds:List D)(F:Hp)(ρ f:List Sl)(σ:L2.St)(H:Hp)(Q:L2.St->Hp->Prop),GS K F ρ σ H->aA K F xs ds->putAll ρ [] ds=some f->(∀j,az K F ρ σ H F f j H->Q j H)->RD xs σ H Q:=by intro xs ds F ρ f σ H Q g r h k;cases ds with|nil=>rw[ju]at h;cases h;exact⟨r.dO,k σ (.refl g)⟩|cons d ds=>simp[ju,iJ,mQ,m8]at h
theorem lA:∀{is:List Nat}{ds:List D}{ρ f:List Sl},putAll ρ is ds=some f->ds.length=is.length|[],[],_,_,_=>rfl|[],_::_,_,_,h=>by simp[ju,iJ,mQ,m8]at h|_::_,[],_,_,h=>by simp[ju,iJ,mQ,m8]at h|i::is,d::ds,ρ,f,h=>by rw[iJ]at h;obtain⟨ρ1,j,g⟩:=bZ h;simp[lA g]
theorem uy{gs:Eh}(q:m=is.length)(h:∀(xs:List V)(ds:List D)(F:Hp)(ρ f:List Sl)(σ:L2.St)(H:Hp)(Q:L2.St->Hp->Prop),GS K F ρ σ H->aA K F xs ds->putAll ρ is ds=some f->(∀l,az K F ρ σ H F f l H->Q l H)->gs xs σ H Q):Hl K (λρ d=>bY ρ is false d) (PN K m gs):=by intro x d F ρ f σ H Q g r j k;replace j:bY ρ is false d=some f:=j;cases d with|tup ds=>replace j:putAll ρ is ds=some f:=j;rw[Rep]at r;obtain⟨a,xs,rfl,h1,o⟩:=r;exact⟨a,xs,rfl,aC.eZ g.sub h1,by rw[o.length,lA j,q],h xs _ F ρ f σ H Q g o j k⟩|_=>cases j
theorem uJ{g:TG}{one:Bool}(hp:PassesOwn (model X.prog X.w) X.A X.env X.xe)(hc:X.calm=true)(hi:SI X c tg iter p)(hg:PG X tg g)(W:Hl X.K (λρ d=>bY ρ is one d) g)(hb:SB X c n body ss)(hs:∀x,foldedSetIterable iter X.env x=pure x:=by intro _;rfl):SS X c n (.For tg iter body [] pos) (.jH p is one ss):=by
 refine fW (IV hp hc hi hg hb hs) ?_;rintro D σ H⟨F,ρ,fl,q,g0,e,k⟩;rw[HH.X13]at e;obtain⟨ds,ρ1,e1,e⟩:=aa e;obtain⟨ac,ρ2,e2,e⟩:=aa e;cases e;refine⟨F,ρ,ds,ρ1,g0,e1,λJ F1 Y w=>?_⟩;have src:∀(i:Nat)(O:Hp)(q:List Sl)(h:L2.St)(j:Hp),az X.K F1 ρ1 σ Y O q h j->(∀d,ds[i]?=some d->J.go i j/\∀x lH,J.JC i j x lH->∃G,Ext O j G lH/\Rep X.K G x d)/\(ds.length<=i->J.stop i j):=λi O q h j s=>w.src 0 i O q h j (by simpa using s);refine⟨λi m o Q=>∃E f,az X.K F1 ρ1 σ Y E f o Q/\m=ds.length-i/\i<=ds.length/\iH is one (gY c n ss) (ds.drop i) f=.ok fl ρ2,⟨_,F1,ρ1,.refl w.gs,rfl,vy,e2⟩,?_⟩;rintro i m o Q⟨E,f,U,rfl,ae,l⟩;obtain⟨s1,s2⟩:=src i E f o Q U;by_cases t:i<ds.length
 . right;have hd:ds[i]?=some ds[i]:=by simp[t]
   obtain⟨go,step⟩:=s1 _ hd;refine⟨go,λh j=>∃m',m'<ds.length-i/\∃E f,az X.K F1 ρ1 σ Y E f h j/\m'=ds.length-(i+1)/\i+1<=ds.length/\iH is one (gY c n ss) (ds.drop (i+1)) f=.ok fl ρ2,λh j z=>z,λx j y=>?_⟩;obtain⟨F2,ext,rx⟩:=step x j y;have I:=U.trans (ext.stp U.gs);rw[drop_eq_getElem_cons t,yN]at l;cases hbd:bY f is one ds[i]with|none=>rw[hbd]at l;cases l|some L=>rw[hbd]at l;obtain⟨M,B,eb,l⟩:=aa l;refine W x _ F2 f L o j _ I.gs rx hbd λaf sb=>?_;have C:=I.trans sb;refine⟨F2,L,M,B,C.gs,eb,λF4 N H4 s4=>?_⟩;have u:=C.trans s4;cases M with|next=>exact⟨_,by omega,F4,B,u,rfl,t,l⟩|cont=>exact⟨_,by omega,F4,B,u,rfl,t,l⟩|brk=>cases l;exact k F4 N H4 (w.fin _ _ _ _ u).1|ret r=>cases l;intro v rr;obtain⟨z1,z2⟩:=w.fin _ _ _ _ u;exact k F4 N H4 z1 v (z2 v r (rr.later C))
 . left;have Z:ds.drop i=[]:=by rw[drop_eq_nil_iff];omega
   rw[Z,Iv]at l;cases l;exact⟨s2 (by omega),k E o Q (w.fin _ _ _ _ U).1⟩
theorem mO(i:Nat):(λ(ρ:List Sl)(d:D)=>bY ρ [i] true d)=λρ d=>put ρ i (.val false d):=by funext ρ d;rfl
theorem J9{f:Pos}(h:PassesOwn (model X.prog X.w) X.A X.env X.xe)(hc:X.calm=true)(j:X.N.Nodup)(g:X.N[i]?=some x)(k:Loc X.env.scope x)(l:SI X c (.Name x f) iter p)(o:SB X c n body ss)(hs:∀x,foldedSetIterable iter X.env x=pure x:=by intro _;rfl)(q:X.fn x=true\/X.env.scope.names.lookup x=some .local:=by first|exact .inl rfl|exact .inr rfl|assumption):SS X c n (.For (.Name x f) iter body [] pos) (.jH p [i] true ss):=uJ h hc l (aR j g k q) (by rw[mO];exact uD i) o hs
theorem yf(J:PassesOwn (model X.prog X.w) X.A X.env X.xe)(ht:ST X c e p)(L:SB X c n body ss):SS X c n (.While e body [] pos) (.whl p ss):=by refine fW (HY J ht L) ?_;rintro D σ H⟨F,ρ,fl,o,g,e,k⟩;rw[HH.X14]at e;refine⟨λm j B=>∃q f,az X.K F ρ σ H q f j B/\o4 (iu (HH.ev c p)) (gY c n ss) m f=.ok fl o,⟨n,F,ρ,.refl g,e⟩,?_⟩;rintro m j B⟨q,f,C,h⟩;cases m with|zero=>rw[Qm]at h;cases h|succ m=>rw[Gu]at h;obtain⟨b,ρ1,M,h⟩:=aa h;refine⟨q,f,b,ρ1,C.gs,M,λF1 O s1=>?_⟩;have s2:=C.trans s1;cases b with|false=>rw[if_neg Bool.false_ne_true]at h;cases h;exact k F1 j O s2|true=>rw[if_pos rfl]at h;obtain⟨t,l,Q,h⟩:=aa h;refine(show ∃N:L2.St->Hp->Prop,_/\_ from⟨λu E=>∃G,G<m+1/\∃q f,az X.K F ρ σ H q f u E/\o4 (iu (HH.ev c p)) (gY c n ss) G f=.ok fl o,λu E z=>z,F1,ρ1,t,l,s2.gs,Q,λF4 y I s4=>?_⟩);have s5:=s2.trans s4;cases t with|next=>exact⟨m,by omega,F4,l,s5,h⟩|cont=>exact⟨m,by omega,F4,l,s5,h⟩|brk=>cases h;exact k F4 y I s5|ret r=>cases h;exact λv U=>k F4 y I s5 v (U.later s2)
end
section
variable{X:Cx}{c:Call}{n:Nat}{e elt tg iter:Expr}{p ps pe:P}{pos:Pos}{scope:Scope}{N':List Str}{ifs:List Expr}
theorem R3{t t':TE}(h:PE X e t)(i:∀σ H Q,σ.length=X.N.length->t' σ H Q->t σ H Q):PE X e t':=λa s σ H Q I q=>h a s σ H Q I (i σ H Q I.len q)
def o9(K:PySem.W.Frag)(m:Nat)(is:List Nat)(one:Bool)(g:TG):Prop:=∀(x:V)(d:D)(F:Hp)(ρ b:List Sl)(σ:L2.St)(H:Hp)(Q:L2.St->Hp->Prop),GS K F ρ σ H->Rep K F x d->bY ρ is one d=some b->(∀a,az K F ρ σ H F b a H->a.take m=σ.take m->Q a H)->g x σ H Q
theorem take_set{b:Type}{l:List b}{a:b}(h:m<=i):(l.set i a).take m=l.take m:=by rw[List.take_set_of_le h]
theorem fM(h:m<=i):o9 K m [i] true (fj i):=λx d F ρ a σ H Q g r b k=>k _ (az.put (r:=.val d) (.refl g) r b) (take_set h)
def Kq(K:PySem.W.Frag)(m:Nat)(is:List Nat)(gs:Eh):Prop:=∀(xs:List V)(ds:List D)(F:Hp)(ρ b:List Sl)(σ:L2.St)(H:Hp)(Q:L2.St->Hp->Prop),GS K F ρ σ H->aA K F xs ds->putAll ρ is ds=some b->(∀a,az K F ρ σ H F b a H->a.take m=σ.take m->Q a H)->gs xs σ H Q
theorem mj{gs:Eh}(f:m<=i)(j:Kq K m is gs):Kq K m (i::is) (Gn (fj i) gs):=by intro xs ds F ρ a σ H Q g r h k;cases ds with|nil=>simp[ju,iJ,mQ,m8]at h|cons d ds=>obtain⟨v,vs,rfl,h1,l⟩:=r.bN;rw[iJ]at h;obtain⟨ρ1,o,q⟩:=bZ h;have s1:=az.put (r:=.val d) (.refl g) h1 o;exact⟨v,vs,rfl,j vs ds F ρ1 a _ H _ s1.gs l q λb s2 z=>k b (s1.trans s2) (z.trans (take_set f))⟩
theorem zZ:Kq K m [] RD:=by intro xs ds F ρ a σ H Q g r h k;cases ds with|nil=>rw[ju]at h;cases h;exact⟨r.dO,k σ (.refl g) rfl⟩|cons d ds=>simp[ju,iJ,mQ,m8]at h
theorem zP{gs:Eh}{l:Nat}(o:l=is.length)(h:Kq K m is gs):o9 K m is false (PN K l gs):=by intro x d F ρ b σ H Q g r f k;cases d with|tup ds=>replace f:putAll ρ is ds=some b:=f;rw[Rep]at r;obtain⟨a,xs,rfl,h1,j⟩:=r;exact⟨a,xs,rfl,aC.eZ g.sub h1,by rw[j.length,lA f,o],h xs _ F ρ b σ H Q g j f k⟩|_=>cases f
def SQ(X:Cx)(c:Call)(ifs:List Expr)(t:Option P):Prop:=QK X ifs (Jt X.K (u6 c t))
theorem iK:SQ X c [] none:=λa s σ H Q I⟨F,ρ,k,ρ',g,e,q⟩=>by rw[u6]at e;cases e;exact Ls a s σ H Q I (q F H (.refl g))
theorem Am(h:ST X c e p):SQ X c [e] (some p):=λa s σ H Q I⟨F,ρ,k,ρ',g,e,q⟩=>by rw[u6]at e;exact Mt h a s σ H Q I ⟨F,ρ,k,ρ',g,e,q⟩
theorem az.wN{F1 g:Hp}{ρ1:List Sl}{f:L2.St}{Da:Addr}{o:HO}(s:az K F ρ σ H F1 ρ1 f g)(h:H Da=none)(l:F1 Da=none)(ho:¬ Own ρ1 f Da):az K F ρ σ H F1 ρ1 f (upd g Da o):=by
 refine⟨⟨λb u e=>?_,s.gs.len,s.gs.val,λi t ds e j=>?_,s.gs.dis⟩,s.cu,s.uV,λb u e n=>?_,s.u9,s.len,s.lk⟩
 . have:b≠Da:=by rintro rfl;rw[l]at e;cases e
   rw[ao this];exact s.gs.sub b u e
 . obtain⟨a,xs,k,q,r,w⟩:=s.gs.own i t ds e j;have:a≠Da:=by rintro rfl;exact ho ⟨i,⟨t,ds,e,j⟩,k⟩
   exact⟨a,xs,k,by rw[ao this];exact q,r,w⟩
 . have:b≠Da:=by rintro rfl;rw[h]at e;cases e
   rw[ao this];exact s.keep b u e n
theorem Ib{ρ1 ρ2:List Sl}{ul:List Sl->List Sl}{ti:TI}{one:Bool}{l:List Sl->Res Bool}{el:Ev}{g:TG}{Q:VK}{xs:List D}(hm:σ.length=m)(af:o9 K m is one g)(ag:∀R:It->Hp->Prop,(∀J F1 N,Walk K F ρ σ H ul J ds F1 ρ1 N->R J N)->ti σ H R)(am:ds.length<=lim)(e2:turns is one l el ds [] (ρ1++replicate n .aP)=.ok xs ρ2)(k:∀v F' H',az K F ρ σ H F' (ul (ρ2.take ρ1.length)) σ H'->cz K F' (ul (ρ2.take ρ1.length)) σ H' ρ σ H v (.own xs)->Q v H'):rO n ti g (Jt K l) (xM K el) σ H Q:=by
 refine ag _ λJ F1 N w Da L=>?_;have ah:ρ1.length=σ.length:=w.gs.len;have gm:=w.gs.more (n:=n) (τ:=replicate n none) (by simp);have fD:F1 Da=none:=by cases q:F1 Da with|none=>rfl|some o=>rw[w.gs.sub Da o q]at L;cases L
 have nO:¬ Own (ρ1++replicate n .aP) (σ++replicate n none) Da:=λ⟨i,⟨t,dt,q1,q2⟩,q3⟩=>by obtain⟨a,ys,z1,z2,_⟩:=gm.own i t dt q1 q2;rw[q3]at z1;cases z1;rw[L]at z2;cases z2
 refine⟨λi mm ys b C=>∃B f j,az K F1 (ρ1++replicate n .aP) (σ++replicate n none) N B f b C/\b.take m=σ/\C Da=some (.lst ys)/\B Da=none/\¬ Own f b Da/\aA K B ys j/\j.length<=i/\mm=ds.length-i/\i<=ds.length/\turns is one l el (ds.drop i) j f=.ok xs ρ2,⟨_,F1,_,[],(az.refl gm).wN L fD nO,by rw[List.take_append_of_le_length (by omega),List.take_of_length_le (by omega)],aD,fD,nO,.nil,vy,rfl,vy,e2⟩,?_⟩;rintro i mm ys b C⟨B,f,j,O,E,U,hF,hO,rs,ap,rfl,ar,h⟩;refine⟨U,?_⟩--what stays of the new list through a step
 have stay:∀{F2 M:Hp}{G:List Sl}{r:L2.St},az K B f b C F2 G r M->M Da=some (.lst ys)/\F2 Da=none/\¬ Own G r Da:=λ{F2 M G r}s=>by
  refine⟨s.keep Da _ U hO,?_,λo=>?_⟩;.cases q:F2 Da with|none=>rfl|some o=>
      rcases s.uV Da hF (by rw[q];simp)with z|z;.exact absurd z hO
      .exact(Hm U z).elim
  . rcases s.u9 Da o with z|z;.exact hO z
    .rw[U]at z;cases z
 obtain⟨s1,s2⟩:=w.src n i B f b C O;by_cases u:i<ds.length
 . right;have hd:ds[i]?=some ds[i]:=by simp[u]
   obtain⟨go,step⟩:=s1 _ hd;refine⟨go,λx M y=>?_⟩;obtain⟨F2,ext,rx⟩:=step x M y;have t2:=ext.stp O.gs;rw[drop_eq_getElem_cons u,GQ]at h;cases hbd:bY f is one ds[i]with|none=>rw[hbd]at h;cases h|some W=>rw[hbd]at h;obtain⟨bb,I,eb,h⟩:=aa h;refine af x _ F2 f W b M _ t2.gs rx hbd λr sb Y=>?_;have t3:=t2.trans sb;refine⟨F2,W,bb,I,t3.gs,eb,λF4 H4 s4=>?_⟩;have Z:=t3.trans s4;cases bb with|false=>rw[if_neg Bool.false_ne_true]at h;obtain⟨y1,y2,y3⟩:=stay Z;exact⟨_,by omega,F4,I,j,O.trans Z,Y.trans E,y1,y2,y3,rs.mono Z.cu,by omega,rfl,u,h⟩|true=>
       rw[if_pos rfl]at h;obtain⟨re,ac,ee,h⟩:=aa h;refine(show xM K el r H4 _ from⟨F4,I,re,ac,Z.gs,ee,λv F5 H5 s5 rr=>?_⟩);obtain⟨F6,s6,_,rp⟩:=s5.cG rr;have t6:=Z.trans s6;obtain⟨y1,y2,y3⟩:=stay t6;have ae:ys.length<sizeLine:=by have h1:=rs.length;have h2:lim=sizeLine:=rfl;omega
       exact⟨y1,ae,_,by omega,F6,ac,j++[re.d],(O.trans t6).wN L y2 y3,Y.trans E,aD,y2,y3,(rs.mono t6.cu).append (.cons rp .nil),by simp;omega,rfl,u,h⟩
 . left;have ai:ds.drop i=[]:=by rw[drop_eq_nil_iff];omega
   rw[ai,Hf]at h;cases h;refine⟨s2 (by omega),?_⟩;obtain⟨l1,l2⟩:=az.less (m:=ρ1.length) rfl w.gs (by simp) O;have hst:b.take ρ1.length=σ:=by rw[ah,hm];exact E
   rw[hst]at l1;have rr:cz K B ρ2 b C (ρ1++replicate n .aP) (σ++replicate n none) N (.ref Da) (.own xs):=⟨Da,ys,rfl,U,hF,rs,hO,.inr L⟩;have O2:=l2 _ _ rr;rw[hst]at O2;obtain⟨z1,z2⟩:=w.fin _ _ _ _ l1;exact k _ B C z1 (z2 _ _ O2)
theorem JZ{iv:Option Nat}{f:Ev}{one:Bool}{b:List Sl->Res Bool}{u:Ev}{g:TG}{Q:VK}{r:R}{j:List Sl}(y:σ.length=m)(q:o9 K m is one g)(B:GS K F ρ σ H)(e:((srcOf iv f ρ).bind λds a=>if ds.length<=lim then(turns is one b u ds [] (a++replicate n .aP)).bind λxs l=>Res.ok (R.own xs) (aY ρ iv (l.take a.length))else .stuck)=.ok r j)(k:∀v w t,az K F ρ σ H w j σ t->cz K w j σ t ρ σ H v r->Q v t):rO n (tIt K iv f) g (Jt K b) (xM K u) σ H Q:=by
 obtain⟨ds,ρ1,C,e⟩:=aa e;split at e;.rename_i o;obtain⟨xs,ρ2,E,e⟩:=aa e;cases e;exact Ib y q (λR h=>⟨F,ρ,ds,ρ1,B,C,h⟩) o E k
 .cases e
theorem gC{g:TG}{one:Bool}{t:Option P}(hc:X.calm=true)(ok:fO X scope N' n)(b:SI X c tg iter ps)(f:∀cl C s₀ H₀ ex,PG (wF X scope N' cl C s₀ H₀ ex) tg g)(a:o9 X.K X.N.length is one g)(ht:∀cl C s₀ H₀ ex,SQ (wF X scope N' cl C s₀ H₀ ex) c ifs t)(he:∀cl C s₀ H₀ ex,SX (wF X scope N' cl C s₀ H₀ ex) c elt pe)(hs:∀x,foldedSetIterable iter X.env x=pure x:=by intro _;rfl):SX X c (.ListComp elt [⟨tg,iter,ifs,0⟩] scope pos) (.comp ps n is one t pe):=by refine⟨R3 (JH (tt:=Jt X.K (u6 c t)) (te:=xM X.K (HH.ev c pe)) hc ok b f ht (λcl C s₀ H₀ ex=>(he cl C s₀ H₀ ex).ev) hs) ?_,λi h=>by cases h⟩;rintro σ H Q j⟨F,ρ,r,l,o,e,k⟩;rw[HH.E18]at e;exact JZ j a o e k
end
section
variable{X:Cx}{c:Call}{n:Nat}{e a b d:Expr}{p pa pb pd:P}{pos:Pos}{es:List Expr}{ps:List P}
noncomputable def tyN:D->String|.non=>"NoneType"|.bl _=>"bool"|.int _=>"int"|.str _=>"str"|.tup _=>"tuple"|.lst _=>"list"|.cX _=>"dict"|.dv _ _=>"dict"
noncomputable def Vn:Ty->String|.none=>"NoneType"|.bool=>"bool"|.int=>"int"|.str=>"str"|.tuple=>"tuple"|.list=>"list"
theorem Xe(K:PySem.W.Frag)(t:Ty)(d:D):PySem.W.kitOne K (.type (tyN d)) (.type (Vn t))=some (cA t d):=by cases t<;>cases d<;>rfl
theorem Xp{k:List (Addr×Obj)}{x:V}{u:Value}{dt:D}(I:L2.Inv X k σ H s)(l:aC F H)(g:cN X.K F H x dt)(f:RelV x u):(∃w,PySem.W.KitX X.K u (.type (tyN dt)) w/\w s.heap)/\u≠.builtin "__main__.__loader__#opaque":=by cases dt with|non=>rw[g.non]at f;cases f;exact⟨⟨_,PySem.W.kitx_none,trivial⟩,nofun⟩|bl y=>rw[g.bl]at f;cases f;exact⟨⟨_,PySem.W.kitx_bool,trivial⟩,nofun⟩|int i=>rw[g.int]at f;obtain⟨t,rfl⟩:=f;exact⟨⟨_,PySem.W.kitx_int,trivial⟩,nofun⟩|str y=>rw[g.str]at f;obtain⟨t,rfl⟩:=f;exact⟨⟨_,PySem.W.kitx_str,trivial⟩,nofun⟩|tup ds=>obtain⟨q,xs,rfl,h,_⟩:=g.tup l;cases f;obtain⟨r,_,⟨o,h1,j,_⟩,_⟩:=I.tuple h;exact⟨⟨_,PySem.W.kitx_tuple,⟨o,h1,j⟩⟩,nofun⟩|lst ds=>obtain⟨q,xs,rfl,h,_⟩:=g.lst l;cases f;obtain⟨r,_,B,_⟩:=I.list h;obtain⟨o,h1,j,_⟩:=B.isList;exact⟨⟨_,PySem.W.kitx_list,⟨o,h1,j⟩⟩,nofun⟩|cX m=>obtain⟨q,_,rfl,h⟩:=g.cX l;cases f;obtain⟨o,h1,j⟩:=Im I h;exact⟨⟨_,kitx_dict,⟨o,h1,j⟩⟩,nofun⟩|dv ks ds=>obtain⟨q,_,vs,rfl,h,_⟩:=g.dv l;cases f;obtain⟨o,h1,j⟩:=G4 I h;exact⟨⟨_,kitx_dict,⟨o,h1,j⟩⟩,nofun⟩
theorem SM(t:Ty):dH X (.builtin "isinstance") (λxs H Q=>∃x F dt,xs=[x,.ty (Vn t)]/\aC F H/\cN X.K F H x dt/\Q (.bl (cA t dt)) H):=by rintro g s σ H xs y Q I r⟨x,F,dt,h,j,k,q⟩;subst h;obtain⟨u,l,rfl,o,rt⟩:=r.two;cases(show l=Value.type (Vn t)from rt);obtain⟨⟨B,Z,hz⟩,f⟩:=Xp I j k o;exact PySem.W.kia_one Z I.SJ hz (Xe _ t dt) f λw=>⟨.bl _,H,I.tok w,rfl,q⟩
theorem Gq:bootBuiltins "isinstance"=some (.builtin "isinstance"):=by decide+kernel
theorem jb{y:Str}{f:Pos}(t:Ty)(w:x="isinstance")(B:Gl X x)(C:X.mg x=none)(E:SX X c a pa)(j:Gl X y)(l:X.mg y=none)(G:bootBuiltins y=some (.type (Vn t)))(o:y≠"__name__":=by decide)(q:(y==("__debug__":Str))=false:=by decide)(hs:starEach [a,.Name y f] X.env=(false,eval a X.env)::starEach [.Name y f] X.env:=by rfl):SX X c (.Call (.Name x p') [a,.Name y f] [] pos) (.inst [t] pa):=by subst w;obtain⟨O,h1,I⟩:=E.cV;refine⟨dZ (eO (SM t) B C Gq (aX h1 (aX (KY (v:=.ty (Vn t)) j l G rfl o q) cH) hs) (he:=hs)) ?_,λi h=>by cases h⟩;rintro σ H Q⟨F,ρ,r,J,g,e,k⟩;rw[HH.E17]at e;obtain⟨dt,ρ1,L,e⟩:=aa e;cases e;refine I g L λv u M s N=>⟨v,u,dt,rfl,s.gs.sub,N,k _ u M s ?_⟩;show Rep X.K u _ _;rw[any_cons,List.any_nil,Bool.or_false];exact fc _
inductive rBn(K:PySem.W.Frag)(f:List D->Option R)(xs:List V)(H:Hp)(Q:VK):Prop where|mk(F:Hp)(ds:List D)(r:R)(sm:aC F H)(rs:aA K F xs ds)(he:f ds=some r)(k:∀v F' H',Ext F H F' H'->cg K F' H' H v r->Q v H')
theorem Xb{E:Expr}{f:List D->Option R}{q:P}(l:∀{t},PA X es t->PE X E (Q0 (rBn X.K f) t))(o:SA X c es ps)(u:∀ρ,HH.ev c q ρ=(evs c ps ρ).bind λds ρ=>lift (f ds) ρ)(y:isVar q=none):SX X c E q:=by refine⟨dZ (l o.1) ?_,λi h=>by rw[y]at h;cases h⟩;rintro σ H Q⟨F,ρ,r,B,g,e,k⟩;rw[u]at e;obtain⟨ds,ρ1,C,j⟩:=aa e;have G:=aF j;clear j;obtain⟨j,I⟩:=G;subst I;exact⟨F,ρ,ds,ρ1,g,C,λvs J O s L=>⟨J,ds,r,s.gs.sub,L,j,λw F2 M x N=>k w F2 M (s.trans (x.stp s.gs)) (.later s (N.pB s.gs))⟩⟩
theorem Vs{xs:List V}{i j:Int}(h:aA K F xs [.int i,.int j]):xs=[.int i,.int j]:=by obtain⟨v,r,rfl,h1,g⟩:=h.bN;obtain⟨u,l,rfl,f,k⟩:=g.bN;rw[Rep]at h1 f;rw[h1,f,k.dO]
theorem inv2{f:YX}{g:Int->Int->Int}{r:R}(h0:blt f []=none)(h1:∀a,blt f [a]=none)(o:∀a b c l,blt f (a::b::c::l)=none)(q:∀a b,cR a=false->blt f [a,b]=none)(t:∀i b,cR b=false->blt f [.int i,b]=none)(u:∀i j,blt f [.int i,.int j]=some (.val (.int (g i j))))(he:blt f ds=some r):∃i j,ds=[.int i,.int j]/\r=.val (.int (g i j)):=by
 rcases ds with _|⟨a,_|⟨b,_|⟨c,l⟩⟩⟩;.rw[h0]at he;cases he
 .rw[h1]at he;cases he
 . by_cases h:cR a=true
   . obtain⟨i,rfl⟩:∃i,a=.int i:=by cases a<;>first|exact⟨_,rfl⟩|cases h
     by_cases k:cR b=true
     . obtain⟨j,rfl⟩:∃j,b=.int j:=by cases b<;>first|exact⟨_,rfl⟩|cases k
       rw[u]at he;cases he;exact⟨i,j,rfl,rfl⟩
     .rw[t i b (by simpa using k)]at he;cases he
   .rw[q a b (by simpa using h)]at he;cases he
 .rw[o]at he;cases he
theorem Qz(hc:X.calm=true):dH X (.builtin "max") (rBn X.K (blt .max2)):=by rintro f s σ H xs o Q I r⟨F,ds,u,q,t,he,k⟩;obtain⟨i,j,rfl,rfl⟩:=inv2 (g:=λi j=>if i<j then j else i) rfl (λa=>by cases a<;>rfl) (λa b c l=>by cases a<;>first|rfl|(cases b<;>rfl)) (λa b h=>by cases a<;>first|rfl|cases h) (λi b h=>by cases b<;>first|rfl|cases h) (λ_ _=>rfl) he;rw[Vs t]at r;exact Dn hc f s σ H _ o Q I r ⟨_,_,rfl,cg.dw q (bW _) k⟩
theorem boot_min:bootBuiltins "min"=some (.builtin "min"):=by decide+kernel
theorem boot_max:bootBuiltins "max"=some (.builtin "max"):=by decide+kernel
theorem JL(f:x="max")(hc:X.calm=true)(g:Gl X x)(j:X.mg x=none)(k:SA X c [a,b] [pa,pb])(hs:starEach [a,b] X.env=(false,eval a X.env)::starEach [b] X.env:=by rfl)(hpl:(backTo pos (starEach [b] X.env)).any (·.1)=false:=by rfl):SX X c (.Call (.Name x p') [a,b] [] pos) (.blt .max2 [pa,pb]):=by subst f;exact Xb (λh=>eO (Qz hc) g j boot_max h (he:=hs) (hpl:=hpl)) k (λρ=>rfl) rfl
end
section
variable{X:Cx}{c:Call}{n:Nat}{e a b d:Expr}{p pa pb pd:P}{pos:Pos}{es:List Expr}{ps:List P}
theorem Bh(g:GS K F ρ σ H)(h:Ef ρ i=some ds):∃a xs,σ[i]?=some (some (V.ref a))/\dg K H a xs:=by
 unfold Ef at h;split at h;.rename_i q;cases h;obtain⟨v,h1,f⟩:=g.pk q;obtain⟨a,xs,rfl,j,_⟩:=f.lst g.sub;exact⟨a,xs,h1,j⟩
 .cases h
theorem uE{k:Nat}{h f:Pos}(I:X.N[k]?=some x)(J:xK X.env.scope x)(L:SX X c b pb)(he:SX X c e p)(M:∀ v,assign (.Subscript (.Name x h) b f) X.env v=(do
  let l<-holding [v] (eval (.Name x h) X.env)let iv<-holding [v,l] (eval b X.env)standAt f
  holding [v,l,iv] (setItem l iv v)release [v,l,iv] []):=by intro _;rfl)(hs:swapsWithSole [.Subscript (.Name x h) b f] e pos.line X.env=pure false:=by rfl)(O:swappedStores [.Subscript (.Name x h) b f] e X.env=pure none:=by rfl)(h1:(assignEach [.Subscript (.Name x h) b f] X.env).map (·.2)=[assign (.Subscript (.Name x h) b f) X.env]:=by rfl)(hd:(x==("__debug__":Str))=false:=by decide)(u:(x==("__classdict__":Str))=false:=by decide):SS X c n (.Assign [.Subscript (.Name x h) b f] e pos) (.DR k pb p):=by
 obtain⟨ti,w,y⟩:=L.cV;refine fW (Ja he.ev (Qw (eV I J hd u) w set_list M) hs O h1) ?_;rintro D σ H⟨F,ρ,fl,Q,g,e,U⟩;rw[HH.X8]at e;obtain⟨r,ρ1,W,e⟩:=aa e;obtain⟨x0,C,t,e⟩:=aa e;have Y:=aF t;clear t;obtain⟨t,Z⟩:=Y;subst Z;obtain⟨dk,ρ2,e2,e⟩:=aa e;refine⟨F,ρ,r,ρ1,g,W,λv F1 H1 s1 rr=>?_⟩;obtain⟨F2,s2,_,rp⟩:=s1.cG rr;obtain⟨o,ho,_⟩:=s2.gs.pk t;refine⟨o,ho,y s2.gs e2 λvi F3 H3 s3 pi=>?_⟩;split at e
 . rename_i bb ds B q;split at e;.rename_i j hj;cases e;obtain⟨ad,xs,E,q2,q3,G⟩:=s3.gs.rC k _ ds q rfl;rw[ho]at E;cases E;refine⟨ad,xs,B,j,rfl,pi.int,q2,by rw[G.length];exact hj,?_⟩;exact U F3 σ _ ((s2.trans s3).trans (s3.gs.mut q ho (G.set (rp.mono s3.cu) j)))
   .cases e
 .cases e
theorem jA{k:Nat}{o h f:Pos}(G:X.N[k]?=some x)(I:xK X.env.scope x)(he:SX X c e p)(j:(h.endLine==f.line)=true:=by rfl)(hs:starEach [e] X.env=(false,eval e X.env)::starEach [] X.env:=by rfl)(l:attributeBase (.Name x o) "append" X.env (eval (.Name x o) X.env)=eval (.Name x o) X.env:=by rfl)(t:((backTo f (starEach [e] X.env)).all (λx=>!x.1)&&(backToKw f (keywordEach [] X.env)).all (λx=>x.1.isSome)&&decide ([e].length+([]:List Keyword).length+(if([]:List Keyword).isEmpty then 0 else 1)<30))=true:=by rfl)(w:swapsWith (.Call (.Attribute (.Name x o) "append" h) [e] [] f) none pos.line X.env=pure false:=by rfl)(hd:(x==("__debug__":Str))=false:=by decide)(y:(x==("__classdict__":Str))=false:=by decide):SS X c n (.Expr (.Call (.Attribute (.Name x o) "append" h) [e] [] f) pos) (.app k p):=by
 refine fW (oV (Gr plainAttrs_list PySem.F.slot_list_append PySem.F.type_list_append jQ (eV G I hd y) (aX he.ev cH hs) l t j hs) w) ?_;rintro D σ H⟨F,ρ,fl,J,g,e,L⟩;rw[HH.X9]at e;obtain⟨d0,M,u,e⟩:=aa e;have O:=aF u;clear u;obtain⟨u,Q⟩:=O;subst Q;obtain⟨r,ρ1,U,e⟩:=aa e;obtain⟨a,xs,h1,W⟩:=Bh g u;refine⟨.ref a,h1,.inl ⟨rfl,xs,W⟩,F,ρ,r,ρ1,g,U,λv F1 H1 s1 Y=>?_⟩;obtain⟨F2,s2,_,Z⟩:=s1.cG Y;split at e
 . rename_i bb ds q;split at e;.rename_i B;cases e;obtain⟨ad,ys,C,q2,q3,E⟩:=s2.gs.rC k _ ds q rfl;rw[h1]at C;cases C;exact⟨_,ys,v,rfl,rfl,q2,by rw[E.length];exact B,L F2 σ _ (s2.trans (s2.gs.mut q h1 (E.append (.cons Z .nil))))⟩
   .cases e
 .cases e
theorem GZ{bs:List Bool}(h:ds.mapM zy=some bs):ds=bs.map D.bl:=by induction ds generalizing bs with|nil=>simp at h;subst h;rfl|cons d ds f=>rw[List.mapM_cons]at h;cases hd:zy d with|none=>rw[hd]at h;cases h|some k=>rw[hd]at h;cases hr:ds.mapM zy with|none=>rw[hr]at h;cases h|some r=>rw[hr]at h;cases h;rw[map_cons,<-f hr,qM hd]
theorem Ay{K:PySem.W.Frag}{F:Hp}:∀{bs:List Bool}{xs:List V},aA K F xs (bs.map D.bl)->xs=bs.map V.bl|[],_,h=>h.dO|k::bs,_,h=>by obtain⟨v,r,rfl,h1,f⟩:=h.bN;rw[Rep]at h1;rw[h1,Ay f];rfl
theorem Ah:∀{bs:List Bool}{f:List Value},Vals (bs.map V.bl) f->f=bs.map Value.bool|[],_,h=>h.zero|k::bs,_,.cons r t=>by rw[map_cons,<-Ah t,show _=_ from r]
theorem K9{id:String}{f:List Bool->Bool}(hc:X.calm=true)(rule:∀{x:Value}{Q:Value->Shared->Prop}{s:Shared},wpAny (model X.prog X.w) X.A.in1 (pyIter x) (λG g=>∃ I J t n P St y,G=.ref I/\Walks X.prog X.w X.A.in1 I J t n P St/\St 0 g.heap/\TruthOf X.prog X.w X.A.in1 P y/\∀h' B,(∀b o,b∉t->g.heap.get? b=some o->h'.get? b=some o)->Q (.bool (f ((List.range n).map y))) {g with heap:=h',toks:=B}) X.xe s->wpAny (model X.prog X.w) X.A (call (.builtin id) [x]) Q X.xe s):dH X (.builtin id) (λxs H Q=>∃p ys bs,xs=[.ref p]/\dg X.K H p ys/\ys=bs.map V.bl/\Q (.bl (f bs)) H):=by
 rintro C s σ H xs us Q I r⟨p,ys,bs,L,M,N,k⟩;subst L;subst N;obtain⟨u,rfl,O⟩:=r.one;cases O;obtain⟨U,W,l,hz⟩:=I.list M;have h:=Ah W;subst h;refine rule (wpAny_pyIter_list l.isList ?_);have q:p≠s.heap.objs.size:=by obtain⟨o,h1,_⟩:=l.isList;exact ne_of_lt (lt_size h1)
 refine⟨s.heap.objs.size,_,_,_,_,_,λi=>bs.getD i false,rfl,Walks.list (prog:=X.prog) (w:=X.w) (A:=X.A.in1) (show X.A.in1.handled=none from I.ok.hd hc) s.heap.objs.size p q (bs.map Value.bool).toArray,⟨⟨_,get?_push_size _ rfl,rfl,rfl⟩,?_⟩,?_,λh' B kp=>?_⟩;.obtain⟨o,h1,E⟩:=l.isList;exact⟨o,du h1,E⟩
 . intro i v s' Q' E' j Y;have Z:v=.bool (bs.getD i false):=by
    have j:(bs.map Value.bool)[i]?=some v:=by simpa using j
    rw[getElem?_map]at j;obtain⟨k',e1,e2⟩:=map_some j;rw[<-e2,List.getD_eq_getElem?_getD,e1];rfl
   subst Z;exact wpAny_truthy_bool Y
 . have e:f ((List.range (bs.map Value.bool).toArray.size).map λi=>bs.getD i false)=f bs:=by
    congr 1;apply List.ext_getElem;.simp
    .intro i h1 E;simp at h1;simp[h1]
   rw[e];exact⟨.bl _,H,I.kept (λb o z=>kp b o (by simp;exact ne_of_lt (lt_size z)) (du z)),rfl,k⟩
theorem Xg(hc:X.calm=true):dH X (.builtin "all") (J8 X.K λx=>blt .all [x]):=by rintro g s σ H xs t Q I r⟨x,u,F,d,w,j,y,he,k⟩;obtain⟨bs,B,he⟩:=map_some (show((zB d).bind λds=>ds.mapM zy).map _=some w from he);subst he;obtain⟨ds,l,C⟩:=bZ B;have E:=GZ C;cases d with|lst es=>cases l;obtain⟨p,ys,rfl,G,o⟩:=y.lst j;rw[E]at o;refine K9 (f:=λbs=>bs.all id) hc (λh=>call_all_walk (wpAny_mono h (λL q⟨I,fp,wr,n,P,Sx,tr,h1,h2,h3,h4,h5⟩=>⟨I,fp,wr,n,P,Sx,tr,h1,h2,h3,h4,λh' J kp=>?_⟩) λ_ _ z=>z)) g s σ H xs t Q I r ⟨p,ys,bs,u,G,Ay o,cg.dw j (fc _) k⟩;have z:=h5 h' J kp;rw[List.all_map]at z;exact z|_=>cases l
theorem boot_all:bootBuiltins "all"=some (.builtin "all"):=by decide+kernel
theorem Hn(f:x="all")(hc:X.calm=true)(g:Gl X x)(j:X.mg x=none)(k:SX X c a pa)(hs:starEach [a] X.env=(false,eval a X.env)::starEach [] X.env:=by rfl):SX X c (.Call (.Name x p') [a] [] pos) (.blt .all [pa]):=by subst f;exact nJ (λh=>eO (Xg hc) g j boot_all h (he:=hs)) k (λρ=>rfl) rfl hs
end
section
variable{K:PySem.W.Frag}
theorem jC:∀{xs ys:List D},xs.length≠ys.length->iW xs ys=false|[],[],h=>absurd rfl h|[],_::_,_=>by simp[lE,iD,qD,qz]|_::_,[],_=>by simp[lE,iD,qD,qz]|x::xs,y::ys,h=>by rw[iD,jC (xs:=xs) (ys:=ys) (by simpa using h),Bool.and_false]
theorem fP:∀{xs ys:List D},xs.length=ys.length->iW xs ys=(List.range xs.length).all λj=>jq (xs.getD j .non) (ys.getD j .non)|[],[],_=>by rw[lE];rfl|[],_::_,h=>by simp at h|_::_,[],h=>by simp at h|x::xs,y::ys,h=>by rw[iD,fP (xs:=xs) (ys:=ys) (by simpa using h),length_cons,List.range_succ_eq_map,all_cons,List.all_map];rfl
mutual
theorem wR:∀d:D,jq d d=true|.non=>rfl|.bl _=>by exact beq_self_eq_true _|.int _=>by exact beq_self_eq_true _|.str _=>by exact beq_self_eq_true _|.tup ds=>by exact jR ds|.lst ds=>by exact jR ds|.cX _=>by exact decide_eq_true rfl|.dv ks ds=>by show(decide (ks=ks)&&iW ds ds)=true;rw[jR ds];simp
theorem jR:∀ds:List D,iW ds ds=true|[]=>by rw[lE]|d::ds=>by rw[iD,wR d,jR ds];rfl
end
theorem eN{d e:D}(b:flat d=true)(h1:Rep K F v d)(a:Rep K F v e):d=e:=by cases d with
 |tup _=>cases b|lst _=>cases b|cX _=>cases b|dv _ _=>cases b|non=>rw[Rep]at h1;subst h1;cases e with|non=>rfl|tup _=>rw[Rep]at a;obtain⟨_,_,q,_⟩:=a;cases q|lst _=>rw[Rep]at a;obtain⟨_,_,q,_⟩:=a;cases q|cX _=>rw[Rep]at a;obtain⟨_,_,q,_⟩:=a;cases q|dv _ _=>rw[Rep]at a;obtain⟨_,_,_,q,_⟩:=a;cases q|_=>rw[Rep]at a;cases a
 |bl k=>rw[Rep]at h1;subst h1;cases e with|bl _=>rw[Rep]at a;cases a;rfl|tup _=>rw[Rep]at a;obtain⟨_,_,q,_⟩:=a;cases q|lst _=>rw[Rep]at a;obtain⟨_,_,q,_⟩:=a;cases q|cX _=>rw[Rep]at a;obtain⟨_,_,q,_⟩:=a;cases q|dv _ _=>rw[Rep]at a;obtain⟨_,_,_,q,_⟩:=a;cases q|_=>rw[Rep]at a;cases a
 |int k=>rw[Rep]at h1;subst h1;cases e with|int _=>rw[Rep]at a;cases a;rfl|tup _=>rw[Rep]at a;obtain⟨_,_,q,_⟩:=a;cases q|lst _=>rw[Rep]at a;obtain⟨_,_,q,_⟩:=a;cases q|cX _=>rw[Rep]at a;obtain⟨_,_,q,_⟩:=a;cases q|dv _ _=>rw[Rep]at a;obtain⟨_,_,_,q,_⟩:=a;cases q|_=>rw[Rep]at a;cases a
 |str k=>rw[Rep]at h1;subst h1;cases e with|str _=>rw[Rep]at a;cases a;rfl|tup _=>rw[Rep]at a;obtain⟨_,_,q,_⟩:=a;cases q|lst _=>rw[Rep]at a;obtain⟨_,_,q,_⟩:=a;cases q|cX _=>rw[Rep]at a;obtain⟨_,_,q,_⟩:=a;cases q|dv _ _=>rw[Rep]at a;obtain⟨_,_,_,q,_⟩:=a;cases q|_=>rw[Rep]at a;cases a
theorem Lp{X:Cx}{w:List (Addr×Obj)}(I:L2.Inv X w σ H s)(g:aC F H):∀n:Nat,(∀d:D,gO n d=true->∀(v:V)(e:D),Rep X.K F v d->Rep X.K F v e->d=e):=by
 have Q:∀{a:Addr}{xs ys:List V},dN X.K F a xs->dg X.K F a ys->False:=λ{a xs ys}h1 b=>by obtain⟨_,_,⟨o,j,l,_⟩,_⟩:=I.tuple (aC.eZ g h1);obtain⟨_,_,y,_⟩:=I.list (g.seq b);obtain⟨G,c,f,_⟩:=y.isList;rw[j]at c;cases c;rw[l]at f;exact absurd f (by decide)
 have U:∀{a:Addr}{kvs:Dc},Rep X.K F (.ref a) (.cX kvs)->∃o,s.heap.get? a=some o/\o.cls=.type "dict":=λ{a kvs}h=>by rw[Rep]at h;obtain⟨B,_,q,J⟩:=h;cases q;exact Im I (g _ _ J)
 have W:∀{a:Addr}{xs:List V}{kvs:Dc},dN X.K F a xs->Rep X.K F (.ref a) (.cX kvs)->False:=λ{a xs kvs}h1 b=>by obtain⟨_,_,⟨o,j,l,_⟩,_⟩:=I.tuple (aC.eZ g h1);obtain⟨G,c,f⟩:=U b;rw[j]at c;cases c;rw[l]at f;exact absurd f (by decide)
 have ld:∀{a:Addr}{xs:List V}{kvs:Dc},dg X.K F a xs->Rep X.K F (.ref a) (.cX kvs)->False:=λ{a xs kvs}h1 b=>by obtain⟨_,_,y,_⟩:=I.list (g.seq h1);obtain⟨o,j,l,_⟩:=y.isList;obtain⟨G,c,f⟩:=U b;rw[j]at c;cases c;rw[l]at f;exact absurd f (by decide)
 have C:∀{a:Addr}{ks:List Int}{es:List D},Rep X.K F (.ref a) (.dv ks es)->∃o,s.heap.get? a=some o/\o.cls=.type "dict":=λ{a ks es}h=>by rw[Rep]at h;obtain⟨B,_,_,q,J,_⟩:=h;cases q;exact G4 I (g _ _ J)
 have L:∀{a:Addr}{xs:List V}{ks:List Int}{es:List D},dN X.K F a xs->Rep X.K F (.ref a) (.dv ks es)->False:=λ{a xs ks es}h1 b=>by obtain⟨_,_,⟨o,j,l,_⟩,_⟩:=I.tuple (aC.eZ g h1);obtain⟨G,c,f⟩:=C b;rw[j]at c;cases c;rw[l]at f;exact absurd f (by decide)
 have M:∀{a:Addr}{xs:List V}{ks:List Int}{es:List D},dg X.K F a xs->Rep X.K F (.ref a) (.dv ks es)->False:=λ{a xs ks es}h1 b=>by obtain⟨_,_,y,_⟩:=I.list (g.seq h1);obtain⟨o,j,l,_⟩:=y.isList;obtain⟨G,c,f⟩:=C b;rw[j]at c;cases c;rw[l]at f;exact absurd f (by decide)
 intro n;induction n with
 |zero=>intro d hd v e h1 b;cases d with|tup _=>simp[bA,bj,bz,bu,bB,bw]at hd|lst _=>simp[bA,bj,bz,bu,bB,bw]at hd|cX _=>simp[bA,bj,bz,bu,bB,bw]at hd|dv _ _=>simp[bA,bj,bz,bu,bB,bw]at hd|non=>exact eN rfl h1 b|bl k=>exact eN rfl h1 b|int k=>exact eN rfl h1 b|str k=>exact eN rfl h1 b
 |succ n Y=>
   have all:∀{xs:List V}{ds es:List D},ds.all (gO n)=true->aA X.K F xs ds->aA X.K F xs es->ds=es:=λ{xs ds}=>by induction ds generalizing xs with|nil=>intro es _ h1 b;rw[h1.dO]at b;have:=b.length;exact(List.eq_nil_of_length_eq_zero this.symm).symm|cons d ds N=>intro es t h1 b;rw[all_cons,and_eq_true]at t;obtain⟨v,r,rfl,j,l⟩:=h1.bN;cases es with|nil=>cases b.dO|cons e es=>obtain⟨v',r',Z,c,f⟩:=b.bN;cases Z;rw[Y d t.1 v e j c,N t.2 l f]
   intro d hd v e h1 b;cases d with
   |cX _=>simp[bA,bj,bz,bu,bB,bw]at hd|dv _ _=>simp[bA,bj,bz,bu,bB,bw]at hd|tup ds=>
     have t:ds.all (gO n)=true:=by simpa[bA,bj,bz,bu,bB,bw]using hd
     rw[Rep]at h1;obtain⟨a,xs,rfl,p,O⟩:=h1;cases e with|tup es=>rw[Rep]at b;obtain⟨B,ys,q,u,E⟩:=b;cases q;have:=I.mY (aC.eZ g p) (aC.eZ g u);subst this;rw[all t O E]|lst es=>rw[Rep]at b;obtain⟨B,ys,q,u,E⟩:=b;cases q;exact(Q p u).elim|cX _=>exact(W p b).elim|dv _ _=>exact(L p b).elim|_=>rw[Rep]at b;cases b
   |lst ds=>
     have t:ds.all (gO n)=true:=by simpa[bA,bj,bz,bu,bB,bw]using hd
     rw[Rep]at h1;obtain⟨a,xs,rfl,p,O⟩:=h1;cases e with|lst es=>rw[Rep]at b;obtain⟨B,ys,q,u,E⟩:=b;cases q;have:=I.ql (g.seq p) (g.seq u);subst this;rw[all t O E]|tup es=>rw[Rep]at b;obtain⟨B,ys,q,u,E⟩:=b;cases q;exact(Q u p).elim|cX _=>exact(ld p b).elim|dv _ _=>exact(M p b).elim|_=>rw[Rep]at b;cases b
   |non=>exact eN rfl h1 b|bl k=>exact eN rfl h1 b|int k=>exact eN rfl h1 b|str k=>exact eN rfl h1 b
theorem Ag{d e:D}{u:V}{c:Value}(hd:flat d=true)(he:flat e=true)(h1:Rep K F v d)(a:Rep K F u e)(r1:RelV v c)(b:RelV u u'):SeqAt.EqAt A s c u' (jq d e):=by cases d with
 |tup _=>cases hd|lst _=>cases hd|cX _=>cases hd|dv _ _=>cases hd|non=>rw[Rep]at h1;subst h1;cases(show c=.none from r1);cases e with|tup _=>cases he|lst _=>cases he|cX _=>cases he|dv _ _=>cases he|non=>rw[Rep]at a;subst a;cases(show u'=.none from b);exact SeqAt.EqAt.same _|bl _=>rw[Rep]at a;subst a;cases(show u'=.bool _ from b);exact none_bool _|int _=>rw[Rep]at a;subst a;obtain⟨t,rfl⟩:=b;exact none_int _ _|str _=>rw[Rep]at a;subst a;obtain⟨t,rfl⟩:=b;exact none_str _ _
 |bl _=>rw[Rep]at h1;subst h1;cases(show c=.bool _ from r1);cases e with|tup _=>cases he|lst _=>cases he|cX _=>cases he|dv _ _=>cases he|non=>rw[Rep]at a;subst a;cases(show u'=.none from b);exact bool_none _|bl _=>rw[Rep]at a;subst a;cases(show u'=.bool _ from b);exact bool_bool _ _|int _=>rw[Rep]at a;subst a;obtain⟨t,rfl⟩:=b;exact bool_int _ _ _|str _=>rw[Rep]at a;subst a;obtain⟨t,rfl⟩:=b;exact bool_str _ _ _
 |int _=>rw[Rep]at h1;subst h1;obtain⟨t0,rfl⟩:=r1;cases e with|tup _=>cases he|lst _=>cases he|cX _=>cases he|dv _ _=>cases he|non=>rw[Rep]at a;subst a;cases(show u'=.none from b);exact int_none _ _|bl _=>rw[Rep]at a;subst a;cases(show u'=.bool _ from b);exact int_bool _ _ _|int _=>rw[Rep]at a;subst a;obtain⟨t,rfl⟩:=b;exact int_int _ _ _ _|str _=>rw[Rep]at a;subst a;obtain⟨t,rfl⟩:=b;exact int_str _ _ _ _
 |str _=>rw[Rep]at h1;subst h1;obtain⟨t0,rfl⟩:=r1;cases e with|tup _=>cases he|lst _=>cases he|cX _=>cases he|dv _ _=>cases he|non=>rw[Rep]at a;subst a;cases(show u'=.none from b);exact str_none _ _|bl _=>rw[Rep]at a;subst a;cases(show u'=.bool _ from b);exact str_bool _ _ _|int _=>rw[Rep]at a;subst a;obtain⟨t,rfl⟩:=b;exact str_int _ _ _ _|str _=>rw[Rep]at a;subst a;obtain⟨t,rfl⟩:=b;exact str_str _ _ _ _
theorem lK{e:D}{u:V}{a:Addr}{g:Array Value}(ht:s.heap.IsTuple a g)(b:A.units<cLine)(he:flat e=true)(c:Rep K F u e)(f:RelV u u'):SeqAt.EqAt A s (.ref a) u' (jq (.tup ds) e)/\SeqAt.EqAt A s u' (.ref a) (jq e (.tup ds)):=by cases e with|tup _=>cases he|lst _=>cases he|cX _=>cases he|dv _ _=>cases he|non=>rw[Rep]at c;subst c;cases(show u'=.none from f);exact⟨SeqAt.EqAt.tuple_none ht b,SeqAt.EqAt.none_tuple ht b⟩|bl _=>rw[Rep]at c;subst c;cases(show u'=.bool _ from f);exact⟨SeqAt.EqAt.tuple_bool _ ht b,SeqAt.EqAt.bool_tuple _ ht b⟩|int _=>rw[Rep]at c;subst c;obtain⟨t,rfl⟩:=f;exact⟨SeqAt.EqAt.tuple_int _ _ ht b,SeqAt.EqAt.int_tuple _ _ ht b⟩|str _=>rw[Rep]at c;subst c;obtain⟨t,rfl⟩:=f;exact⟨SeqAt.EqAt.tuple_str _ _ ht b,SeqAt.EqAt.str_tuple _ _ ht b⟩
theorem lZ{e:D}{u:V}{a:Addr}{g:Array Value}(ht:s.heap.IsList a g)(b:A.units<cLine)(he:flat e=true)(c:Rep K F u e)(f:RelV u u'):SeqAt.EqAt A s (.ref a) u' (jq (.lst ds) e)/\SeqAt.EqAt A s u' (.ref a) (jq e (.lst ds)):=by cases e with|tup _=>cases he|lst _=>cases he|cX _=>cases he|dv _ _=>cases he|non=>rw[Rep]at c;subst c;cases(show u'=.none from f);exact⟨SeqAt.EqAt.list_none ht b,SeqAt.EqAt.none_list ht b⟩|bl _=>rw[Rep]at c;subst c;cases(show u'=.bool _ from f);exact⟨SeqAt.EqAt.list_bool _ ht b,SeqAt.EqAt.bool_list _ ht b⟩|int _=>rw[Rep]at c;subst c;obtain⟨t,rfl⟩:=f;exact⟨SeqAt.EqAt.list_int _ _ ht b,SeqAt.EqAt.int_list _ _ ht b⟩|str _=>rw[Rep]at c;subst c;obtain⟨t,rfl⟩:=f;exact⟨SeqAt.EqAt.list_str _ _ ht b,SeqAt.EqAt.str_list _ _ ht b⟩
theorem vZ{n:Nat}{d:D}(h:gO n d=true)(h0:n=0):flat d=true:=by subst h0;cases d<;>first|rfl|simp[bA,bj,bz,bu,bB,bw]at h
theorem abG{X:Cx}{M:List (Addr×Obj)}(I:L2.Inv X M σ H s)(w:aC F H):∀(n:Nat)(A:Around),A.units+n<cLine->∀(d e:D),gO n d=true->gO n e=true->∀(v u:V)(N u':Value),Rep X.K F v d->Rep X.K F u e->RelV v N->RelV u u'->SeqAt.EqAt A s N u' (jq d e):=by intro n;induction n with|zero=>intro A hu d e hd he v u N u' h1 f r1 g;exact Ag (vZ hd rfl) (vZ he rfl) h1 f r1 g|succ n ih=>
   intro A hu d e hd he v u N u' h1 f r1 g;have c:A.units<cLine:=by omega
   have U:A.in1.units+n<cLine:=by show A.units+1+n<cLine;omega--items by place
   have O:∀{xs ys:List V}{t ws:List Value}{ds es:List D}{j:Nat}(G:j<t.toArray.size)(J:j<ws.toArray.size),ds.all (gO n)=true->es.all (gO n)=true->Vals xs t->Vals ys ws->aA X.K F xs ds->aA X.K F ys es->SeqAt.EqAt A.in1 s t.toArray[j] ws.toArray[j] (jq (ds.getD j .non) (es.getD j .non)):=λ{xs ys t ws ds es j}G J a1 a2 L l h k=>by
    have G:j<t.length:=by simpa using G
    have J:j<ws.length:=by simpa using J
    have B:j<ds.length:=by rw[<-h.length,L.length];exact G
    have l2:j<es.length:=by rw[<-k.length,l.length];exact J
    obtain⟨x,g1,g2⟩:=h.get (show ds[j]?=some ds[j]by simp[B]);obtain⟨y,g3,g4⟩:=k.get (show es[j]?=some es[j]by simp[l2]);obtain⟨x',g5,g6⟩:=L.get g1;obtain⟨y',g7,g8⟩:=l.get g3;have e1:t.toArray[j]=x':=by have:=(dU g5).2;simpa using this
    have e2:ws.toArray[j]=y':=by have:=(dU g7).2;simpa using this
    have e3:ds.getD j .non=ds[j]:=by simp[getD,B]
    have e4:es.getD j .non=es[j]:=by simp[getD,l2]
    rw[e1,e2,e3,e4];exact ih A.in1 U _ _ (all_eq_true.mp a1 _ (getElem_mem B)) (all_eq_true.mp a2 _ (getElem_mem l2)) x y x' y' g2 g4 g6 g8--the same object
   have same:∀{a:Addr},v=.ref a->u=.ref a->SeqAt.EqAt A s N u' (jq d e):=λ{a}q1 q2=>by subst q1;subst q2;have:=Lp I w (n+1) d hd _ e h1 f;subst this;rw[wR];cases r1;cases g;exact SeqAt.EqAt.same _
   cases d with
   |cX _=>simp[bA,bj,bz,bu,bB,bw]at hd|dv _ _=>simp[bA,bj,bz,bu,bB,bw]at hd|tup ds=>
     have W:ds.all (gO n)=true:=by simpa[bA,bj,bz,bu,bB,bw]using hd
     have o:=h1;rw[Rep]at o;obtain⟨a,xs,rfl,Y,Q⟩:=o;cases r1;obtain⟨t,L,h,_⟩:=I.tuple (aC.eZ w Y)
     cases e with|cX _=>simp[bA,bj,bz,bu,bB,bw]at he|dv _ _=>simp[bA,bj,bz,bu,bB,bw]at he|tup es=>
       have Z:es.all (gO n)=true:=by simpa[bA,bj,bz,bu,bB,bw]using he
       have p:=f;rw[Rep]at p;obtain⟨b,ys,rfl,q,C⟩:=p;by_cases r:a=b;.subst r;exact same rfl rfl
       . cases g;obtain⟨ws,l,k,_⟩:=I.tuple (aC.eZ w q);refine .of_refs r ?_;have z:=SeqAt.RcAt.tuples (A:=A) (e:=λj=>jq (ds.getD j .non) (es.getD j .non)) h k c λj G J=>O G J W Z L l Q C;have B:t.toArray.size=ds.length:=by rw[size_toArray,<-L.length,Q.length]
         have l2:ws.toArray.size=es.length:=by rw[size_toArray,<-l.length,C.length]
         rw[B,l2]at z;have e0:jq (.tup ds) (.tup es)=((List.range (min ds.length es.length)).all (λj=>jq (ds.getD j .non) (es.getD j .non))&&ds.length==es.length):=by
          rw[pqt];by_cases E:ds.length=es.length;.rw[fP E,E];simp
          . rw[jC E];have:(ds.length==es.length)=false:=by simpa using E
            rw[this,Bool.and_false]
         rw[e0];exact z|lst es=>rw[Rep]at f;obtain⟨b,ys,rfl,q,C⟩:=f;cases g;obtain⟨ws,l,k,_⟩:=I.list (w.seq q);exact SeqAt.EqAt.tuple_list h k.isList c|non=>exact(lK h c rfl f g).1|bl _=>exact(lK h c rfl f g).1|int _=>exact(lK h c rfl f g).1|str _=>exact(lK h c rfl f g).1
   |lst ds=>
     have W:ds.all (gO n)=true:=by simpa[bA,bj,bz,bu,bB,bw]using hd
     have o:=h1;rw[Rep]at o
     obtain⟨a,xs,rfl,Y,Q⟩:=o;cases r1;obtain⟨t,L,h,_⟩:=I.list (w.seq Y);cases e with|cX _=>simp[bA,bj,bz,bu,bB,bw]at he|dv _ _=>simp[bA,bj,bz,bu,bB,bw]at he|lst es=>
       have Z:es.all (gO n)=true:=by simpa[bA,bj,bz,bu,bB,bw]using he
       have p:=f;rw[Rep]at p;obtain⟨b,ys,rfl,q,C⟩:=p;by_cases r:a=b;.subst r;exact same rfl rfl
       . cases g;obtain⟨ws,l,k,_⟩:=I.list (w.seq q);refine .of_refs r ?_;have B:t.toArray.size=ds.length:=by rw[size_toArray,<-L.length,Q.length]
         have l2:ws.toArray.size=es.length:=by rw[size_toArray,<-l.length,C.length]
         rw[YZ];by_cases E:ds.length=es.length;.have z:=SeqAt.RcAt.lists (A:=A) (e:=λj=>jq (ds.getD j .non) (es.getD j .non)) h.isList k.isList (by rw[B,l2,E]) c λj G J=>O G J W Z L l Q C;rw[B]at z;rw[fP E];exact z
         .rw[jC E];exact lists_lengths h.isList k.isList (by rw[B,l2];simpa using E) c|tup es=>rw[Rep]at f;obtain⟨b,ys,rfl,q,C⟩:=f;cases g;obtain⟨ws,l,k,_⟩:=I.tuple (aC.eZ w q);exact SeqAt.EqAt.list_tuple h.isList k c|non=>exact(lZ h.isList c rfl f g).1|bl _=>exact(lZ h.isList c rfl f g).1|int _=>exact(lZ h.isList c rfl f g).1|str _=>exact(lZ h.isList c rfl f g).1
   |non|bl _|int _|str _=>cases e with|cX _=>simp[bA,bj,bz,bu,bB,bw]at he|dv _ _=>simp[bA,bj,bz,bu,bB,bw]at he|tup es=>rw[Rep]at f;obtain⟨b,ys,rfl,q,C⟩:=f;cases g;obtain⟨ws,l,k,_⟩:=I.tuple (aC.eZ w q);exact(lK k c rfl h1 r1).2|lst es=>rw[Rep]at f;obtain⟨b,ys,rfl,q,C⟩:=f;cases g;obtain⟨ws,l,k,_⟩:=I.list (w.seq q);exact(lZ k.isList c rfl h1 r1).2|_=>exact Ag rfl rfl h1 f r1 g
end
section
variable{X:Cx}{pins:List (Addr×Obj)}{σ:L2.St}{H F:Hp}{s:Shared}{A:Around}
abbrev RC(A:Around)(s:Shared)(v u:Value)(k:Bool):Prop:=SeqAt.RcAt A s v u k/\SeqAt.RcNeAt A s v u (!k)
inductive Top(X:Cx)(F H:Hp)(s:Shared):Value->D->Prop where|non:Top X F H s .none .non|bl(b:Bool):Top X F H s (.bool b) (.bl b)|int(i:Int)(t:Tok):Top X F H s (.int i t) (.int i)|str(x:Str)(t:Tok):Top X F H s (.str x t) (.str x)|tup{a:Addr}{us:List Value}{xs:List V}{ds:List D}(ht:s.heap.IsTuple a us.toArray)(hv:Vals xs us)(hr:aA X.K F xs ds):Top X F H s (.ref a) (.tup ds)|lst{a:Addr}{us:List Value}{xs:List V}{ds:List D}(ht:s.heap.IsList a us.toArray)(hv:Vals xs us)(hr:aA X.K F xs ds):Top X F H s (.ref a) (.lst ds)
theorem uT(I:L2.Inv X pins σ H s)(g:aC F H){j:Value}{d:D}(hd:gO 8 d=true)(h:cN X.K F H v d)(r:RelV v j):Top X F H s j d:=by cases d with|cX _=>simp[bA,bj,bz,bu,bB,bw]at hd|dv _ _=>simp[bA,bj,bz,bu,bB,bw]at hd|non=>rw[h.non]at r;cases r;exact .non|bl b=>rw[h.bl]at r;cases r;exact .bl b|int i=>rw[h.int]at r;obtain⟨t,rfl⟩:=r;exact .int i t|str x=>rw[h.str]at r;obtain⟨t,rfl⟩:=r;exact .str x t|tup ds=>obtain⟨a,xs,rfl,h1,c,_⟩:=h.tup g;cases r;obtain⟨k,e,f,_⟩:=I.tuple h1;exact .tup f e c|lst ds=>obtain⟨a,xs,rfl,h1,c⟩:=h.lst g;cases r;obtain⟨k,e,f,_⟩:=I.list h1;exact .lst f.isList e c
theorem Wi(I:L2.Inv X pins σ H s)(Y:aC F H){n:Nat}(hu:A.units+(n+1)<cLine){d e:D}(hd:gO (n+1) d=true)(he:gO (n+1) e=true){L:Value}(h1:Top X F H s L d)(w:Top X F H s u' e):RC A s L u' (jq d e):=by
 have c:A.units<cLine:=by omega
 have J:A.in1.units+n<cLine:=by show A.units+1+n<cLine;omega
 have r:∀{xs ys:List V}{q ws:List Value}{ds es:List D}{j:Nat}(k:j<q.toArray.size)(l:j<ws.toArray.size),ds.all (gO n)=true->es.all (gO n)=true->Vals xs q->Vals ys ws->aA X.K F xs ds->aA X.K F ys es->SeqAt.EqAt A.in1 s q.toArray[j] ws.toArray[j] (jq (ds.getD j .non) (es.getD j .non)):=λ{xs ys q ws ds es j}k l Z a2 M N O Q=>by
  have k:j<q.length:=by simpa using k
  have l:j<ws.length:=by simpa using l
  have o:j<ds.length:=by rw[<-O.length,M.length];exact k
  have l2:j<es.length:=by rw[<-Q.length,N.length];exact l
  obtain⟨x,g1,g2⟩:=O.get (show ds[j]?=some ds[j]by simp[o]);obtain⟨y,g3,g4⟩:=Q.get (show es[j]?=some es[j]by simp[l2]);obtain⟨U,g5,g6⟩:=M.get g1;obtain⟨W,g7,g8⟩:=N.get g3;have e1:q.toArray[j]=U:=by have:=(dU g5).2;simpa using this
  have e2:ws.toArray[j]=W:=by have:=(dU g7).2;simpa using this
  have e3:ds.getD j .non=ds[j]:=by simp[getD,o]
  have e4:es.getD j .non=es[j]:=by simp[getD,l2]
  rw[e1,e2,e3,e4];exact abG I Y n A.in1 J _ _ (all_eq_true.mp Z _ (getElem_mem o)) (all_eq_true.mp a2 _ (getElem_mem l2)) x y U W g2 g4 g6 g8
 cases h1 with
 |non=>cases w with|non=>exact⟨SeqAt.RcAt.none_none,SeqAt.RcNeAt.none_none⟩|bl b=>exact⟨SeqAt.RcAt.none_bool _,SeqAt.RcNeAt.none_bool _⟩|int i t=>exact⟨SeqAt.RcAt.none_int _ _,SeqAt.RcNeAt.none_int _ _⟩|str i t=>exact⟨SeqAt.RcAt.none_str _ _,SeqAt.RcNeAt.none_str _ _⟩|tup ht _ _=>exact⟨SeqAt.RcAt.none_tuple ht c,SeqAt.RcNeAt.none_tuple ht c⟩|lst ht _ _=>exact⟨SeqAt.RcAt.none_list ht c,SeqAt.RcNeAt.none_list ht c⟩
 |bl b0=>cases w with|non=>exact⟨SeqAt.RcAt.bool_none _,SeqAt.RcNeAt.bool_none _⟩|bl b=>exact⟨SeqAt.RcAt.bool_bool _ _,SeqAt.RcNeAt.bool_bool _ _⟩|int i t=>exact⟨SeqAt.RcAt.bool_int _ _ _,SeqAt.RcNeAt.bool_int _ _ _⟩|str i t=>exact⟨SeqAt.RcAt.bool_str _ _ _,SeqAt.RcNeAt.bool_str _ _ _⟩|tup ht _ _=>exact⟨SeqAt.RcAt.bool_tuple _ ht c,SeqAt.RcNeAt.bool_tuple _ ht c⟩|lst ht _ _=>exact⟨SeqAt.RcAt.bool_list _ ht c,SeqAt.RcNeAt.bool_list _ ht c⟩
 |int i0 t0=>cases w with|non=>exact⟨SeqAt.RcAt.int_none _ _,SeqAt.RcNeAt.int_none _ _⟩|bl b=>exact⟨SeqAt.RcAt.int_bool _ _ _,SeqAt.RcNeAt.int_bool _ _ _⟩|int i t=>exact⟨SeqAt.RcAt.int_int _ _ _ _,SeqAt.RcNeAt.int_int _ _ _ _⟩|str i t=>exact⟨SeqAt.RcAt.int_str _ _ _ _,SeqAt.RcNeAt.int_str _ _ _ _⟩|tup ht _ _=>exact⟨SeqAt.RcAt.int_tuple _ _ ht c,SeqAt.RcNeAt.int_tuple _ _ ht c⟩|lst ht _ _=>exact⟨SeqAt.RcAt.int_list _ _ ht c,int_list _ _ ht c⟩
 |str i0 t0=>cases w with|non=>exact⟨SeqAt.RcAt.str_none _ _,SeqAt.RcNeAt.str_none _ _⟩|bl b=>exact⟨SeqAt.RcAt.str_bool _ _ _,SeqAt.RcNeAt.str_bool _ _ _⟩|int i t=>exact⟨SeqAt.RcAt.str_int _ _ _ _,SeqAt.RcNeAt.str_int _ _ _ _⟩|str i t=>exact⟨SeqAt.RcAt.str_str _ _ _ _,SeqAt.RcNeAt.str_str _ _ _ _⟩|tup ht _ _=>exact⟨SeqAt.RcAt.str_tuple _ _ ht c,SeqAt.RcNeAt.str_tuple _ _ ht c⟩|lst ht _ _=>exact⟨SeqAt.RcAt.str_list _ _ ht c,str_list _ _ ht c⟩
 |@tup a q xs ds ht u hr=>
   have B:ds.all (gO n)=true:=by simpa[bA,bj,bz,bu,bB,bw]using hd
   cases w with|non=>exact⟨SeqAt.RcAt.tuple_none ht c,SeqAt.RcNeAt.tuple_none ht c⟩|bl b=>exact⟨SeqAt.RcAt.tuple_bool _ ht c,SeqAt.RcNeAt.tuple_bool _ ht c⟩|int i t=>exact⟨SeqAt.RcAt.tuple_int _ _ ht c,SeqAt.RcNeAt.tuple_int _ _ ht c⟩|str i t=>exact⟨SeqAt.RcAt.tuple_str _ _ ht c,SeqAt.RcNeAt.tuple_str _ _ ht c⟩|lst h _ _=>exact⟨SeqAt.RcAt.tuple_list ht h c,SeqAt.RcNeAt.tuple_list ht h c⟩|@tup b ws ys es h f g=>
     have C:es.all (gO n)=true:=by simpa[bA,bj,bz,bu,bB,bw]using he
     have o:q.toArray.size=ds.length:=by rw[size_toArray,<-u.length,hr.length]
     have l2:ws.toArray.size=es.length:=by rw[size_toArray,<-f.length,g.length]
     have E:=SeqAt.RcAt.tuples (A:=A) (e:=λj=>jq (ds.getD j .non) (es.getD j .non)) ht h c λj k l=>r k l B C u f hr g;have G:=SeqAt.RcNeAt.tuples (A:=A) (e:=λj=>jq (ds.getD j .non) (es.getD j .non)) ht h c λj k l=>r k l B C u f hr g;rw[o,l2]at E G;have e0:jq (.tup ds) (.tup es)=((List.range (min ds.length es.length)).all (λj=>jq (ds.getD j .non) (es.getD j .non))&&ds.length==es.length):=by
      rw[pqt];by_cases p:ds.length=es.length;.rw[fP p,p];simp
      . rw[jC p];have:(ds.length==es.length)=false:=by simpa using p
        rw[this,Bool.and_false]
     rw[e0];exact⟨E,G⟩
 |@lst a q xs ds ht u hr=>
   have B:ds.all (gO n)=true:=by simpa[bA,bj,bz,bu,bB,bw]using hd
   cases w with|non=>exact⟨SeqAt.RcAt.list_none ht c,SeqAt.RcNeAt.list_none ht c⟩|bl b=>exact⟨SeqAt.RcAt.list_bool _ ht c,SeqAt.RcNeAt.list_bool _ ht c⟩|int i t=>exact⟨SeqAt.RcAt.list_int _ _ ht c,list_int _ _ ht c⟩|str i t=>exact⟨SeqAt.RcAt.list_str _ _ ht c,list_str _ _ ht c⟩|tup h _ _=>exact⟨SeqAt.RcAt.list_tuple ht h c,SeqAt.RcNeAt.list_tuple ht h c⟩|@lst b ws ys es h f g=>
     have C:es.all (gO n)=true:=by simpa[bA,bj,bz,bu,bB,bw]using he
     have o:q.toArray.size=ds.length:=by rw[size_toArray,<-u.length,hr.length]
     have l2:ws.toArray.size=es.length:=by rw[size_toArray,<-f.length,g.length]
     rw[YZ];by_cases p:ds.length=es.length;.have E:=SeqAt.RcAt.lists (A:=A) (e:=λj=>jq (ds.getD j .non) (es.getD j .non)) ht h (by rw[o,l2,p]) c λj k l=>r k l B C u f hr g;have G:=SeqAt.RcNeAt.lists (A:=A) (e:=λj=>jq (ds.getD j .non) (es.getD j .non)) ht h (by rw[o,l2,p]) c λj k l=>r k l B C u f hr g;rw[o]at E G;rw[fP p];exact⟨E,G⟩
     .rw[jC p];exact⟨lists_lengths ht h (by rw[o,l2];simpa using p) c,SeqAt.RcNeAt.lists_lengths ht h (by rw[o,l2];simpa using p) c⟩
theorem jx(c:X.A.units+8<cLine):gk X (compareOp .Eq) (rD X.K (uZ .eq)):=by rintro pins s σ H x y v u Q I f g⟨F,d,e,r,a,h,j,he,k⟩;obtain⟨t,b,l⟩:=map_some (show(G7 d e).map _=some r from he);subst l;unfold G7 at b;obtain⟨hd,b⟩:=aU b;rw[and_eq_true]at hd;subst b;exact(Wi I a (n:=7) c hd.1 hd.2 (uT I a hd.1 h f) (uT I a hd.2 j g)).1 _ _ _ _ ⟨.bl _,H,I,rfl,cg.dw a (fc _) k⟩
theorem m5(c:X.A.units+8<cLine):gk X (compareOp .NotEq) (rD X.K (uZ .ne)):=by rintro pins s σ H x y v u Q I f g⟨F,d,e,r,a,h,j,he,k⟩;obtain⟨t,b,l⟩:=map_some (show(Gd d e).map _=some r from he);subst l;unfold Gd at b;obtain⟨hd,b⟩:=aU b;rw[and_eq_true]at hd;subst b;exact(Wi I a (n:=7) c hd.1 hd.2 (uT I a hd.1 h f) (uT I a hd.2 j g)).2 _ _ _ _ ⟨.bl _,H,I,rfl,cg.dw a (fc _) k⟩
end
section
variable{Pg:Program}{w:World}{K:PySem.W.Frag}{mg:Str->Option Value}{base:Heap}
theorem W4{qual:Str}{st:Stmt}{f:Addr}{fd:FuncData}{N ps:List Str}{k n:Nat}{c:Call}{d:Fd}(C:jO K x qual st f fd)(S:aK N ps (aB st))(h1:d.np=ps.length)(t:d.nn=N.length)(G:∀(cdv:Value)(A:Around)(outer:List Env)(s:Shared)(H:Hp)(E:XK),iU k (A.deeper (envOfC qual (aB st) s.heap.objs.size f cdv))->SB (yG IK Pg w K mg base N qual (aB st) f cdv A outer s H E).WW c n (fG st) d.body):m6 Pg w K mg base IK (k+1) f fd ps (De K ps.length (λargs=>enter c n d args)):=by
 refine C.ok S (λvs H Q E h=>h.1) λcdv A outer s H vs Q E hr h=>?_;obtain⟨u,F,args,r,o,g,e,q⟩:=h;refine⟨_,G cdv A outer s H E hr,?_⟩;replace e:enter c n d args=.ok r o:=e;unfold enter at e;split at e
 . rename_i hc;obtain⟨c1,c2⟩:=hc;have I:=g.more (n:=d.nn-d.np) (τ:=replicate (N.length-vs.length) none) (by simp[h1,t,u]);have p:args.length=d.np:=c1;have go:∀{fl:Fl}{a:List Sl},gY c n d.body (args++replicate (d.nn-d.np) .aP)=.ok fl a->(∀l b j,az K F (args++replicate (d.nn-d.np) .aP) (start N vs) H l a b j->(match fl with|.next=>Q .non j|.brk=>False|.cont=>False|.ret r=>∀v,cz K l a b j (args++replicate (d.nn-d.np) .aP) (start N vs) H v r->Q v j))->Zt K (gY c n d.body) {nx:=λ_ j=>Q .non j,rt:=Q} (start N vs) H:=λ{fl a}z k=>⟨F,_,fl,a,I,z,λl b j s=>by have:=k l b j s;cases fl<;>exact this⟩;split at e;.rename_i a z;cases e;refine go z λl b j s=>?_;obtain⟨y,B⟩:=az.less (m:=d.np) p.symm g (by simp[h1,t,u]) s;exact q .non l _ j y (show Rep K l _ _ from Qh)
   .rename_i L a z;cases e;refine go z λl b j s v J=>?_;obtain⟨y,B⟩:=az.less (m:=d.np) p.symm g (by simp[h1,t,u]) s;exact q v l _ j y (B v r J)
   .split at e<;>cases e
 .cases e
structure aV(Pg:Program)(w:World)(K:PySem.W.Frag)(mg:Str->Option Value)(base:Heap)(k:Nat)(c:Call)(i:Nat)(x:Str)(np:Nat):Prop where ex:∃fa fd qs,m6 Pg w K mg base IK k fa fd qs (De K qs.length (c i))/\mg x=some (.ref fa)/\keepIn K (.ref fa)=true/\Binds K fd qs []/\qs.length=np
end
section
variable{X:Cx}{c:Call}{n k:Nat}{e a b:Expr}{es:List Expr}{p pa pb:P}{ps:List P}{pos:Pos}
theorem sv(i:Nat)(g:X.N[i]?=some x:=by rfl)(h:xK X.env.scope x:=by first|exact Or.inl rfl|exact Or.inr (Or.inl rfl)|exact Or.inr (Or.inr rfl))(hd:(x==("__debug__":Str))=false:=by rfl)(f:(x==("__classdict__":Str))=false:=by rfl):SX X c (.Name x pos) (.var i):=RX g h hd f
theorem gh{np:Nat}(C:aV X.prog X.w X.K X.mg X.base k c i x np)(hr:iU k X.A)(h:SG X c (e::es) ps)(j:Gl X x:=by rfl)(l:(e::es).length=np:=by rfl)(f:(x==("__debug__":Str))=false:=by rfl)(he:starEach (e::es) X.env=(false,eval e X.env)::starEach es X.env:=by rfl)(hpl:(backTo pos (starEach es X.env)).any (·.1)=false:=by rfl)(g:ps.length=(e::es).length:=by rfl):SX X c (.Call (.Name x p') (e::es) [] pos) (.call i ps):=by obtain⟨u,fd,y,h1,o,q,r,t⟩:=C.ex;exact K8 h1 hr j o q r h (l.trans t.symm) f he hpl g
noncomputable def Ny(names outer:List (Str×NameKind))(N N':List Str)(n:Nat):Bool:=(names.all λy=>names.lookup y.1==some y.2)&&(names.all λy=>y.2!=.local||names.lookup y.1==some .local)&&(names.all λy=>y.2!=.free||outer.lookup y.1==some .cell||outer.lookup y.1==some .free)&&N'.length==N.length+n&&((N.zip N').all λp=>(p.1==p.2&&names.lookup p.2==some .free)||(names.lookup p.2!=some .local&&names.lookup p.2!=some .cell&&names.lookup p.2!=some .free))
theorem KD{scope:Scope}{N':List Str}(g:scope.kind=.function)(h:Ny scope.names X.env.scope.names X.N N' n=true):fO X scope N' n:=by
 unfold Ny at h;simp only[and_eq_true]at h;obtain⟨⟨⟨⟨h1,j⟩,l⟩,o⟩,q⟩:=h;refine⟨g,λy f=>eq_of_beq (all_eq_true.mp h1 y f),λy f e=>?_,λy f e=>?_,by simpa using o,q⟩;.have:=all_eq_true.mp j y f;rw[e]at this;simpa using this
 . have:=all_eq_true.mp l y f;rw[e]at this;simp only[or_eq_true]at this;rcases this with(z|z)|z;.cases z
   .exact .inl (eq_of_beq z)
   .exact .inr (eq_of_beq z)
theorem bh(h:iU k A):A.units+8<cLine:=by have:=h.un;omega
end
end HH
end
section
namespace PySem
open AutoSeq1(wpAny_loadPart')
section
variable{prog:Program}{w:World}{A:Around}{E:Value->Shared->Prop}{s:Shared}
theorem lY{b l:Addr}{i:Nat}{items:Array Value}{x:Value}{Q:Value->Shared->Prop}(a:s.heap.IsTupleIter b l i)(f:s.heap.IsTuple l items)(g:items[i]?=some x)(h:∀h',h'.IsTupleIter b l (i+1)->SameBut b s.heap h'->Q x {s with heap:=h'}):wpAny (model prog w) A (nextOf (.ref b)) Q E s:=by obtain⟨o,ho,hc,hd⟩:=id a;obtain⟨j,c,_,k,e⟩:=f;unfold nextOf;refine wpAny_bind (wpAny_callSpecial?_slot (name:=Str.ofString "__next__") a.typeIs F.slot_tuple_iterator_next (wpAny_call_entry F.slot_tuple_iterator_next a.typeIs F.entry_tuple_iterator_next ?_ (F.args_tuple_iterator_next_1 _)));show wpAny _ _ (field (.ref b) 0>>=_) _ _ s;refine wpAny_bind (wpAny_field ho hd (x:=.ref l) rfl ?_);show wpAny _ _ (if(Value.ref l==Value.none)=true then _ else _) _ _ s;rw[if_neg (show ¬((Value.ref l==Value.none)=true)from Bool.false_ne_true)];show wpAny _ _ (field (.ref b) 1>>=_) _ _ s;refine wpAny_bind (wpAny_field ho hd (x:=.int i 0) rfl ?_);show wpAny _ _ (seqItems? (.ref l)>>=_) _ _ s;refine wpAny_bind (wpAny_seqItems c e ?_);simp only[toNat_natCast,g];refine wpAny_bind (wpAny_setField ho hd (by simp) (wpAny_pure ⟨x,rfl,wpAny_pure (h _ ?_ (Heap.SameBut.update ..))⟩));exact⟨_,get?_update_self _ ho (Obj.isFreed_of_fields (Obj.data_mapFields hd _)),(Obj.cls_mapFields ..).trans hc,by rw[Obj.data_mapFields hd];simp[rawInt]⟩
theorem gZ{c l:Addr}{i:Nat}{items:Array Value}{Q:Value->Shared->Prop}(h:A.handled=none)(b:s.heap.IsTupleIter c l i)(j:s.heap.IsTuple l items)(k:items[i]?=none)(n:∀h' e,Heap.ExtBut c s.heap h'->(∃o,h'.get? e=some o/\o.cls=.type "StopIteration")->E (.ref e) {s with heap:=h'}):wpAny (model prog w) A (nextOf (.ref c)) Q E s:=by
 obtain⟨o,ho,hc,hd⟩:=id b;obtain⟨p,f,_,q,g⟩:=j;unfold nextOf;refine wpAny_bind (wpAny_callSpecial?_slot (name:=Str.ofString "__next__") b.typeIs F.slot_tuple_iterator_next (wpAny_call_entry F.slot_tuple_iterator_next b.typeIs F.entry_tuple_iterator_next ?_ (F.args_tuple_iterator_next_1 _)));show wpAny _ _ (field (.ref c) 0>>=_) _ _ s;refine wpAny_bind (wpAny_field ho hd (x:=.ref l) rfl ?_);show wpAny _ _ (if(Value.ref l==Value.none)=true then _ else _) _ _ s;rw[if_neg (show ¬((Value.ref l==Value.none)=true)from Bool.false_ne_true)];show wpAny _ _ (field (.ref c) 1>>=_) _ _ s;refine wpAny_bind (wpAny_field ho hd (x:=.int i 0) rfl ?_);show wpAny _ _ (seqItems? (.ref l)>>=_) _ _ s;refine wpAny_bind (wpAny_seqItems f g ?_);simp only[toNat_natCast,k];refine wpAny_bind (wpAny_rule (wpAny_bind (wpAny_setField ho hd (by simp) ?_)));show wpAny _ _ (newExc (.type "StopIteration") []>>=_) _ _ _;refine wpAny_bind ?_;simp only[newExc,newTuple];refine wpAny_bind (wpAny_newObj_type ?_ (by size_fits));refine wpAny_bind (m:=firstArgMember _ _) (wpAny_of_eq (a:=Value.none) (by first|rfl|(simp only[firstArgMember];rfl)) ?_);refine wpAny_newObj_type ?_ (by size_fits);simp only[raiseNew];refine wpAny_bind (wpAny_handled ?_);first|rw[show A.in1.handled=none from h]|rw[h]
 refine wpAny_bind (wpAny_pure (wpAny_throw ?_));exact n _ _ (((Heap.SameBut.update ..).extBut.push _).push _) ⟨_,get?_push_size _ rfl,rfl⟩
end
theorem jF(l:Addr)(items:Array Value)(n:Nat)(b:Option Addr)(sl:Array (Option Value)):Meets (Builtin.«enumerate.__new__» ⟨[.type "enumerate",.ref l],[]⟩) (λ_ R s=>s.heap.get? l=some {cls:=.type "tuple",dict:=b,data:=.seq items n,slots:=sl}/\R (.ok (.ret (.ref (s.heap.push {cls:=.type "tuple_iterator",data:=.fields #[.ref l,.int 0 0]}).objs.size))) {s with heap:=(s.heap.push {cls:=.type "tuple_iterator",data:=.fields #[.ref l,.int 0 0]}).push {cls:=.type "enumerate",data:=.fields #[.none,.bool false,.ref s.heap.objs.size,rawInt 0,.none,.none]}}):=.of_wp λprog w A R s h=>by
  obtain⟨i,g,d,j,os⟩:=s;obtain⟨a,h⟩:=h;have f:=sub_enumerate;have e:Heap.IsTuple (Shared.heap ⟨i,g,d,j,os⟩) l items:=⟨_,a,rfl,n,rfl⟩;wp_walk using wpAny_loadPart' a;refine wpAny_stack_any λst=>wpAny_pure ?_;split
  . rename_i c _ _ _ _ _;cases(c==Value.type "enumerate");.wp_walk using wpAny_loadPart' a,wpAny_pyIter_tuple e;exact⟨_,rfl,h⟩
    .wp_walk using wpAny_loadPart' a,wpAny_pyIter_tuple e;exact⟨_,rfl,h⟩
  .wp_walk using wpAny_loadPart' a,wpAny_pyIter_tuple e;exact⟨_,rfl,h⟩
section
variable{prog:Program}{w:World}{A:Around}{E:Value->Shared->Prop}{s:Shared}
theorem jg{l:Addr}{items:Array Value}{Q:Value->Shared->Prop}(e:s.heap.IsTuple l items)(h:∀ h',IsEnum h' (s.heap.objs.size+1) s.heap.objs.size 0 .none->h'.IsTupleIter s.heap.objs.size l 0->h'.objs.size=s.heap.objs.size+2->(∀b o,s.heap.get? b=some o->h'.get? b=some o)->Q (.ref (s.heap.objs.size+1)) {s with heap:=h'}):wpAny (model prog w) A (call (.type "enumerate") [.ref l]) Q E s:=by
 obtain⟨⟨c,a,dt,sl⟩,f,hc,n,hd⟩:=e;replace hc:c=.type "tuple":=hc;replace hd:dt=.seq items n:=hd;subst hc hd;refine callType_new F.called_enumerate (by decide) (F.typeCall_enumerate_1 _) (F.newCall_enumerate_1 _) (λobj=>F.args_object_init_2 obj _) F.entry_enumerate_new (jF l items n a sl) ⟨f,?_⟩;have hz:(s.heap.push {cls:=.type "tuple_iterator",data:=.fields #[.ref l,.int 0 0]}).objs.size=s.heap.objs.size+1:=size_push ..;show _/\_;rw[hz];have he:IsEnum ((s.heap.push {cls:=.type "tuple_iterator",data:=.fields #[.ref l,.int 0 0]}).push {cls:=.type "enumerate",data:=.fields #[.none,.bool false,.ref s.heap.objs.size,rawInt 0,.none,.none]}) (s.heap.objs.size+1) s.heap.objs.size 0 .none:=by have:=get?_push_size (s.heap.push {cls:=.type "tuple_iterator",data:=.fields #[.ref l,.int 0 0]}) (o:={cls:=.type "enumerate",data:=.fields #[.none,.bool false,.ref s.heap.objs.size,rawInt 0,.none,.none]}) rfl;rw[hz]at this;exact this
 refine⟨⟨_,he,rfl⟩,h _ he ⟨_,du (get?_push_size _ rfl),rfl,rfl⟩ (by rw[size_push,hz]) λb o x=>du (du x)⟩
end
end PySem
end
section
namespace L2
open PySem PySem.Spec PyProof.Rows
variable{prog:Program}{w:World}{A:Around}
section
variable{X:Cx}{pins:List (Addr×Obj)}{σ:L2.St}{H:Hp}{s:Shared}
theorem Inv.GK{ch:List Addr}{h':Heap}{o:HO}{t':Nat}(I:Inv X pins σ H s)(k:∀b u,b∉ch->s.heap.get? b=some u->h'.get? b=some u)(l:∀b∈ch,∃u,h'.get? b=some u)(g:∀b∈ch,ou X pins H b)(i:bI X.prog X.w (upd H s.heap.objs.size o) h' s.heap.objs.size o):Inv X pins σ (upd H s.heap.objs.size o) {s with heap:=h',toks:=t'}:=by
 have fr:H s.heap.objs.size=none:=I.hok.fresh (cQ);have j:∀b u,H b=some u->b∉ch:=λb u e a=>by rw[(g b a).1]at e;cases e
 have h:∀b u,H b=some u->upd H s.heap.objs.size o b=some u:=λb u e=>by
  have:b≠s.heap.objs.size:=by rintro rfl;rw[fr]at e;cases e
  rw[ao this];exact e
 refine I.call (g':=s.gens) (d':=s.drawn) (ch:=ch) ⟨λb u e n _ f=>k b u f e,λb u e n _ f=>⟨u.slots,k b u f e⟩,λb u e n f=>?_,λb u e f=>⟨u,k b u f e⟩,λb xs e=>h b _ e,λb m u e=>h b _ e,λb ps e=>⟨#[],by rw[h b _ e];simp⟩⟩ ?_ I.bare λb a=>⟨(g b a).2.2.2.1,(g b a).2.1,(g b a).2.2.2.2.1,(g b a).2.2.2.2.2⟩;.have:b≠s.heap.objs.size:=ne_of_lt (lt_size e);rw[ao this];exact n
 . intro b u e;by_cases a:b=s.heap.objs.size;.subst a;rw[aD]at e;cases e;exact i
   . rw[ao a]at e;refine(I.hok b u e).stay (λc v hc q=>k c v ?_ q) (λc q=>h c _ q) λc xs q=>h c _ q;rcases hc with rfl|hc;.exact j _ _ e
     .exact j _ _ hc
end
noncomputable def yU(K:PySem.W.Frag)(a:Addr):It:=⟨λi H=>∃xs x,dg K H a xs/\xs[i]?=some x,λi H x b=>∃T v,H T=none/\x=.ref T/\b=upd H T (.tup [.int (i:Int),v])/\∀xs,dg K H a xs->xs[i]?=some v,λi H=>∃xs,dg K H a xs/\xs.length<=i⟩
theorem O9(j:A.handled=none)(a l:Addr)(e:l≠a)(items:Array Value):Draws prog w A a [a,l] items.size (λi v=>items[i]?=some v) (λi h=>h.IsListIter a l i/\h.IsList l items)where
 live:=λ_ _ st=>let⟨o,ho,_⟩:=st.1;⟨o,ho⟩;frame:=λ_ _ _ st f=>⟨(let⟨o,ho,r⟩:=st.1;⟨o,f a (by simp) o ho,r⟩),(let⟨o,ho,r⟩:=st.2;⟨o,f l (by simp) o ho,r⟩)⟩;item:=λi s Q E g st k=>by refine wpAny_nextOf_list_item st.1 st.2 (x:=items[i]) (by simp[g]) λh' b c=>?_;exact k _ h' s.toks (by simp[g]) ⟨b,(let⟨o,ho,r⟩:=st.2;⟨o,c.extBut l o e ho,r⟩)⟩ c
 done:=λs Q E st m=>wpAny_nextOf_list_end j st.1 st.2 (by simp) m
theorem CT(c:A.handled=none)(a l:Addr)(items:Array Value)(n:Nat)(e:items.size<=n):Draws prog w A a [a,l] n (λ_ _=>True) (λi h=>i=n/\h.IsListIter a l i/\h.IsList l items)where live:=λ_ _ st=>let⟨o,ho,_⟩:=st.2.1;⟨o,ho⟩;frame:=λ_ _ _ st b=>⟨st.1,(let⟨o,ho,r⟩:=st.2.1;⟨o,b a (by simp) o ho,r⟩),(let⟨o,ho,r⟩:=st.2.2;⟨o,b l (by simp) o ho,r⟩)⟩;item:=λi s Q E f st j=>absurd st.1 (ne_of_lt f);done:=λs Q E st g=>wpAny_nextOf_list_end c st.2.1 st.2.2 (by simp;exact e) g
theorem Di{P:Program}{K:PySem.W.Frag}{t:List Expr}{x1}{tp:Pos}(a c e:Addr)(n:e≠c):Turn P w K (.Tuple t x1 tp) (yU K a) [e,c] e (λi h=>(∃j,IsEnum h e c (i:Int) j)/\h.IsListIter c a i)where
 mem:=by simp
 obj:=λi h st b hb=>by
  obtain⟨⟨j,h1⟩,o,l,J,h4⟩:=st;rcases mem_cons.mp hb with rfl|hb;.exact⟨_,h1,λv z=>by cases z⟩
  . have:b=c:=by simpa using hb
    subst this;exact⟨o,l,λv z=>by rw[h4]at z;cases z⟩
 keep:=λi h h' st k=>by obtain⟨⟨j,h1⟩,o,l,J⟩:=st;exact⟨⟨j,k e (by simp) _ h1⟩,o,k c (by simp) _ l,J⟩
 item:=λX hP hw hK hc i B s σ H E I L st go=>by
  subst hP hw hK;obtain⟨⟨j,he⟩,m⟩:=st;obtain⟨xs,x,M,C⟩:=go;obtain⟨g,N,pl,hz⟩:=I.list M;have O:s.heap.IsList a g.toArray:=pl.isList;obtain⟨oa,U,p,_⟩:=id O;have ac:e≠a:=by rintro rfl;rw[he]at U;cases U;exact absurd (show Value.type "enumerate"=Value.type _ from p) (by decide)
  have ae:a≠c:=by rintro rfl;obtain⟨o,l,J,_⟩:=id m;rw[l]at U;cases U;rw[J]at p;exact absurd p (by decide)
  have af:i<g.toArray.size:=by rw[size_toArray,<-N.length];exact(dU C).1
  refine wpAny_pyNext_enum_itemD (O9 (show X.A.in1.handled=none from I.ok.hd hc) c a ae g.toArray) he ⟨m,O⟩ af n (by simp[n,ac]) λy h' tk Y ag hst ht hsz kp=>?_;refine⟨_,rfl,wpAny_letOwnedTupleGo_enum ag λG Jh Z=>?_⟩;obtain⟨u,ah,ai⟩:=N.get C;have am:y=u:=by
   have Y:g[i]?=some y:=by simpa using Y
   rw[ah]at Y;cases Y;rfl
  subst am;have hT:∀b∈[e,c],b≠s.heap.objs.size:=λb hb=>by
   rcases mem_cons.mp hb with rfl|hb;.exact ne_of_lt (lt_size he)
   . have:b=c:=by simpa using hb
     subst this;obtain⟨o,l,_⟩:=id m;exact ne_of_lt (lt_size l)
  have ap:s.heap.objs.size≠e:=(hT e (by simp)).symm;have ar:∀b o,b∉[e,c]->s.heap.get? b=some o->G.get? b=some o:=λb o hb q=>by have h1:b≠e:=λz=>hb (by simp[z]);have l:b≠c:=λz=>hb (by simp[z]);exact Z.extBut b o h1 (kp b o h1 l q)
  have qY:G.get? s.heap.objs.size=some {cls:=.type "tuple",data:=.seq #[.int i tk,y]}:=Z.extBut _ _ ap ht;refine⟨.ref s.heap.objs.size,upd H s.heap.objs.size (.tup [.int (i:Int),x]),?_,rfl,⟨_,x,I.fresh,rfl,rfl,λys av=>?_⟩,⟨⟨_,Jh⟩,?_⟩,λb hb=>?_⟩
  . refine I.GK (ch:=[e,c]) (t':=tk+1) ar (λb hb=>?_) (λb hb=>(L b hb)) ⟨(by show 2<=sizeLine;decide),[.int i tk,y],.cons ⟨_,rfl⟩ (.cons ai .nil),⟨_,qY,rfl,_,rfl⟩⟩;rcases mem_cons.mp hb with rfl|hb;.exact⟨_,Jh⟩
    . have:b=c:=by simpa using hb
      subst this;obtain⟨o,l,_⟩:=id hst.1;exact⟨o,Z.extBut _ _ (Ne.symm n) l⟩
  .rw[I.ql av M];exact C
  .obtain⟨o,l,r⟩:=hst.1;exact⟨o,Z.extBut _ _ (Ne.symm n) l,r⟩
  .rw[ao (hT b hb)];exact(L b hb).1
 done:=λX hP hw hK hc i B s σ H E I L st stop=>by subst hP hw hK;obtain⟨⟨j,he⟩,m⟩:=st;obtain⟨xs,M,C⟩:=stop;obtain⟨g,N,pl,hz⟩:=I.list M;have O:s.heap.IsList a g.toArray:=pl.isList;refine wpAny_pyNext_enum_endD (CT (show X.A.in1.handled=none from I.ok.hd hc) c a g.toArray i (by rw[size_toArray,<-N.length];exact C)) he ⟨rfl,m,O⟩ λh' hs=>⟨rfl,?_⟩;have f:=L c (by simp);exact I.turned (t':=s.toks) (λb o hb q=>hs b o hb q) f.1 f.2.1 f.2.2.2.1 f.2.2.2.2.1 f.2.2.2.2.2
 self:=λA i s Q E st q=>wpAny_pyIter_enum st.1.choose_spec q
noncomputable def yK(K:PySem.W.Frag)(a:Addr):It:=⟨λi H=>∃xs x,dN K H a xs/\xs[i]?=some x,λi H x b=>∃T v,H T=none/\x=.ref T/\b=upd H T (.tup [.int (i:Int),v])/\∀xs,dN K H a xs->xs[i]?=some v,λi H=>∃xs,dN K H a xs/\xs.length<=i⟩
theorem Pq(j:A.handled=none)(a l:Addr)(e:l≠a)(items:Array Value):Draws prog w A a [a,l] items.size (λi v=>items[i]?=some v) (λi h=>h.IsTupleIter a l i/\h.IsTuple l items)where
 live:=λ_ _ st=>let⟨o,ho,_⟩:=st.1;⟨o,ho⟩;frame:=λ_ _ _ st f=>⟨(let⟨o,ho,r⟩:=st.1;⟨o,f a (by simp) o ho,r⟩),(let⟨o,ho,r⟩:=st.2;⟨o,f l (by simp) o ho,r⟩)⟩;item:=λi s Q E g st k=>by refine lY st.1 st.2 (x:=items[i]) (by simp[g]) λh' b c=>?_;exact k _ h' s.toks (by simp[g]) ⟨b,(let⟨o,ho,r⟩:=st.2;⟨o,c.extBut l o e ho,r⟩)⟩ c
 done:=λs Q E st m=>gZ j st.1 st.2 (by simp) m
theorem DP(c:A.handled=none)(a l:Addr)(items:Array Value)(n:Nat)(e:items.size<=n):Draws prog w A a [a,l] n (λ_ _=>True) (λi h=>i=n/\h.IsTupleIter a l i/\h.IsTuple l items)where live:=λ_ _ st=>let⟨o,ho,_⟩:=st.2.1;⟨o,ho⟩;frame:=λ_ _ _ st b=>⟨st.1,(let⟨o,ho,r⟩:=st.2.1;⟨o,b a (by simp) o ho,r⟩),(let⟨o,ho,r⟩:=st.2.2;⟨o,b l (by simp) o ho,r⟩)⟩;item:=λi s Q E f st j=>absurd st.1 (ne_of_lt f);done:=λs Q E st g=>gZ c st.2.1 st.2.2 (by simp;exact e) g
theorem Dh{P:Program}{K:PySem.W.Frag}{t:List Expr}{x1}{tp:Pos}(a c e:Addr)(n:e≠c):Turn P w K (.Tuple t x1 tp) (yK K a) [e,c] e (λi h=>(∃j,IsEnum h e c (i:Int) j)/\h.IsTupleIter c a i)where
 mem:=by simp
 obj:=λi h st b hb=>by
  obtain⟨⟨j,h1⟩,o,l,J,h4⟩:=st;rcases mem_cons.mp hb with rfl|hb;.exact⟨_,h1,λv z=>by cases z⟩
  . have:b=c:=by simpa using hb
    subst this;exact⟨o,l,λv z=>by rw[h4]at z;cases z⟩
 keep:=λi h h' st k=>by obtain⟨⟨j,h1⟩,o,l,J⟩:=st;exact⟨⟨j,k e (by simp) _ h1⟩,o,k c (by simp) _ l,J⟩
 item:=λX hP hw hK hc i B s σ H E I L st go=>by
  subst hP hw hK;obtain⟨⟨j,he⟩,m⟩:=st;obtain⟨xs,x,M,C⟩:=go;obtain⟨g,N,pl,hz⟩:=I.tuple M;have O:s.heap.IsTuple a g.toArray:=pl;obtain⟨oa,U,p,_⟩:=id O;have ac:e≠a:=by rintro rfl;rw[he]at U;cases U;exact absurd (show Value.type "enumerate"=Value.type _ from p) (by decide)
  have ae:a≠c:=by rintro rfl;obtain⟨o,l,J,_⟩:=id m;rw[l]at U;cases U;rw[J]at p;exact absurd p (by decide)
  have af:i<g.toArray.size:=by rw[size_toArray,<-N.length];exact(dU C).1
  refine wpAny_pyNext_enum_itemD (Pq (show X.A.in1.handled=none from I.ok.hd hc) c a ae g.toArray) he ⟨m,O⟩ af n (by simp[n,ac]) λy h' tk Y ag hst ht hsz kp=>?_;refine⟨_,rfl,wpAny_letOwnedTupleGo_enum ag λG Jh Z=>?_⟩;obtain⟨u,ah,ai⟩:=N.get C;have am:y=u:=by
   have Y:g[i]?=some y:=by simpa using Y
   rw[ah]at Y;cases Y;rfl
  subst am;have hT:∀b∈[e,c],b≠s.heap.objs.size:=λb hb=>by
   rcases mem_cons.mp hb with rfl|hb;.exact ne_of_lt (lt_size he)
   . have:b=c:=by simpa using hb
     subst this;obtain⟨o,l,_⟩:=id m;exact ne_of_lt (lt_size l)
  have ap:s.heap.objs.size≠e:=(hT e (by simp)).symm;have ar:∀b o,b∉[e,c]->s.heap.get? b=some o->G.get? b=some o:=λb o hb q=>by have h1:b≠e:=λz=>hb (by simp[z]);have l:b≠c:=λz=>hb (by simp[z]);exact Z.extBut b o h1 (kp b o h1 l q)
  have qY:G.get? s.heap.objs.size=some {cls:=.type "tuple",data:=.seq #[.int i tk,y]}:=Z.extBut _ _ ap ht;refine⟨.ref s.heap.objs.size,upd H s.heap.objs.size (.tup [.int (i:Int),x]),?_,rfl,⟨_,x,I.fresh,rfl,rfl,λys av=>?_⟩,⟨⟨_,Jh⟩,?_⟩,λb hb=>?_⟩
  . refine I.GK (ch:=[e,c]) (t':=tk+1) ar (λb hb=>?_) (λb hb=>(L b hb)) ⟨(by show 2<=sizeLine;decide),[.int i tk,y],.cons ⟨_,rfl⟩ (.cons ai .nil),⟨_,qY,rfl,_,rfl⟩⟩;rcases mem_cons.mp hb with rfl|hb;.exact⟨_,Jh⟩
    . have:b=c:=by simpa using hb
      subst this;obtain⟨o,l,_⟩:=id hst.1;exact⟨o,Z.extBut _ _ (Ne.symm n) l⟩
  .rw[I.mY av M];exact C
  .obtain⟨o,l,r⟩:=hst.1;exact⟨o,Z.extBut _ _ (Ne.symm n) l,r⟩
  .rw[ao (hT b hb)];exact(L b hb).1
 done:=λX hP hw hK hc i B s σ H E I L st stop=>by subst hP hw hK;obtain⟨⟨j,he⟩,m⟩:=st;obtain⟨xs,M,C⟩:=stop;obtain⟨g,N,pl,hz⟩:=I.tuple M;have O:s.heap.IsTuple a g.toArray:=pl;refine wpAny_pyNext_enum_endD (DP (show X.A.in1.handled=none from I.ok.hd hc) c a g.toArray i (by rw[size_toArray,<-N.length];exact C)) he ⟨rfl,m,O⟩ λh' hs=>⟨rfl,?_⟩;have f:=L c (by simp);exact I.turned (t':=s.toks) (λb o hb q=>hs b o hb q) f.1 f.2.1 f.2.2.2.1 f.2.2.2.2.1 f.2.2.2.2.2
 self:=λA i s Q E st q=>wpAny_pyIter_enum st.1.choose_spec q
section
variable{X:Cx}{elts:List Expr}{x1:Nat}{tp:Pos}
def abM(K:PySem.W.Frag)(c:TE):TI:=λσ H R=>c σ H λx b=>∃a,x=.ref a/\(((∃xs,dg K b a xs)/\R (yU K a) b)\/((∃xs,dN K b a xs)/\R (yK K a) b))
theorem boot_enumerate:bootBuiltins "enumerate"=some (.type "enumerate"):=by decide+kernel
theorem Sq{a:Expr}{v:TE}{p pos:Pos}(y:Gl X "enumerate")(B:X.mg "enumerate"=none)(C:PE X a v)(hs:starEach [a] X.env=[(false,eval a X.env)]:=by rfl):PI X (.Tuple elts x1 tp) (.Call (.Name "enumerate" p) [a] [] pos) (abM X.K v):=by
 intro e s σ H R I h;refine Call_ (jh I y B boot_enumerate (PyProof.Rows.callWith_type1 (bV ((aX C cH hs) pos e s σ H (λvs c=>match vs with|[x]=>∃a,x=.ref a/\(((∃xs,dg X.K c a xs)/\R (yU X.K a) c)\/((∃xs,dN X.K c a xs)/\R (yK X.K a) c))|_=>False) I h) ?_) hs rfl));rintro L s1⟨vs,c,f,r1,j⟩
 . obtain⟨ad,q,k⟩:∃ad,(((∃xs,dg X.K c ad xs)/\R (yU X.K ad) c)\/((∃xs,dN X.K c ad xs)/\R (yK X.K ad) c))/\vs=[.ref ad]:=by cases vs with|nil=>cases j|cons x r=>cases r with|nil=>obtain⟨ad,rfl,q⟩:=j;exact⟨ad,q,rfl⟩|cons _ _=>cases j
   subst k;obtain⟨u,rfl,E⟩:=r1.one;cases E;have fin:∀(h':Heap)(i:Nat->Heap->Prop)(J:It),Turn X.prog X.w X.K (.Tuple elts x1 tp) J [s1.heap.objs.size+1,s1.heap.objs.size] (s1.heap.objs.size+1) i->i 0 h'->IsEnum h' (s1.heap.objs.size+1) s1.heap.objs.size 0 .none->(∀b o,s1.heap.get? b=some o->h'.get? b=some o)->R J c->wpAny (model X.prog X.w) X.A (pyIter (.ref (s1.heap.objs.size+1))) (PIE X e σ (.Tuple elts x1 tp) R) X.xe {s1 with heap:=h'}:=λh' i J T t0 he kp q=>by
    refine wpAny_pyIter_enum he ⟨_,_,i,J,c,rfl,f.kept (t':=s1.toks) kp,T,t0,λb hb=>?_,q⟩;have g:s1.heap.objs.size<=b:=by
     rcases mem_cons.mp hb with rfl|hb;.exact le_succ _
     . have:b=s1.heap.objs.size:=by simpa using hb
       rw[this];exact cQ
    exact f.Dw g (f.hok.fresh g)
   rcases q with⟨⟨xs,l⟩,q⟩|⟨⟨xs,l⟩,q⟩;.obtain⟨m,G,n,hz⟩:=f.list l;exact call_enumerate_list n.isList λh' he t hsz kp=>fin h' _ _ (Di ad s1.heap.objs.size (s1.heap.objs.size+1) (Nat.succ_ne_self _)) ⟨⟨_,he⟩,t⟩ he kp q
   .obtain⟨m,G,n,hz⟩:=f.tuple l;exact jg n λh' he t hsz kp=>fin h' _ _ (Dh ad s1.heap.objs.size (s1.heap.objs.size+1) (Nat.succ_ne_self _)) ⟨⟨_,he⟩,t⟩ he kp q
end
end L2
namespace HH
open PySem L2 PySem.Spec PyProof.Rows
section
variable{K:PySem.W.Frag}{F F1 H H1:Hp}{ρ ρ1:List Sl}{σ:L2.St}{ds:List D}{a:Addr}
theorem v8{c e:Hp}{T:Addr}{v w:V}{d1 d2:D}(g:aC c e)(h:e T=none)(r1:Rep K c v d1)(i:Rep K c w d2):∃b,Ext c e b (upd e T (.tup [v,w]))/\Rep K b (.ref T) (.tup [d1,d2]):=yI (Q:=λv f=>∃b,Ext c e b f/\Rep K b v (.tup [d1,d2])) g (.cons r1 (.cons i .nil)) h λv b f x j=>⟨b,x,j⟩
theorem Gp{xs:List V}{e b:Hp}(f:dg K b a xs)(r:aA K e xs ds)(s:aC e b)(k:Nat):(∀d,(ds.mapIdx λi d=>D.tup [.int (i:Int),d])[k]?=some d->(yU K a).go k b/\∀x g,(yU K a).JC k b x g->∃c,Ext e b c g/\Rep K c x d)/\((ds.mapIdx λi d=>D.tup [.int (i:Int),d]).length<=k->(yU K a).stop k b):=by refine⟨λd hd=>?_,λh=>⟨xs,f,by rw[r.length];simpa using h⟩⟩;rw[List.getElem?_mapIdx]at hd;obtain⟨d0,j,l⟩:=map_some hd;subst l;obtain⟨w,h1,m⟩:=r.get j;refine⟨⟨xs,w,f,h1⟩,?_⟩;rintro x g⟨T,v,n,o,p,y⟩;subst o;subst p;have:=y xs f;rw[h1]at this;cases this;exact v8 s n (bW _) m
theorem Hv{xs:List V}{e b:Hp}(f:dN K b a xs)(r:aA K e xs ds)(s:aC e b)(k:Nat):(∀d,(ds.mapIdx λi d=>D.tup [.int (i:Int),d])[k]?=some d->(yK K a).go k b/\∀x g,(yK K a).JC k b x g->∃c,Ext e b c g/\Rep K c x d)/\((ds.mapIdx λi d=>D.tup [.int (i:Int),d]).length<=k->(yK K a).stop k b):=by refine⟨λd hd=>?_,λh=>⟨xs,f,by rw[r.length];simpa using h⟩⟩;rw[List.getElem?_mapIdx]at hd;obtain⟨d0,j,l⟩:=map_some hd;subst l;obtain⟨w,h1,m⟩:=r.get j;refine⟨⟨xs,w,f,h1⟩,?_⟩;rintro x g⟨T,v,n,o,p,y⟩;subst o;subst p;have:=y xs f;rw[h1]at this;cases this;exact v8 s n (bW _) m
end
section
variable{X:Cx}{c:Call}{e a:Expr}{pa:P}{pos:Pos}{elts:List Expr}{x1:Nat}{tp:Pos}
theorem Fo{x:Str}{A:Pos}(B:x="enumerate")(C:Gl X x)(E:X.mg x=none)(G:SX X c a pa)(hs:starEach [a] X.env=[(false,eval a X.env)]:=by rfl):SI X c (.Tuple elts x1 tp) (.Call (.Name x A) [a] [] pos) (.Vh pa):=by subst B;refine nR (Sq C E G.ev hs) ?_;rintro σ H R⟨F,ρ,ds,ρ1,g,e,k⟩;obtain⟨r,ρ2,u,j⟩:=aa e;have m:=aF j;clear j;obtain⟨j,I⟩:=m;subst I;rw[HH.E20]at u;obtain⟨r0,h,J,l⟩:=aa u;have m:=aF l;clear l;obtain⟨l,L⟩:=m;subst L;obtain⟨es,f1,f2⟩:=map_some l;subst f2;cases j;refine⟨F,ρ,r0,_,g,J,λv w y s i=>?_⟩;obtain⟨F2,s2,_,f⟩:=s.cG i;cases hd:r0.d with|tup es'=>rw[hd]at f1 f;cases f1;rw[Rep]at f;obtain⟨ad,xs,rfl,h1,o⟩:=f;exact⟨ad,rfl,.inr ⟨⟨xs,aC.eZ s2.gs.sub h1⟩,k _ _ _ ⟨s2.gs,λn k w p q y b=>Hv (aC.eZ b.gs.sub (aC.eZ b.cu h1)) (o.mono b.cu) b.gs.sub k,λM h t N s3=>⟨s2.trans s3,λv r i=>i.later s2⟩⟩⟩⟩|lst es'=>rw[hd]at f1 f;cases f1;rw[Rep]at f;obtain⟨ad,xs,rfl,h1,o⟩:=f;exact⟨ad,rfl,.inl ⟨⟨xs,s2.gs.sub.seq h1⟩,k _ _ _ ⟨s2.gs,λn k w p q y b=>Gp (b.gs.sub.seq (b.cu.seq h1)) (o.mono b.cu) b.gs.sub k,λM h t N s3=>⟨s2.trans s3,λv r i=>i.later s2⟩⟩⟩⟩|_=>rw[hd]at f1;cases f1
end
end HH
end
section
namespace L2
open PySem PySem.Spec PyProof.Rows
end L2
namespace HH
open PySem L2 PySem.Spec PyProof.Rows
structure bR(K:PySem.W.Frag)(x:Str)(st:Stmt):Prop where ex:∃f fd,PySem.W.nsIn K mainGlobals x=some (some (.ref f))/\jO K x x st f fd
section
variable{Pg:Program}{w:World}{K:PySem.W.Frag}{mg:Str->Option Value}{base h:Heap}
theorem Qp{x:Str}{st:Stmt}{f:Addr}{oc:Value}{g i:Option Addr}{b:Array (Option Value)}{kV e j cdv ct:Value}(a:PySem.W.nsIn K mainGlobals x=some (some (.ref f)))(l:K.lookup f=some ⟨oc,g,.func (PySem.W.fnOf x x (iz st) (fG st) (aB st) .none kV e j i cdv ct),b⟩)(c:PySem.W.codeIn K cdv x=true)(k:keepIn K (.ref f)=true):bR K x st:=⟨_,_,a,Rx l c k⟩
theorem cB{Γ:Tab}{wl i np:Nat}{x:Str}{st:Stmt}{ps:List Str}(X:K.In h)(G:h.Ns mainGlobals mg)(D:bR K x st)(j:ps.length=np)(k:∀(kV g l:Value)(m:Option Addr)(cdv ct:Value)(c:List Value),c.length=ps.length->bindArgs (PySem.W.fnOf x x (iz st) (fG st) (aB st) .none kV g l m cdv ct) ⟨c,[]⟩=pure (ps.zip c)):aV Pg w K mg base 0 (run Γ wl 0) i x np:=by obtain⟨f,fd,a,F⟩:=D.ex;exact⟨f,fd,ps,⟨λvs H Q E s=>s.1,λA outer s H args c vs Q E hr e b v sp=>by obtain⟨_,F,as,r,n,_,z,_⟩:=sp;cases z⟩,mg_of X G a,F.kp,F.binds k,j⟩
theorem cC{Γ:Tab}{wl n i np:Nat}{x:Str}{st:Stmt}{ps:List Str}{d:Fd}(X:K.In h)(G:h.Ns mainGlobals mg)(D:bR K x st)(j:ps.length=np)(b:Γ i=some d)(k:∀(kV c l:Value)(m:Option Addr)(cdv ct:Value)(g:List Value),g.length=ps.length->bindArgs (PySem.W.fnOf x x (iz st) (fG st) (aB st) .none kV c l m cdv ct) ⟨g,[]⟩=pure (ps.zip g))(ok:∀f fd,jO K x x st f fd->m6 Pg w K mg base IK (n+1) f fd ps (De K np (λargs=>enter (run Γ wl n) wl d args))):aV Pg w K mg base (n+1) (run Γ wl (n+1)) i x np:=by
 obtain⟨f,fd,a,F⟩:=D.ex;refine⟨f,fd,ps,?_,mg_of X G a,F.kp,F.binds k,j⟩;have e:run Γ wl (n+1) i=λargs=>enter (run Γ wl n) wl d args:=by funext args;show(match Γ i with|some d=>enter (run Γ wl n) wl d args|none=>.stuck)=_;rw[b]
 rw[e,j];exact ok f fd F
theorem rP{F:Hp}:∀ns:List Int,aA K F (ns.map V.int) (ns.map D.int)|[]=>.nil|n::ns=>.cons (bW n) (rP ns)
theorem Cr{H:Hp}{a:Addr}{ns:List Int}{g:List Sl->Res R}{as:List Sl}(l:dg K H a (ns.map V.int))(hr:g [.val false (.lst (ns.map D.int))]=.ok (.val (.bl true)) as):De K 1 g [.ref a] H (λv _=>v=.bl true) λ_ _ _=>False:=by
 refine⟨rfl,H,_,_,as,⟨.refl _,rfl,λi b d e=>?_,λi s ds e k=>?_,λi j c h=>?_⟩,hr,λv m n o s f=>?_⟩;.match i,e with|0,e=>cases e;refine⟨.ref a,rfl,?_⟩;rw[Rep];exact⟨a,_,rfl,l,rP ns⟩|i+1,e=>simp at e
 .match i,e with|0,e=>cases e;cases k|i+1,e=>simp at e
 .obtain⟨⟨s,ds,e,k⟩,_⟩:=h;match i,e with|0,e=>cases e;cases k|i+1,e=>simp at e
 .have f:Rep K m v (.bl true):=f;rw[Rep]at f;exact f
end
end HH
end
section
namespace HH
open PySem
variable{n:Nat}{c:Call}{ρ:List Sl}{is:List Nat}{ds:List D}
def Res.sat{b:Type}(Q:b->List Sl->Prop)(x:Res b):Prop:=match x with|.ok a ρ=>Q a ρ|.exc _ _=>False|.stuck=>False
section
variable{α β:Type}{Q Q':α->List Sl->Prop}
@[simp]theorem Qn{a:α}{ρ:List Sl}:(Res.ok a ρ).sat Q=Q a ρ:=rfl
@[simp]theorem ZS{k:Nat}{ρ:List Sl}:(Res.exc k ρ:Res α).sat Q=False:=rfl
@[simp]theorem UW:(Res.stuck:Res α).sat Q=False:=rfl
theorem bT{x:Res β}{f:β->List Sl->Res α}:(x.bind f).sat Q=x.sat λa ρ=>(f a ρ).sat Q:=by cases x<;>rfl
@[simp]theorem YJ{p:Prop}[Decidable p]{x y:Res α}:(if p then x else y).sat Q=((p->x.sat Q)/\(¬ p->y.sat Q)):=by by_cases h:p<;>simp[h]
@[simp]theorem Jz{a:α}{ρ:List Sl}:(lift (some a) ρ).sat Q=Q a ρ:=rfl
@[simp]theorem Jw{ρ:List Sl}:(lift (none:Option α) ρ).sat Q=False:=rfl
@[simp]theorem Kr{p:Prop}[Decidable p]{a:α}{ρ:List Sl}:(lift (if p then some a else none) ρ).sat Q=(p/\Q a ρ):=by by_cases h:p<;>simp[h]
theorem Res.sat.imp{x:Res α}(h:x.sat Q)(k:∀a ρ,Q a ρ->Q' a ρ):x.sat Q':=by cases x with|ok a ρ=>exact k a ρ h|exc _ _=>exact h|stuck=>exact h
theorem sat_iff{x:Res α}:x.sat Q↔∃a ρ,x=.ok a ρ/\Q a ρ:=by cases x with|ok a ρ=>exact⟨λh=>⟨a,ρ,rfl,h⟩,λ⟨_,_,e,h⟩=>by cases e;exact h⟩|exc _ _=>exact⟨λh=>h.elim,λ⟨_,_,e,_⟩=>by cases e⟩|stuck=>exact⟨λh=>h.elim,λ⟨_,_,e,_⟩=>by cases e⟩
end
noncomputable def fr:Sl->Bool|.aP=>true|.val b _=>!b|.own b _=>!b|.lent _=>false|.tH _=>false|.cJ _=>false|.hold _=>false
@[simp]theorem ab9:fr .aP=true:=rfl
@[simp]theorem abI{b:Bool}{d:D}:fr (.val b d)=!b:=rfl
@[simp]theorem abZ{b:Bool}{d:List D}:fr (.own b d)=!b:=rfl
@[simp]theorem Zv{d:List D}:fr (.lent d)=false:=rfl
theorem Qc(ρ:List Sl)(i:Nat)(s:Sl):put ρ i s=match ρ[i]?with|some t=>if fr t=true then some (ρ.set i s)else none|none=>none:=by unfold put;cases h:ρ[i]?with|none=>rfl|some t=>cases t with|aP=>rfl|val b d=>cases b<;>rfl|own b d=>cases b<;>rfl|lent d=>rfl|tH m=>rfl|cJ m=>rfl|hold m=>rfl
theorem Er{Γ:Tab}{w i:Nat}{d:Fd}{args:List Sl}(h:Γ i=some d):run Γ w (n+1) i args=enter (run Γ w n) w d args:=by rw[run,h]
noncomputable def fin(np:Nat):Fl->List Sl->Option (R×List Sl)|.next,ρ=>some (.val .non,ρ.take np)|.ret r,ρ=>some (r,ρ.take np)|_,_=>none
def eQ(np:Nat)(Q:R->List Sl->Prop)(fl:Fl)(ρ:List Sl):Prop:=match fl with|.next=>Q (.val .non) (ρ.take np)|.ret r=>Q r (ρ.take np)|_=>False
def sQ(c:Call)(n:Nat)(r:List S)(Q:Fl->List Sl->Prop)(fl:Fl)(ρ:List Sl):Prop:=match fl with|.next=>(gY c n r ρ).sat Q|fl=>Q fl ρ
def fQ(J:List Sl->Prop)(Q:Fl->List Sl->Prop)(fl:Fl)(ρ:List Sl):Prop:=match fl with|.next=>J ρ|.cont=>J ρ|.brk=>Q .next ρ|.ret v=>Q (.ret v) ρ
section
variable{np:Nat}{Q:R->List Sl->Prop}{ρ:List Sl}{v:R}{c:Call}{n:Nat}{r:List S}{Q':Fl->List Sl->Prop}{J:List Sl->Prop}
@[simp]theorem YS:eQ np Q .next ρ=Q (.val .non) (ρ.take np):=rfl
@[simp]theorem acu:eQ np Q (.ret v) ρ=Q v (ρ.take np):=rfl
@[simp]theorem acg:eQ np Q .brk ρ=False:=rfl
@[simp]theorem YM:eQ np Q .cont ρ=False:=rfl
@[simp]theorem Yq:sQ c n r Q' .next ρ=(gY c n r ρ).sat Q':=rfl
@[simp]theorem aaE:sQ c n r Q' (.ret v) ρ=Q' (.ret v) ρ:=rfl
@[simp]theorem aar:sQ c n r Q' .brk ρ=Q' .brk ρ:=rfl
@[simp]theorem Y0:sQ c n r Q' .cont ρ=Q' .cont ρ:=rfl
@[simp]theorem ZP:fQ J Q' .next ρ=J ρ:=rfl
@[simp]theorem YL:fQ J Q' .cont ρ=J ρ:=rfl
@[simp]theorem abb:fQ J Q' .brk ρ=Q' .next ρ:=rfl
@[simp]theorem aaq:fQ J Q' (.ret v) ρ=Q' (.ret v) ρ:=rfl
end
theorem Du{d:Fd}{args:List Sl}{Q:R->List Sl->Prop}(a:args.length=d.np)(hd:d.np<=d.nn)(h:(gY c n d.body (args++replicate (d.nn-d.np) .aP)).sat (eQ d.np Q)):(enter c n d args).sat Q:=by unfold enter;rw[if_pos ⟨a,hd⟩];revert h;cases gY c n d.body (args++replicate (d.nn-d.np) .aP)with|stuck=>exact λh=>False.elim h|exc _ _=>exact λh=>False.elim h|ok fl ρ=>cases fl<;>first|exact id|exact λh=>False.elim h
theorem aN{Γ:Tab}{w i:Nat}{d:Fd}{args:List Sl}{Q:R->List Sl->Prop}(a:Γ i=some d)(b:args.length=d.np)(hd:d.np<=d.nn)(h:(gY (run Γ w n) w d.body (args++replicate (d.nn-d.np) .aP)).sat (eQ d.np Q)):(run Γ w (n+1) i args).sat Q:=by rw[Er a];exact Du b hd h
theorem ak{s:S}{r:List S}{Q:Fl->List Sl->Prop}(h:(ex c n s ρ).sat (sQ c n r Q)):(gY c n (s::r) ρ).sat Q:=by rw[NQ,bT];refine h.imp λfl a q=>?_;cases fl<;>exact q
theorem Cj{s:S}{r:List S}{Q:Fl->List Sl->Prop}(h:(ex c n s ρ).sat (sQ c n r Q)):sQ c n (s::r) Q .next ρ:=ak h
@[simp]theorem YG{c:Call}{n:Nat}{ρ:List Sl}{Q:Fl->List Sl->Prop}:(gY c n [] ρ).sat Q=Q .next ρ:=by rw[xs0];rfl
theorem fB{s:S}{r:List S}{Q:Fl->List Sl->Prop}(M:List Sl->Prop)(h:(ex c n s ρ).sat λfl a=>fl=.next/\M a)(k:∀a,M a->(gY c n r a).sat Q):(gY c n (s::r) ρ).sat Q:=ak (h.imp λfl a⟨e,q⟩=>by subst e;exact k a q)
theorem cM{is:List Nat}{one:Bool}{body:List Sl->Res Fl}(J:List D->List Sl->Prop){Q:Fl->List Sl->Prop}(a:∀d r ρ,J (d::r) ρ->∃ρ1,bY ρ is one d=some ρ1/\(body ρ1).sat (fQ (J r) Q))(b:∀ρ,J [] ρ->Q .next ρ):∀{ds:List D}{ρ:List Sl},J ds ρ->(iH is one body ds ρ).sat Q|[],ρ,j=>b ρ j|d::r,ρ,j=>by obtain⟨ρ1,e,h⟩:=a d r ρ j;rw[yN,e];show((body ρ1).bind _).sat Q;rw[bT];refine h.imp λfl ρ2 q=>?_;cases fl with|next=>exact cM J a b q|cont=>exact cM J a b q|brk=>exact q|ret v=>exact q
theorem jL{is:List Nat}{one:Bool}{a:List Sl->Res Bool}{m:Ev}(J:List Sl->Prop)(g:D->Option D){Q:List D->List Sl->Prop}:∀{ds f:List D}{ρ:List Sl},J ρ->(∀ d,d ∈ ds->∀ ρ,J ρ->∃ ρ1,bY ρ is one d=some ρ1/\(a ρ1).sat λb ρ2=>if b=true then(m ρ2).sat λr o=>g d=some r.d/\J o else g d=none/\J ρ2)->(∀ ρ,J ρ->Q (f++ds.filterMap g) ρ)->(turns is one a m ds f ρ).sat Q|[],f,ρ,j,h,k=>by rw[Hf];simpa using k ρ j|d::r,f,ρ,j,h,k=>by obtain⟨ρ1,e,h1⟩:=h d (by simp) ρ j;rw[GQ,e];show((a ρ1).bind _).sat Q;rw[bT];refine h1.imp λb ρ2 q=>?_;cases b with|true=>rw[if_pos rfl]at q;rw[if_pos rfl,bT];refine q.imp λx o⟨s,j3⟩=>?_;refine jL J g j3 (λd' i=>h d' (by simp[i])) λl p=>?_;have:=k l p;rw[filterMap_cons,s]at this;rw[append_assoc];exact this|false=>rw[if_neg (by simp)]at q;rw[if_neg (by simp)];refine jL J g q.2 (λd' i=>h d' (by simp[i])) λl p=>?_;have:=k l p;rw[filterMap_cons,q.1]at this;exact this
theorem yz{one:Bool}{a:Ev}(J:List Sl->Prop)(g:D->D){Q:List D->List Sl->Prop}(j:J ρ)(h:∀d,d∈ds->∀ρ,J ρ->∃ρ1,bY ρ is one d=some ρ1/\(a ρ1).sat λr b=>g d=r.d/\J b)(k:∀ρ,J ρ->Q (ds.map g) ρ):(turns is one (u6 c none) a ds [] ρ).sat Q:=jL J (λd=>some (g d)) j (λd hd ρ j=>by obtain⟨ρ1,e,h1⟩:=h d hd ρ j;refine⟨ρ1,e,?_⟩;rw[u6,Qn,if_pos rfl];exact h1.imp λr b q=>⟨by rw[q.1],q.2⟩) λρ j=>by simpa using k ρ j
section
variable{ρ l:List Sl}{a:Sl}{i j:Int}{k m:Nat}{b b':Bool}{s:Str}{d:D}{ds es:List D}{e f:Ev}{x:Option Sl}{c:Call}
@[simp]theorem Qi:cA .int .non=false:=rfl
@[simp]theorem Tz:cA .int (.bl b)=true:=rfl
@[simp]theorem QT:cA .int (.int i)=true:=rfl
@[simp]theorem O7:cA .int (.str s)=false:=rfl
@[simp]theorem QB:cA .int (.tup ds)=false:=rfl
@[simp]theorem QJ:cA .int (.lst ds)=false:=rfl
@[simp]theorem Nt:cA .bool .non=false:=rfl
@[simp]theorem PX:cA .bool (.bl b)=true:=rfl
@[simp]theorem NZ:cA .bool (.int i)=false:=rfl
@[simp]theorem Oq:cA .bool (.str s)=false:=rfl
@[simp]theorem NP:cA .bool (.tup ds)=false:=rfl
@[simp]theorem Oh:cA .bool (.lst ds)=false:=rfl
@[simp]theorem QC:cA .str .non=false:=rfl
@[simp]theorem T5:cA .str (.bl b)=false:=rfl
@[simp]theorem Ry:cA .str (.int i)=false:=rfl
@[simp]theorem Rg:cA .str (.str s)=true:=rfl
@[simp]theorem S5:cA .str (.tup ds)=false:=rfl
@[simp]theorem Ri:cA .str (.lst ds)=false:=rfl
@[simp]theorem KZ:cA .tuple .non=false:=rfl
@[simp]theorem Nk:cA .tuple (.bl b)=false:=rfl
@[simp]theorem K1:cA .tuple (.int i)=false:=rfl
@[simp]theorem Lx:cA .tuple (.str s)=false:=rfl
@[simp]theorem Ky:cA .tuple (.tup ds)=true:=rfl
@[simp]theorem Mi:cA .tuple (.lst ds)=false:=rfl
@[simp]theorem Np:cA .list .non=false:=rfl
@[simp]theorem Qk:cA .list (.bl b)=false:=rfl
@[simp]theorem Nq:cA .list (.int i)=false:=rfl
@[simp]theorem Ot:cA .list (.str s)=false:=rfl
@[simp]theorem Nz:cA .list (.tup ds)=false:=rfl
@[simp]theorem Oo:cA .list (.lst ds)=true:=rfl
@[simp]theorem N8:cA .none .non=true:=rfl
@[simp]theorem Pj:cA .none (.bl b)=false:=rfl
@[simp]theorem NK:cA .none (.int i)=false:=rfl
@[simp]theorem N7:cA .none (.str s)=false:=rfl
@[simp]theorem Nf:cA .none (.tup ds)=false:=rfl
@[simp]theorem Oe:cA .none (.lst ds)=false:=rfl
@[simp]theorem TY:ji .non=true:=rfl
@[simp]theorem Wf:ji (.bl b)=false:=rfl
@[simp]theorem TQ:ji (.int i)=false:=rfl
@[simp]theorem Uh:ji (.str s)=false:=rfl
@[simp]theorem Vb:ji (.tup ds)=false:=rfl
@[simp]theorem Vc:ji (.lst ds)=false:=rfl
@[simp]theorem V5:flat .non=true:=rfl
@[simp]theorem ZW:flat (.bl b)=true:=rfl
@[simp]theorem wM:flat (.int i)=true:=rfl
@[simp]theorem We:flat (.str s)=true:=rfl
@[simp]theorem Vv:flat (.tup ds)=false:=rfl
@[simp]theorem Wd:flat (.lst ds)=false:=rfl
@[simp]theorem abE:(R.val d).d=d:=rfl
@[simp]theorem acd:(R.own ds).d=.lst ds:=rfl
@[simp]theorem V4:xU (.val d)=.val false d:=rfl
@[simp]theorem V2:xU (.own ds)=.own false ds:=rfl
@[simp]theorem Ve:rY (.val d)=.dat d:=rfl
@[simp]theorem TF:rY (.own ds)=.tmp ds:=rfl
@[simp]theorem ZJ:iy (.int i)=some i:=rfl
@[simp]theorem aaH:zy (.bl b)=some b:=rfl
@[simp]theorem Uz:items (.lst ds)=some ds:=rfl
@[simp]theorem rM:items (.tup ds)=some ds:=rfl
@[simp]theorem Rf:Rz (.tup ds)=some ds:=rfl
@[simp]theorem PB:zB (.lst ds)=some ds:=rfl
@[simp]theorem Ys:rA .add=qu:=rfl
@[simp]theorem Yx:rA .sub=wj:=rfl
@[simp]theorem Yy:rA .mul=qC:=rfl
@[simp]theorem V0:rA .fdiv=qL:=rfl
@[simp]theorem Za:rA .mod=vW:=rfl
@[simp]theorem Zw:rA .pow=vV:=rfl
@[simp]theorem T9:qu (.int i) (.int j)=some (.val (.int (i+j))):=rfl
@[simp]theorem Uk:qu (.lst ds) (.lst es)=if ds.length+es.length<=lim then some (.own (ds++es))else none:=rfl
@[simp]theorem Tp:qu (.tup ds) (.tup es)=if ds.length+es.length<=lim then some (.val (.tup (ds++es)))else none:=rfl
@[simp]theorem U5:wj (.int i) (.int j)=some (.val (.int (i-j))):=rfl
@[simp]theorem Tt:qC (.int i) (.int j)=if((-18446744073709551616<i/\i<18446744073709551616)\/(-18446744073709551616<j/\j<18446744073709551616))then some (.val (.int (i*j)))else none:=rfl
@[simp]theorem Rh:qL (.int i) (.int j)=if 0<j/\j<1606938044258990275541962092341162602522202993782792835301376 then some (.val (.int (i/j)))else none:=rfl
@[simp]theorem Tq:vW (.int i) (.int j)=if 0<j then some (.val (.int (i%j)))else none:=rfl
@[simp]theorem Tw:vV (.int i) (.int j)=if 0<=j/\j<=1000/\i.natAbs<18446744073709551616 then some (.val (.int (i^j.toNat)))else none:=rfl
@[simp]theorem YQ:JS (.lst ds) (.int i)=(at' ds i).map .val:=rfl
@[simp]theorem ZV:JS (.tup ds) (.int i)=(at' ds i).map .val:=rfl
@[simp]theorem VN:Fe (.int i)=some (.val (.int (-i))):=rfl
@[simp]theorem Ur:cm .eq (.int i) (.int j)=some (i==j):=rfl
@[simp]theorem Tu:cm .ne (.int i) (.int j)=some (!(i==j)):=rfl
@[simp]theorem W7:cm .eq (.bl b) (.bl b')=some (b==b'):=rfl
@[simp]theorem Vt:cm .ne (.bl b) (.bl b')=some (!(b==b')):=rfl
@[simp]theorem Ux:cm .lt (.int i) (.int j)=some (decide (i<j)):=rfl
@[simp]theorem Uw:cm .le (.int i) (.int j)=some (decide (i<=j)):=rfl
@[simp]theorem Uc:cm .gt (.int i) (.int j)=some (decide (j<i)):=rfl
@[simp]theorem Ue:cm .ge (.int i) (.int j)=some (decide (j<=i)):=rfl
@[simp]theorem abF:cm .isN d .non=some (ji d):=rfl
@[simp]theorem Zz:cm .MK d .non=some (!ji d):=rfl
@[simp]theorem Nh:blt .len [.lst ds]=some (.val (.int ds.length)):=rfl
@[simp]theorem M7:blt .len [.tup ds]=some (.val (.int ds.length)):=rfl
@[simp]theorem Mf:blt .list [.lst ds]=some (.own ds):=rfl
@[simp]theorem Ml:blt .list [.tup ds]=some (.own ds):=rfl
@[simp]theorem Jv:blt .tuple [.lst ds]=some (.val (.tup ds)):=rfl
@[simp]theorem Jy:blt .tuple [.tup ds]=some (.val (.tup ds)):=rfl
@[simp]theorem Vr:blt .max2 [.int i,.int j]=some (.val (.int (if i<j then j else i))):=rfl
@[simp]theorem ZG:blt .all [.lst ds]=(ds.mapM zy).map λbs=>.val (.bl (bs.all id)):=rfl
@[simp]theorem Uj:isVar (.var k)=some k:=rfl
@[simp]theorem YB:pk (a::l) k=match(a::l)[k]?with|some (.val _ d)=>some d|some (.own _ ds)=>some (.lst ds)|some (.lent ds)=>some (.lst ds)|_=>none:=rfl
@[simp]theorem W6:Ef (a::l) k=match pk (a::l) k with|some (.lst ds)=>some ds|_=>none:=rfl
@[simp]theorem VH:cV (some k) e ρ=lift (pk ρ k) ρ:=rfl
@[simp]theorem Xi:cV none e ρ=(e ρ).bind λr ρ=>.ok r.d ρ:=rfl
@[simp]theorem Ui{y:Option Nat}:jD (some k) e y f ρ=(lift (pk ρ k) ρ).bind λ_ ρ=>(cV y f ρ).bind λy ρ=>(lift (pk ρ k) ρ).bind λx ρ=>.ok (x,y) ρ:=rfl
@[simp]theorem U8{y:Option Nat}:jD none e y f ρ=(cV none e ρ).bind λx ρ=>(cV y f ρ).bind λy ρ=>.ok (x,y) ρ:=rfl
@[simp]theorem Va{es:List D}:dB (.own b ds) (some (.own b' es))=.own b es:=rfl
@[simp]theorem Uv:dB (.own b ds) (some (.val b' d))=.val b d:=rfl
@[simp]theorem Hk:dB a none=a:=by cases a<;>rfl
@[simp]theorem CP:dB (.val b d) x=.val b d:=by cases x<;>rfl
@[simp]theorem Tr:dB .aP x=.aP:=by cases x<;>rfl
@[simp]theorem yl:dB (.lent ds) x=.lent ds:=by cases x<;>rfl
@[simp]theorem Wa:bY ρ [k] true d=put ρ k (.val false d):=rfl
@[simp]theorem T3{is:List Nat}:bY ρ is false (.tup ds)=putAll ρ is ds:=by cases is<;>rfl
@[simp]theorem Pz:srcOf none e ρ=(e ρ).bind λr ρ=>lift (items r.d) ρ:=rfl
@[simp]theorem Sh:srcOf (some k) e (a::l)=match(a::l)[k]?with|some (.val _ d)=>lift (items d) (a::l)|some (.own _ ds)=>.ok ds ((a::l).set k (.lent ds))|some (.lent ds)=>.ok ds (a::l)|_=>.stuck:=rfl
@[simp]theorem Nr{g:List Sl}:aY g none ρ=ρ:=rfl
@[simp]theorem Oi:aY (a::l) (some k) ρ=match(a::l)[k]?with|some (.own b ds)=>ρ.set k (.own b ds)|_=>ρ:=rfl
@[simp]theorem VF{s:Sl}:put (a::l) k s=match(a::l)[k]?with|some t=>if fr t=true then some ((a::l).set k s)else none|none=>none:=Qc ..
@[simp]theorem QL:putAll ρ [] []=some ρ:=rfl
@[simp]theorem Nv{is:List Nat}:putAll ρ (k::is) (d::ds)=(put ρ k (.val false d)).bind λρ=>putAll ρ is ds:=rfl
end
@[simp]theorem abx{a:Type}{b:a}{l:List a}:at' (b::l) 0=some b:=by unfold at' iT;rw[if_pos (by decide),if_pos (by simp only[length_cons];omega)];rfl
@[simp]theorem aaO{a:Type}{e b:a}{l:List a}:at' (e::b::l) 1=some b:=by unfold at' iT;rw[if_pos (by decide),if_pos (by simp only[length_cons];omega)];rfl
@[simp]theorem abn{a:Type}{e f b:a}{l:List a}:at' (e::f::b::l) 2=some b:=by unfold at' iT;rw[if_pos (by decide),if_pos (by simp only[length_cons];omega)];rfl
@[simp]theorem ace{a:Type}{e f g b:a}{l:List a}:at' (e::f::g::b::l) 3=some b:=by unfold at' iT;rw[if_pos (by decide),if_pos (by simp only[length_cons];omega)];rfl
@[simp]theorem at_4{a:Type}{e f g h b:a}{l:List a}:at' (e::f::g::h::b::l) 4=some b:=by unfold at' iT;rw[if_pos (by decide),if_pos (by simp only[length_cons];omega)];rfl
@[simp]theorem at_5{a:Type}{e f g h i b:a}{l:List a}:at' (e::f::g::h::i::b::l) 5=some b:=by unfold at' iT;rw[if_pos (by decide),if_pos (by simp only[length_cons];omega)];rfl
@[simp]theorem at_6{a:Type}{e f g h i j b:a}{l:List a}:at' (e::f::g::h::i::j::b::l) 6=some b:=by unfold at' iT;rw[if_pos (by decide),if_pos (by simp only[length_cons];omega)];rfl
@[simp]theorem at_7{a:Type}{e f g h i j k b:a}{l:List a}:at' (e::f::g::h::i::j::k::b::l) 7=some b:=by unfold at' iT;rw[if_pos (by decide),if_pos (by simp only[length_cons];omega)];rfl
theorem yJ{a:Type}{l:List a}{i:Int}(h:0<=i)(h':i<l.length):at' l i=l[i.toNat]?:=by unfold at' iT;rw[if_pos h,if_pos h'];rfl
theorem Ih{a:Type}{l:List a}{k:Nat}(h':k<l.length):at' l (k:Int)=l[k]?:=by rw[yJ (by omega) (by omega)];simp
@[simp]theorem Vd{d:D}:isVar (.con d)=none:=rfl
@[simp]theorem Uo{o:Op}{p q:P}:isVar (.bin o p q)=none:=rfl
@[simp]theorem U6{p:P}:isVar (.neg p)=none:=rfl
@[simp]theorem Up{p:P}:isVar (.not p)=none:=rfl
@[simp]theorem UT{p q:P}:isVar (.and p q)=none:=rfl
@[simp]theorem WR{p q:P}:isVar (.or p q)=none:=rfl
@[simp]theorem Uq{o:Cm}{p q:P}:isVar (.cmp o p q)=none:=rfl
@[simp]theorem Tv{p q r:P}:isVar (.Oz p q r)=none:=rfl
@[simp]theorem TJ{as:List P}:isVar (.tup as)=none:=rfl
@[simp]theorem UJ{as:List P}:isVar (.lst as)=none:=rfl
@[simp]theorem Ug{p q:P}:isVar (.idx p q)=none:=rfl
@[simp]theorem Oa{p q r:P}:isVar (.slice p q r)=none:=rfl
@[simp]theorem QX{f:Nat}{as:List P}:isVar (.call f as)=none:=rfl
@[simp]theorem Uu{b:YX}{as:List P}:isVar (.blt b as)=none:=rfl
@[simp]theorem Rp{a:List Ty}{p:P}:isVar (.inst a p)=none:=rfl
@[simp]theorem Rj{p e:P}{n:Nat}{is:List Nat}{one:Bool}{t:Option P}:isVar (.comp p n is one t e)=none:=rfl
@[simp]theorem Ut{p q:P}:isVar (.xF p q)=none:=rfl
@[simp]theorem T6{p:P}:isVar (.Vh p)=none:=rfl
@[simp]theorem Ul{p q:P}:isVar (.zip p q)=none:=rfl
noncomputable def pR(c:Call)(is:List Nat)(one:Bool)(a:Option P)(b:P)(ds:List D)(ρ:List Sl):Res (List D):=turns is one (u6 c a) (ev c b) ds [] ρ
@[simp]theorem ZK{c:Call}{src f:P}{n:Nat}{is:List Nat}{one:Bool}{b:Option P}{ρ:List Sl}:ev c (.comp src n is one b f) ρ=(srcOf (isVar src) (ev c src) ρ).bind λds a=>if ds.length<=lim then(pR c is one b f ds (a++replicate n .aP)).bind λxs e=>.ok (.own xs) (aY ρ (isVar src) (e.take a.length))else .stuck:=(rfl)
noncomputable def Ex(c:Call)(n:Nat)(t:P)(body:List S)(k:Nat)(ρ:List Sl):Res Fl:=o4 (iu (ev c t)) (gY c n body) k ρ
@[simp]theorem aaU{c:Call}{n:Nat}{t:P}{body:List S}{ρ:List Sl}:ex c n (.whl t body) ρ=Ex c n t body n ρ:=(rfl)
theorem tO{b e h:Type}{x:Res e}{f:e->List Sl->Res b}{g:b->List Sl->Res h}:(x.bind f).bind g=x.bind λa ρ=>(f a ρ).bind g:=by cases x<;>rfl
@[simp]theorem abU{Γ:Tab}{w n i:Nat}{args:List Sl}{b:Type}{f:R->List Sl->Res b}{Q:b->List Sl->Prop}:((run Γ w n i args).bind f).sat Q=(run Γ w n i args).sat λa ρ=>(f a ρ).sat Q:=bT
@[simp]theorem aaL{Γ:Tab}{w n i:Nat}{args:List Sl}{b e:Type}{f:R->List Sl->Res b}{g:b->List Sl->Res e}:((run Γ w n i args).bind f).bind g=(run Γ w n i args).bind λa ρ=>(f a ρ).bind g:=tO
@[simp]theorem Yz{c:Call}{is:List Nat}{one:Bool}{b:Option P}{e:P}{ds:List D}{ρ:List Sl}{g:Type}{f:List D->List Sl->Res g}{Q:g->List Sl->Prop}:((pR c is one b e ds ρ).bind f).sat Q=(pR c is one b e ds ρ).sat λa ρ=>(f a ρ).sat Q:=bT
@[simp]theorem Y8{c:Call}{is:List Nat}{one:Bool}{b:Option P}{e:P}{ds:List D}{ρ:List Sl}{h i:Type}{f:List D->List Sl->Res h}{g:h->List Sl->Res i}:((pR c is one b e ds ρ).bind f).bind g=(pR c is one b e ds ρ).bind λa ρ=>(f a ρ).bind g:=tO
@[simp]theorem acs{is:List Nat}{one:Bool}{b:List Sl->Res Fl}{ds:List D}{ρ:List Sl}{e:Type}{f:Fl->List Sl->Res e}{Q:e->List Sl->Prop}:((iH is one b ds ρ).bind f).sat Q=(iH is one b ds ρ).sat λa ρ=>(f a ρ).sat Q:=bT
@[simp]theorem Y6{b e:Type}{p:Prop}[Decidable p]{a:e}{ρ:List Sl}{f:e->List Sl->Res b}{Q:b->List Sl->Prop}:((lift (if p then some a else none) ρ).bind f).sat Q=(p/\(f a ρ).sat Q):=by by_cases h:p<;>simp[h,lift,Res.bind]
@[simp]theorem Zy{b e h:Type}{p:Prop}[Decidable p]{a:e}{ρ:List Sl}{f:e->List Sl->Res b}{g:b->List Sl->Res h}:((lift (if p then some a else none) ρ).bind f).bind g=(lift (if p then some a else none) ρ).bind λa ρ=>(f a ρ).bind g:=tO
@[simp]theorem bb_ite{b a:Type}{p:Prop}[Decidable p]{x y:Res a}{f:a->List Sl->Res b}:(if p then x else y).bind f=if p then x.bind f else y.bind f:=by by_cases h:p<;>simp[h]
@[simp]theorem aa3{c:Call}{n k:Nat}{t:P}{b:List S}{ρ:List Sl}{e:Type}{f:Fl->List Sl->Res e}{Q:e->List Sl->Prop}:((Ex c n t b k ρ).bind f).sat Q=(Ex c n t b k ρ).sat λa ρ=>(f a ρ).sat Q:=bT
@[simp]theorem ab2{b e:Type}{a:b}{ρ:List Sl}{f:b->List Sl->Res e}:(Res.ok a ρ).bind f=f a ρ:=rfl
@[simp]theorem Ua{a b:Type}{f:a->List Sl->Res b}:(Res.stuck:Res a).bind f=.stuck:=rfl
@[simp]theorem Xc{b:Type}{a:b}{ρ:List Sl}:lift (some a) ρ=.ok a ρ:=rfl
@[simp]theorem Wl{a:Type}{ρ:List Sl}:lift (none:Option a) ρ=.stuck:=rfl
noncomputable def Eg:List Sl->Nat->Sl->List Sl|[],_,_=>[]|t::ρ,0,s=>dB t (some s)::ρ|t::ρ,k+1,s=>t::Eg ρ k s
theorem o7{k:Nat}{s:Sl}:Eg [] k s=[]:=rfl
theorem pU{t:Sl}{ρ:List Sl}{s:Sl}:Eg (t::ρ) 0 s=dB t (some s)::ρ:=rfl
theorem qF{t:Sl}{ρ:List Sl}{k:Nat}{s:Sl}:Eg (t::ρ) (k+1) s=t::Eg ρ k s:=rfl
noncomputable def bk:List Arg->List Sl->List Sl->List Sl|.dY k::as,s::ss,ρ=>bk as ss (Eg ρ k s)|.dat _::as,_::ss,ρ=>bk as ss ρ|.tmp _::as,_::ss,ρ=>bk as ss ρ|_,_,ρ=>ρ
section
variable{t s:Sl}{ρ ss:List Sl}{k:Nat}{as:List Arg}{d:D}{ds:List D}
@[simp]theorem adL:Eg (t::ρ) 0 s=dB t (some s)::ρ:=rfl
@[simp]theorem adx:Eg (t::ρ) (k+1) s=t::Eg ρ k s:=rfl
@[simp]theorem Q5:bk (.dY k::as) (s::ss) ρ=bk as ss (Eg ρ k s):=rfl
@[simp]theorem QZ:bk (.dat d::as) (s::ss) ρ=bk as ss ρ:=rfl
@[simp]theorem RM:bk (.tmp ds::as) (s::ss) ρ=bk as ss ρ:=rfl
@[simp]theorem aa0:bk [] ss ρ=ρ:=rfl
end
theorem yF{s:Sl}:∀{ρ:List Sl}{k j:Nat},(Eg ρ k s)[j]?=(ρ[j]?).map λt=>if j=k then dB t (some s)else t|[],_,_=>by simp[o7,pU,qF]|t::ρ,0,0=>by simp[o7,pU,qF]|t::ρ,0,j+1=>by simp[o7,pU,qF]|t::ρ,k+1,0=>by simp[o7,pU,qF]|t::ρ,k+1,j+1=>by have:=yF (s:=s) (ρ:=ρ) (k:=k) (j:=j);simp only[o7,pU,qF,List.getElem?_cons_succ,this];congr 1;funext t;simp
theorem wG{as:List Arg}{ss:List Sl}:∀{ρ:List Sl}{i j:Nat},(dJ as ss i ρ)[j]?=(ρ[j]?).map λt=>dB t (aM (i+j) as ss)|[],_,_=>by simp[oY,lz]|t::ρ,i,0=>by simp[oY,lz]|t::ρ,i,j+1=>by have:=wG (as:=as) (ss:=ss) (ρ:=ρ) (i:=i+1) (j:=j);simp only[oY,lz,List.getElem?_cons_succ,this];rw[show i+1+j=i+(j+1)by omega]
def stb(t:Sl):Prop:=∀x,dB t x=t
def PQ(ρ:List Sl):List Arg->Prop|[]=>True|.dY k::as=>(Arg.dY k∈as->∀t,ρ[k]?=some t->stb t)/\PQ ρ as|_::as=>PQ ρ as
theorem oR{ρ:List Sl}:∀{as:List Arg}{a:List Sl},PQ ρ as->(∀k,Arg.dY k∈as->∀t,a[k]?=some t->ρ[k]?=some t\/stb t)->PQ a as
 |[],_,_,_=>trivial|.dY k::as,a,h,g=>⟨λf t ht=>by
  rcases g k (by simp) t ht with e|e;.exact h.1 f t e
  .exact e,oR h.2 λj b=>g j (by simp[b])⟩|.dat _::as,a,h,g=>oR (as:=as) h λj b=>g j (by simp[b])|.tmp _::as,a,h,g=>oR (as:=as) h λj b=>g j (by simp[b])
theorem mF{k:Nat}:∀{as:List Arg}{ss:List Sl},Arg.dY k∉as->aM k as ss=none|[],_,_=>by unfold aM;rfl|.dY j::as,[],_=>rfl|.dat _::as,[],_=>rfl|.tmp _::as,[],_=>rfl|.dY j::as,s::ss,h=>by simp only[mem_cons,Arg.dY.injEq,not_or]at h;rw[aM,if_neg (λe=>h.1 e.symm),mF h.2]|.dat _::as,s::ss,h=>by simp only[mem_cons,not_or]at h;rw[aM,mF h.2]|.tmp _::as,s::ss,h=>by simp only[mem_cons,not_or]at h;rw[aM,mF h.2]
theorem zO:∀{as:List Arg}{ss ρ:List Sl},PQ ρ as->∀j,(bk as ss ρ)[j]?=(ρ[j]?).map λt=>dB t (aM j as ss)
 |[],ss,ρ,_,j=>by cases ss<;>simp[aM]|.dY k::as,[],ρ,_,j=>by rw[show bk (.dY k::as) [] ρ=ρ from rfl];simp[aM]|.dat d::as,[],ρ,_,j=>by rw[show bk (.dat d::as) [] ρ=ρ from rfl];simp[aM]|.tmp d::as,[],ρ,_,j=>by rw[show bk (.tmp d::as) [] ρ=ρ from rfl];simp[aM]|.dat _::as,s::ss,ρ,h,j=>by rw[QZ,aM];exact zO (as:=as) h j|.tmp _::as,s::ss,ρ,h,j=>by rw[RM,aM];exact zO (as:=as) h j|.dY k::as,s::ss,ρ,h,j=>by
   have b:PQ (Eg ρ k s) as:=oR h.2 λi f t ht=>by rw[yF]at ht;cases e:ρ[i]?with|none=>rw[e]at ht;cases ht|some t0=>
      rw[e]at ht;by_cases c:i=k;.subst c;have hs:=h.1 f t0 e;simp[hs (some s)]at ht;exact .inl (by rw[ht])
      .simp[c]at ht;exact .inl (by rw[ht])
   rw[Q5,zO b j,yF,aM];cases e:ρ[j]?with|none=>rfl|some t0=>
     simp only[Option.map_some];by_cases c:j=k
     . subst c;rw[if_pos rfl,if_pos rfl];by_cases a:Arg.dY j∈as;.have hs:=h.1 a t0 e;rw[hs (some s),hs]
       .rw[mF a,Hk]
     .rw[if_neg c,if_neg (λz=>c z.symm)]
theorem fJ{ρ:List Sl}{k:Nat}{b:Bool}{ds:List D}(e:ρ[k]?=some (.own b ds)):∀{as:List Arg}{u:List Nat}{r:List Sl},k∈u->bK ρ as u=some r->Arg.dY k∉as
 |[],_,_,_,_=>by simp|.dat _::as,u,r,a,h=>by simp only[yd,zp,yt,pQ,map_eq_some_iff]at h;obtain⟨f,h,_⟩:=h;simp[fJ e a h]|.tmp _::as,u,r,a,h=>by simp only[yd,zp,yt,pQ,map_eq_some_iff]at h;obtain⟨f,h,_⟩:=h;simp[fJ e a h]|.dY i::as,u,r,a,h=>by
   rw[pQ]at h;have g:i≠k:=by rintro rfl;rw[e]at h;simp[a]at h
   have:Arg.dY k∉as:=by
    split at h;.obtain⟨f,h,_⟩:=map_eq_some_iff.mp h;exact fJ e a h
    . split at h;.cases h
      .obtain⟨f,h,_⟩:=map_eq_some_iff.mp h;exact fJ e (by simp[a]) h
    . split at h;.cases h
      .obtain⟨f,h,_⟩:=map_eq_some_iff.mp h;exact fJ e (by simp[a]) h
    .cases h
   simp[this];exact λz=>g z.symm
theorem fK{ρ:List Sl}:∀{as:List Arg}{u:List Nat}{r:List Sl},bK ρ as u=some r->PQ ρ as
 |[],_,_,_=>trivial|.dat _::as,u,r,h=>by obtain⟨a,h,_⟩:=map_eq_some_iff.mp h;exact fK (as:=as) h|.tmp _::as,u,r,h=>by obtain⟨a,h,_⟩:=map_eq_some_iff.mp h;exact fK (as:=as) h|.dY i::as,u,r,h=>by
   rw[pQ]at h;split at h;.rename_i b d q;obtain⟨a,h,_⟩:=map_eq_some_iff.mp h;exact⟨λ_ t ht=>by rw[q]at ht;cases ht;exact λx=>CP,fK h⟩
   . rename_i b ds q;split at h;.cases h
     .obtain⟨a,h,_⟩:=map_eq_some_iff.mp h;exact⟨λe=>absurd e (fJ q (by simp) h),fK h⟩
   . rename_i ds q;split at h;.cases h
     .obtain⟨a,h,_⟩:=map_eq_some_iff.mp h;exact⟨λ_ t ht=>by rw[q]at ht;cases ht;exact λx=>yl,fK h⟩
   .cases h
theorem Wk{as:List Arg}{ss r:List Sl}{u:List Nat}(h:bK ρ as u=some r):dJ as ss 0 ρ=bk as ss ρ:=by apply List.ext_getElem?;intro j;rw[wG,zO (fK h),Nat.zero_add]
@[simp]theorem Uy{c:Call}{k:Nat}{as:List Arg}{ρ:List Sl}:qm c k as ρ=match bK ρ as []with|none=>.stuck|some args=>(c k args).bind λr a=>.ok r (bk as a ρ):=by unfold qm;cases e:bK ρ as []with|none=>rfl|some args=>simp only[<-Wk (r:=args) e];cases c k args<;>rfl
theorem dz{one:Bool}{a:P}(J:List Sl->Prop)(g:D->D){Q:List D->List Sl->Prop}(j:J ρ)(h:∀d,d∈ds->∀ρ,J ρ->∃ρ1,bY ρ is one d=some ρ1/\(ev c a ρ1).sat λr b=>g d=r.d/\J b)(k:∀ρ,J ρ->Q (ds.map g) ρ):(pR c is one none a ds ρ).sat Q:=yz J g j h k
theorem sE{one:Bool}{a t:P}(J:List Sl->Prop)(g:D->Option D){Q:List D->List Sl->Prop}(j:J ρ)(h:∀d,d∈ds->∀ρ,J ρ->∃ρ1,bY ρ is one d=some ρ1/\(ev c t ρ1).sat λr ρ2=>∃b,r.d=.bl b/\if b=true then(ev c a ρ2).sat λr f=>g d=some r.d/\J f else g d=none/\J ρ2)(k:∀ρ,J ρ->Q (ds.filterMap g) ρ):(pR c is one (some t) a ds ρ).sat Q:=jL J g j (λd hd ρ j=>by obtain⟨ρ1,e,h1⟩:=h d hd ρ j;refine⟨ρ1,e,?_⟩;rw[u6,iu,bT];refine h1.imp λr ρ2⟨b,e,q⟩=>?_;rw[e];exact q) λρ j=>by simpa using k ρ j
theorem jj{c:Call}{n:Nat}{t:P}{body:List S}(J:Nat->List Sl->Prop){Q:Fl->List Sl->Prop}(h:∀m ρ,J m ρ->(ev c t ρ).sat λr ρ1=>∃b,r.d=.bl b/\if b=true then(gY c n body ρ1).sat (fQ (λρ2=>∃a,a<m/\J a ρ2) Q)else Q .next ρ1):∀{k m:Nat}{ρ:List Sl},m<k->J m ρ->(Ex c n t body k ρ).sat Q|0,m,ρ,f,_=>absurd f (Nat.not_lt_zero _)|k+1,m,ρ,f,j=>by unfold Ex;rw[Gu,bT,iu,bT];refine(h m ρ j).imp λr ρ1⟨b,e,q⟩=>?_;rw[e];show(if b=true then _ else _:Res Fl).sat Q;cases b with|false=>rw[if_neg (by simp)]at q;rw[if_neg (by simp)];exact q|true=>rw[if_pos rfl]at q;rw[if_pos rfl,bT];refine q.imp λfl ρ2 q=>?_;cases fl with|next=>obtain⟨a,g,i⟩:=q;exact jj J h (lt_of_lt_of_le g (Nat.lt_succ_iff.mp f)) i|cont=>obtain⟨a,g,i⟩:=q;exact jj J h (lt_of_lt_of_le g (Nat.lt_succ_iff.mp f)) i|brk=>exact q|ret v=>exact q
@[simp]theorem adI:type_of%@HH.E1:=@HH.E1
@[simp]theorem adJ:type_of%@HH.E2:=@HH.E2
@[simp]theorem ady:type_of%@HH.E3:=@HH.E3
@[simp]theorem adB:type_of%@HH.E4:=@HH.E4
@[simp]theorem adE:type_of%@HH.E5:=@HH.E5
@[simp]theorem adF:type_of%@HH.E6:=@HH.E6
@[simp]theorem adt:type_of%@HH.E7:=@HH.E7
@[simp]theorem adN:type_of%@HH.E8:=@HH.E8
@[simp]theorem aaQ:type_of%@HH.E9:=@HH.E9
@[simp]theorem ack:type_of%@HH.E10:=@HH.E10
@[simp]theorem aa6:type_of%@HH.E11:=@HH.E11
@[simp]theorem abH:type_of%@HH.E12:=@HH.E12
@[simp]theorem abe:type_of%@HH.E13:=@HH.E13
@[simp]theorem aaB:type_of%@HH.E14:=@HH.E14
@[simp]theorem abX:type_of%@HH.E15:=@HH.E15
@[simp]theorem aaz:type_of%@HH.E16:=@HH.E16
@[simp]theorem ZR:type_of%@HH.Wc:=@HH.Wc
@[simp]theorem ab0:type_of%@HH.E17:=@HH.E17
@[simp]theorem aba:type_of%@HH.E18:=@HH.E18
@[simp]theorem ab8:type_of%@HH.E19:=@HH.E19
@[simp]theorem aaI:type_of%@HH.E20:=@HH.E20
@[simp]theorem ab6:type_of%@HH.E21:=@HH.E21
@[simp]theorem adZ:type_of%@HH.X1:=@HH.X1
@[simp]theorem adP:type_of%@HH.X2:=@HH.X2
@[simp]theorem adA:type_of%@HH.X3:=@HH.X3
@[simp]theorem adp:type_of%@HH.X4:=@HH.X4
@[simp]theorem adV:type_of%@HH.X5:=@HH.X5
@[simp]theorem adY:type_of%@HH.X6:=@HH.X6
@[simp]theorem adO:type_of%@HH.X7:=@HH.X7
@[simp]theorem adG:type_of%@HH.X8:=@HH.X8
@[simp]theorem abV:type_of%@HH.X9:=@HH.X9
@[simp]theorem abC:type_of%@HH.YK:=@HH.YK
@[simp]theorem abr:type_of%@HH.X11:=@HH.X11
@[simp]theorem abS:type_of%@HH.Z0:=@HH.Z0
@[simp]theorem acp:type_of%@HH.X13:=@HH.X13
@[simp]theorem acw:type_of%@HH.iu.eq_1:=@HH.iu.eq_1
@[simp]theorem aaZ:type_of%@HH.evs.eq_1:=@HH.evs.eq_1
@[simp]theorem aa7:type_of%@HH.evs.eq_2:=@HH.evs.eq_2
@[simp]theorem aa5:type_of%@HH.yp.eq_1:=@HH.yp.eq_1
@[simp]theorem acq:type_of%@HH.yp.eq_2:=@HH.yp.eq_2
@[simp]theorem ab5:type_of%@HH.u6.eq_1:=@HH.u6.eq_1
@[simp]theorem abY:type_of%@HH.u6.eq_2:=@HH.u6.eq_2
@[simp]theorem aa4:type_of%@HH.uZ.eq_1:=@HH.uZ.eq_1
@[simp]theorem W2:type_of%@HH.bK.eq_1:=@HH.bK.eq_1
@[simp]theorem Wu:type_of%@HH.bK.eq_2:=@HH.bK.eq_2
@[simp]theorem Xn:type_of%@HH.bK.eq_3:=@HH.bK.eq_3
@[simp]theorem Xu:type_of%@HH.bK.eq_4:=@HH.bK.eq_4
@[simp]theorem Xh:type_of%@HH.dJ.eq_1:=@HH.dJ.eq_1
@[simp]theorem VP:type_of%@HH.dJ.eq_2:=@HH.dJ.eq_2
@[simp]theorem W3:type_of%@HH.aM.eq_1:=@HH.aM.eq_1
@[simp]theorem Vo:type_of%@HH.aM.eq_2:=@HH.aM.eq_2
@[simp]theorem Wv:type_of%@HH.aM.eq_3:=@HH.aM.eq_3
@[simp]theorem Xv:type_of%@HH.aM.eq_4:=@HH.aM.eq_4
end HH
end
section
namespace HH
open PySem L2 PySem.Spec PyProof.Rows
variable{H:Hp}
section
variable{X:Cx}{c:Call}{a b:Expr}{pa pb:P}{pos:Pos}
theorem pN:∀{ds:List D}{ns:List Int},ds.mapM iy=some ns->ds=ns.map D.int|[],ns,h=>by simp at h;subst h;rfl|d::ds,ns,h=>by simp[List.mapM_cons,Option.bind_eq_some_iff]at h;obtain⟨i,e,g,f,rfl⟩:=h;rw[cL e,pN f];rfl
theorem ie{K:PySem.W.Frag}{F:Hp}:∀{ns:List Int}{ys:List V},aA K F ys (ns.map D.int)->ys=ns.map V.int|[],ys,h=>by rw[h.dO];rfl|n::ns,ys,h=>by obtain⟨v,r,rfl,h1,t⟩:=h.bN;rw[Rep]at h1;rw[h1,ie t];rfl
theorem uP{ns:List Int}{f:List Value}(h:Vals (ns.map V.int) f){i:Nat}{v:Value}(e:f.toArray[i]?=some v):∃t,v=.int (ns.getD i 0) t:=by
 have e:f[i]?=some v:=by simpa using e
 have m:i<f.length:=(dU e).1;have k:=h.length;rw[length_map]at k;have g:(ns.map V.int)[i]?=some (.int (ns.getD i 0)):=by rw[getElem?_map,getElem?_eq_getElem (by omega)];simp[getD,show i<ns.length by omega]
 obtain⟨w,j,l⟩:=h.get g;rw[e]at j;cases j;exact l
theorem walked{h:List (Addr×Obj)}{σ:L2.St}{s:Shared}{p:Addr}{ys:List V}(I:L2.Inv X h σ H s)(hc:X.calm=true)(hq:dg X.K H p ys\/dN X.K H p ys){Q:Value->Shared->Prop}{E:Value->Shared->Prop}(k:∀(l:Addr)(g:List Value)(e:Shared)(St:Nat->Heap->Prop),Vals ys g->Walks X.prog X.w X.A.in1 l [l,p] [l] g.toArray.size (λi v=>g.toArray[i]?=some v) St->St 0 e.heap->(∀ b ∈[l,p],b<e.heap.objs.size)->(∀h' n,(∀b o,b∉[l]->e.heap.get? b=some o->h'.get? b=some o)->L2.Inv X h σ H {e with heap:=h',toks:=n})->Q (.ref l) e):wpAny (model X.prog X.w) X.A.in1 (pyIter (.ref p)) Q E s:=by
 have t:X.A.in1.handled=none:=I.ok.hd hc;rcases hq with hq|hq
 . obtain⟨g,q,f,hz⟩:=I.list hq;have f:=f.isList;have j:p<s.heap.objs.size:=by obtain⟨o,h1,_⟩:=f;exact lt_size h1
   refine wpAny_pyIter_list f (k s.heap.objs.size g _ _ q (Walks.list t s.heap.objs.size p (ne_of_lt j) g.toArray) ⟨⟨_,get?_push_size _ rfl,rfl,rfl⟩,?_⟩ ?_ λh' n kp=>?_);.obtain⟨o,h1,r⟩:=f;exact⟨o,du h1,r⟩
   . intro b m;obtain⟨o,h1,_⟩:=f;simp at m;rcases m with rfl|rfl;.exact lt_size (get?_push_size _ rfl)
     .exact lt_size (du h1)
   .exact I.kept (λb o z=>kp b o (by simp;exact ne_of_lt (lt_size z)) (du z))
 . obtain⟨g,q,f,hz⟩:=I.tuple hq;have j:p<s.heap.objs.size:=by obtain⟨o,h1,_⟩:=f;exact lt_size h1
   refine wpAny_pyIter_tuple f (k s.heap.objs.size g _ _ q (Walks.tuple t s.heap.objs.size p (ne_of_lt j) g.toArray) ⟨⟨_,get?_push_size _ rfl,rfl,rfl⟩,?_⟩ ?_ λh' n kp=>?_);.obtain⟨o,h1,r⟩:=f;exact⟨o,du h1,r⟩
   . intro b m;obtain⟨o,h1,_⟩:=f;simp at m;rcases m with rfl|rfl;.exact lt_size (get?_push_size _ rfl)
     .exact lt_size (du h1)
   .exact I.kept (λb o z=>kp b o (by simp;exact ne_of_lt (lt_size z)) (du z))
theorem nH(ns:List Int):∀k,k<=ns.length->preSum (λi=>ns.getD i 0) k=(ns.take k).sum|0,_=>by simp[preSum]|k+1,h=>by rw[preSum,nH ns k (by omega),List.take_succ,List.sum_append];simp[getD,show k<ns.length by omega]
theorem V1(hc:X.calm=true):dH X (.builtin "sum") (J8 X.K λx=>blt .sum [x]):=by
 rintro g s σ H xs h Q I r⟨x,o,F,d,q,j,t,he,k⟩;obtain⟨ns,w,he⟩:=map_some (show((items d).bind λds=>ds.mapM iy).map _=some q from he);subst he;obtain⟨ds,y,A⟩:=bZ w;obtain⟨p,ys,rfl,B,l⟩:=t.items j y;rw[pN A]at l;have C:=ie l;subst o;obtain⟨u,rfl,E⟩:=r.one;cases E;refine call_sum_walkG (walked I hc B λG h m St n W h0 J kp=>?_);subst C;have f:h.toArray.size=ns.length:=by rw[size_toArray,<-n.length,length_map]
 refine⟨G,_,_,_,_,St,λi=>ns.getD i 0,rfl,W,h0,J,λi v e=>uP n e,λh' L t' M=>?_⟩;rw[f,nH ns _ (cQ),List.take_length];exact⟨.int _,H,kp h' L M,⟨t',rfl⟩,cg.dw j (bW _) k⟩
theorem G9{ns:List Int}{m:Int}(k:ns.min?=some m):ns.getD (argBest (λi j=>decide (ns.getD i 0<ns.getD j 0)) (ns.length-1)) 0=m:=by
 have h:ns≠[]:=by rintro rfl;simp at k
 have r:0<ns.length:=List.length_pos_iff.mpr h;obtain⟨h1,n⟩:=argBest_lt (λi=>ns.getD i 0) (ns.length-1);have l:=List.min?_eq_some_iff.mp k;generalize argBest (λi j=>decide (ns.getD i 0<ns.getD j 0)) (ns.length-1)=j at*;have o:j<ns.length:=by omega
 have f:ns.getD j 0∈ns:=by simp[getD,o]
 obtain⟨q,p,e⟩:=List.getElem_of_mem l.1;have g:=n q (by omega);simp only[getD,getElem?_eq_getElem p,Option.getD_some]at g;rw[e]at g;have s:=l.2 _ f;have g:ns.getD j 0<=m:=g;omega
theorem S7(hc:X.calm=true):dH X (.builtin "min") (J8 X.K λx=>blt .Jc [x]):=by
 rintro j s σ H xs l Q I r⟨x,A,F,d,B,n,C,he,k⟩;obtain⟨ns,E,he⟩:=bZ (show((items d).bind λds=>ds.mapM iy).bind _=some B from he);obtain⟨m,o,he⟩:=map_some he;subst he;obtain⟨ds,G,J⟩:=bZ E;obtain⟨p,ys,rfl,L,q⟩:=C.items n G;rw[pN J]at q;have M:=ie q;subst A;obtain⟨u,rfl,N⟩:=r.one;cases N;refine call_min_walk (walked I hc L λO l w St h W h0 U kp=>?_);subst M;have f:l.toArray.size=ns.length:=by rw[size_toArray,<-h.length,length_map]
 have g:0<ns.length:=by cases ns with|nil=>simp at o|cons _ _=>simp
 refine⟨O,_,_,_,_,St,_,rfl,W,h0,U,by rw[f];exact g,CmpOf.ints_lt (λi=>ns.getD i 0) (λi v e=>uP h e),λv h' Y y Z=>?_⟩;rw[f]at y;obtain⟨t,rfl⟩:=uP h y;rw[G9 o];exact⟨.int _,H,kp h' Y Z,⟨t,rfl⟩,cg.dw n (bW _) k⟩
theorem boot_sum:bootBuiltins "sum"=some (.builtin "sum"):=by decide+kernel
theorem Il{x:Str}{e:Pos}(f:x="sum")(hc:X.calm=true)(g:Gl X x)(i:X.mg x=none)(j:SX X c a pa)(hs:starEach [a] X.env=(false,eval a X.env)::starEach [] X.env:=by rfl):SX X c (.Call (.Name x e) [a] [] pos) (.blt .sum [pa]):=by subst f;exact nJ (λh=>eO (V1 hc) g i boot_sum h (he:=hs)) j (λρ=>rfl) rfl hs
theorem J1{x:Str}{e:Pos}(f:x="min")(hc:X.calm=true)(g:Gl X x)(i:X.mg x=none)(j:SX X c a pa)(hs:starEach [a] X.env=(false,eval a X.env)::starEach [] X.env:=by rfl):SX X c (.Call (.Name x e) [a] [] pos) (.blt .Jc [pa]):=by subst f;exact nJ (λh=>eO (S7 hc) g i boot_min h (he:=hs)) j (λρ=>rfl) rfl hs
theorem xT{K:PySem.W.Frag}{F H:Hp}{v:V}{d:D}(h:cN K F H v d)(f:flat d=true):kj v=true:=by cases d with|non=>rw[h.non];rfl|bl _=>rw[h.bl];rfl|int _=>rw[h.int];rfl|str _=>rw[h.str];rfl|tup _=>cases f|lst _=>cases f|cX _=>cases f|dv _ _=>cases f
theorem aa8{K:PySem.W.Frag}{F H:Hp}{v u:V}{d e:D}(h:cN K F H v d)(h':cN K F H u e)(f:flat d=true)(g:flat e=true):Lb v u=jq d e:=by cases d with
 |tup _=>cases f|lst _=>cases f|cX _=>cases f|dv _ _=>cases f|non=>rw[h.non];cases e with|tup _=>cases g|lst _=>cases g|cX _=>cases g|dv _ _=>cases g|non=>rw[h'.non];rfl|bl _=>rw[h'.bl];rfl|int _=>rw[h'.int];rfl|str _=>rw[h'.str];rfl
 |bl _=>rw[h.bl];cases e with|tup _=>cases g|lst _=>cases g|cX _=>cases g|dv _ _=>cases g|non=>rw[h'.non];rfl|bl _=>rw[h'.bl];rfl|int _=>rw[h'.int];rfl|str _=>rw[h'.str];rfl
 |int _=>rw[h.int];cases e with|tup _=>cases g|lst _=>cases g|cX _=>cases g|dv _ _=>cases g|non=>rw[h'.non];rfl|bl _=>rw[h'.bl];rfl|int _=>rw[h'.int];rfl|str _=>rw[h'.str];rfl
 |str _=>rw[h.str];cases e with|tup _=>cases g|lst _=>cases g|cX _=>cases g|dv _ _=>cases g|non=>rw[h'.non];rfl|bl _=>rw[h'.bl];rfl|int _=>rw[h'.int];rfl|str _=>rw[h'.str];rfl
theorem RV{K:PySem.W.Frag}{F H:Hp}{v:V}{d:D}(h:cN K F H v d)(f:flat d=true):∀{ds:List D}{vs:List V},aA K F vs ds->ds.all flat=true->vs.all kj=true/\inV v vs=ds.any λy=>jq y d|[],vs,r,_=>by rw[r.dO];exact⟨rfl,rfl⟩|e::ds,vs,r,g=>by obtain⟨w,ws,rfl,h1,t⟩:=r.bN;rw[all_cons,and_eq_true]at g;obtain⟨j,i⟩:=RV h f t g.2;have q:cN K F H w e:=.inl h1;refine⟨by rw[all_cons,xT q g.1,j];rfl,?_⟩;unfold inV at i ⊢;rw[any_cons,any_cons,i,aa8 q h g.1 f]
theorem Ku:gk X (compareOp .In) (rD X.K (uZ .inn)):=by rintro f s σ H x y v u Q I j l⟨F,d,e,r,h,i,m,he,k⟩;obtain⟨t,n,o⟩:=map_some (show(vp false d e).map _=some r from he);subst o;obtain⟨ds,q,w⟩:=bZ n;obtain⟨g,A⟩:=aU w;rw[and_eq_true]at g;obtain⟨p,xs,rfl,B,C⟩:=m.items h q;obtain⟨E,G⟩:=RV i g.1 C g.2;subst A;refine CW f s σ H x _ v u Q I j l ⟨p,xs,rfl,B,xT i g.1,E,?_⟩;rw[G];exact cg.dw h (fc _) k
theorem Cu:gk X (compareOp .NotIn) (rD X.K (uZ .BX)):=by rintro f s σ H x y v u Q I j l⟨F,d,e,r,h,i,m,he,k⟩;obtain⟨t,n,o⟩:=map_some (show(vp true d e).map _=some r from he);subst o;obtain⟨ds,q,w⟩:=bZ n;obtain⟨g,A⟩:=aU w;rw[and_eq_true]at g;obtain⟨p,xs,rfl,B,C⟩:=m.items h q;obtain⟨E,G⟩:=RV i g.1 C g.2;subst A;refine tV f s σ H x _ v u Q I j l ⟨p,xs,rfl,B,xT i g.1,E,?_⟩;rw[G];exact cg.dw h (fc _) k
end
end HH
end
section
namespace HH
open PySem
section
variable{i j:Int}{ds es:List D}{d:D}{b b':Bool}
@[simp]theorem Y9:rA .shl=Gz:=rfl
@[simp]theorem ZQ:rA .shr=Ga:=rfl
@[simp]theorem VG:rA .band=yh:=rfl
@[simp]theorem T7:Gz (.int i) (.int j)=if 0<=j/\j<=1000/\i.natAbs<18446744073709551616 then some (.val (.int (i*2^j.toNat)))else none:=rfl
@[simp]theorem Ub:Ga (.int i) (.int j)=if 0<=j then some (.val (.int (i/2^j.toNat)))else none:=rfl
@[simp]theorem Rw:yh (.int i) (.int j)=some (.val (.int (Builtin.bitAnd i j))):=rfl
@[simp]theorem U9:qC (.lst ds) (.int i)=if 0<=i/\0<ds.length/\ds.length*i.toNat<=lim then some (.own (replicate i.toNat ds).flatten)else none:=rfl
@[simp]theorem Us:qC (.tup ds) (.int i)=if 0<=i/\0<ds.length/\ds.length*i.toNat<=lim then some (.val (.tup (replicate i.toNat ds).flatten))else none:=rfl
@[simp]theorem aaG:cm .isT (.bl b) (.bl true)=some b:=rfl
@[simp]theorem Zu:cm .XC (.bl b) (.bl true)=some (!b):=rfl
@[simp]theorem Zc:blt .sum [.lst ds]=(ds.mapM iy).map λns=>.val (.int ns.sum):=rfl
@[simp]theorem Wm:blt .Jc [.lst ds]=(ds.mapM iy).bind λns=>ns.min?.map λi=>.val (.int i):=rfl
end
@[simp]theorem aco:type_of%@HH.X15:=@HH.X15
theorem wK{ns:List Int}:(ns.map D.int).mapM iy=some ns:=by induction ns with|nil=>rfl|cons n ns a=>simp[a]
@[simp]theorem U3{ns:List Int}:ns.mapM (iy ∘ D.int)=some ns:=by rw[<-wK (ns:=ns),List.mapM_map]
@[simp]theorem Wj{bs:List Bool}:bs.mapM (zy ∘ D.bl)=some bs:=by induction bs with|nil=>rfl|cons b bs a=>simp[a]
theorem Ax{S:List Int}{i:Int}:((S.map D.int).any λy=>jq y (.int i))=S.contains i:=by induction S with|nil=>rfl|cons s S a=>rw[map_cons,any_cons,List.contains_cons,a,pqi];rw[show(s==i)=(i==s)from Bool.eq_iff_iff.mpr ⟨λh=>by simp at h ⊢;exact h.symm,λh=>by simp at h ⊢;exact h.symm⟩]
theorem wB{S:List Int}:(S.map D.int).all flat=true:=by rw[all_eq_true];intro d hd;obtain⟨i,_,rfl⟩:=mem_map.mp hd;rfl
theorem yq{S:List Int}{i:Int}:cm .inn (.int i) (.tup (S.map D.int))=some (S.contains i):=by show vp false _ _=_;unfold vp;simp only[rM,bind_some,wM,wB,Bool.and_true,Ax];rfl
theorem nj{S:List Int}{i:Int}:cm .BX (.int i) (.tup (S.map D.int))=some (!S.contains i):=by show vp true _ _=_;unfold vp;simp only[rM,bind_some,wM,wB,Bool.and_true,Ax];rfl
theorem oW{n:Nat}{S:List Int}:gO (n+1) (.lst (S.map D.int))=true:=by rw[bj,all_eq_true];intro d hd;obtain⟨i,_,rfl⟩:=mem_map.mp hd;cases n<;>rfl
theorem jo:∀{S T:List Int},iW (S.map D.int) (T.map D.int)=(S==T)|[],[]=>by simp[lE,iD,qD,qz]|[],_::_=>by simp[lE,iD,qD,qz]|_::_,[]=>by simp[lE,iD,qD,qz]|s::S,t::T=>by rw[map_cons,map_cons,iD,jo,pqi];rfl
theorem Zd{S T:List Int}:cm .eq (.lst (S.map D.int)) (.lst (T.map D.int))=some (S==T):=by show G7 _ _=_;unfold G7;rw[oW,oW,YZ,jo];rfl
theorem J4{S T:List Int}:cm .ne (.lst (S.map D.int)) (.lst (T.map D.int))=some (!(S==T)):=by show Gd _ _=_;unfold Gd;rw[oW,oW,YZ,jo];rfl
theorem dm{a:Type}{l:List a}{f:a->D}{k:Nat}{x:a}(h:l[k]?=some x):at' (l.map f) (k:Int)=some (f x):=by have b:=(dU h).1;rw[Ih (by simpa using b),getElem?_map,h];rfl
theorem Ss{n k:Nat}(h:k<n):iT n (k:Int)=some k:=by unfold iT;rw[if_pos (by omega),if_pos (by omega)];simp
theorem gQ{b:List Nat}{one:Bool}{body:List Sl->Res Fl}{g:Nat->D}{N:Nat}(J:Nat->List Sl->Prop){Q:Fl->List Sl->Prop}(c:∀i ρ,i<N->J i ρ->∃ρ1,bY ρ b one (g i)=some ρ1/\(body ρ1).sat (fQ (J (i+1)) Q))(f:∀ρ,J N ρ->Q .next ρ){ρ:List Sl}(h0:J 0 ρ):(iH b one body ((List.range N).map g) ρ).sat Q:=by
 refine cM (λr ρ=>∃i,i<=N/\r=((List.range N).map g).drop i/\J i ρ) ?_ ?_ ⟨0,vy,rfl,h0⟩
 . rintro d r ρ⟨i,k,e,j⟩;have a:i<N:=by
    rcases Nat.lt_or_ge i N with h|h;.exact h
    .rw[List.drop_eq_nil_of_le (by simpa using h)]at e;cases e
   rw[drop_eq_getElem_cons (by simpa using a)]at e;injection e with e1 e2;simp at e1;subst e1;obtain⟨ρ1,h1,l⟩:=c i ρ a j;refine⟨ρ1,h1,l.imp λfl ρ2 q=>?_⟩;cases fl with|next=>exact⟨i+1,a,e2,q⟩|cont=>exact⟨i+1,a,e2,q⟩|brk=>exact q|ret v=>exact q
 . rintro ρ⟨i,k,e,j⟩;have:i=N:=by have m:=congrArg List.length e;simp at m;omega
   subst this;exact f ρ j
inductive A3(a b c:Prop):Prop where|mk(ha:a)(hb:b)(hc:c)
inductive A4(a b c d:Prop):Prop where|mk(ha:a)(hb:b)(hc:c)(hd:d)
inductive A5(a b c d e:Prop):Prop where|mk(ha:a)(hb:b)(hc:c)(hd:d)(he:e)
inductive A6(a b c d e f:Prop):Prop where|mk(ha:a)(hb:b)(hc:c)(hd:d)(he:e)(hf:f)
inductive A7(a b c d e f g:Prop):Prop where|mk(ha:a)(hb:b)(hc:c)(hd:d)(he:e)(hf:f)(hg:g)
inductive A8(a b c d e f g h:Prop):Prop where|mk(ha:a)(hb:b)(hc:c)(hd:d)(he:e)(hf:f)(hg:g)(hh:h)
inductive A9(a b c d e f g h i:Prop):Prop where|mk(ha:a)(hb:b)(hc:c)(hd:d)(he:e)(hf:f)(hg:g)(hh:h)(hi:i)
end HH
end
section
namespace HH
open PySem L2 PySem.Spec PyProof.Rows
section
variable{X:Cx}{c:Call}{n:Nat}{e a b d tg:Expr}{p pa pb pd:P}{pos:Pos}
theorem Q6{g:TG}{f:List Nat}(he:SX X c e p)(o:PG X tg g)(i:Hl X.K (λρ d=>bY ρ f false d) g)(hs:swapsWithSole [tg] e pos.line X.env=pure false:=by rfl)(q:swappedStores [tg] e X.env=pure none:=by rfl)(h1:(assignEach [tg] X.env).map (·.2)=[assign tg X.env]:=by rfl):SS X c n (.Assign [tg] e pos) (.unp f p):=by
 refine fW (Ja he.ev o hs q h1) ?_;rintro D σ H⟨F,ρ,fl,s,t,e,k⟩;rw[HH.X7]at e;obtain⟨r,ρ1,u,e⟩:=aa e;refine⟨F,ρ,r,ρ1,t,u,λv F1 l s1 w=>?_⟩;obtain⟨F2,s2,_,m⟩:=s1.cG w;split at e;.rename_i ds hd;obtain⟨ρ2,x,h,e⟩:=aa e;cases e;have y:=aF h;clear h;obtain⟨h,A⟩:=y;rw[hd]at m;exact i v (.tup ds) F2 ρ1 _ σ l _ s2.gs m (by show bY ρ1 f false (.tup ds)=_;cases f<;>exact h) λj s3=>k F2 j l (s2.trans s3)
 .cases e
end
end HH
end
section
namespace HT
open PySem PySem.Spec PyProof.Rows
section
variable{prog:Program}{w:World}{A:Around}{E:Value->Shared->Prop}{s:Shared}
theorem xr{t sl:Addr}{a:Array Value}{g i:Value}{lo b:Option Int}{Q:Value->Shared->Prop}(ht:IsTup s.heap t a)(hs:s.heap.IsSliceOf sl g i .none)(j:IsPart g lo)(k:IsPart i b)(h1:cT a.size 0 lo=0)(l:cT a.size a.size b=a.size)(h:Q (.ref t) s):wpAny (model prog w) A (getItem (.ref t) (.ref sl)) Q E s:=by
 obtain⟨os,c,e,m⟩:=id hs;have n:s.TypeIs (.ref sl) "slice":=⟨os,c,e⟩;unfold getItem;try with_reducible refine wpAny_holding ?_
 first|refine wpAny_bind (wpAny_pure ?_)|skip
 refine wpAny_bind (wpAny_sequenceKey ht.typeIs (by decide) (wpAny_bind (wpAny_callSpecial?_slot (name:=Str.ofString "__getitem__") ht.typeIs slot_tuple_getitem (wpAny_call_entry slot_tuple_getitem ht.typeIs entry_tuple_getitem ?_ (args_tuple_getitem _ _)))));show wpAny _ _ (tupleItemsOf (.ref t)>>=_) _ _ s;refine wpAny_bind (tupleItemsOf_ ht (wpAny_bind (wpAny_typeOf n ?_)));rw[if_pos (by decide)];refine wpAny_bind (gP hs j k ?_);have f:((((cT a.size 0 lo:Nat):Int)==0&&(1:Int)==1&&(cT a.size a.size b-cT a.size 0 lo)==a.size)=true):=by rw[h1,l];simp
 show wpAny _ _ (if(((cT a.size 0 lo:Nat):Int)==0&&(1:Int)==1&&(cT a.size a.size b-cT a.size 0 lo)==a.size)=true then _ else _) _ _ s;rw[if_pos f];unfold Builtin.Tuple.tupleIsExact;refine wpAny_bind (wpAny_bind (wpAny_typeOf ht.typeIs (wpAny_pure ?_)));rw[if_pos (by decide)];exact wpAny_bind (wpAny_rule (wpAny_pure ⟨_,rfl,wpAny_pure h⟩))
end
end HT
namespace HH
open PySem L2 PySem.Spec PyProof.Rows
noncomputable def nst:Expr->Bool|.Starred _ _=>false|_=>true
theorem aJ{e:Expr}{es:List Expr}{env:Env}(h:nst e=true):starEach (e::es) env=(false,eval e env)::starEach es env:=by cases e with|Starred a b=>cases h|_=>rw[starEach];(intro e p z;cases z)
noncomputable def qe:List Int->List Expr->Option (List Expr)|[],es=>some es|i::a,.Constant (.int j) _ _::es=>if i=j then qe a es else none|_,_=>none
theorem uo{X:L2.Cx}{c:Call}:∀(b:List Int){es es':List Expr}{a:List P},qe b es=some es'->SA X c es' a->SA X c es (b.map (λi=>P.con (.int i))++a)|[],es,es',a,h,r=>by cases h;exact r|i::b,[],es',a,h,r=>by cases h|i::b,e::es,es',a,h,r=>by cases e with
   |Constant v k p=>cases v with
     |int j=>
       replace h:(if i=j then qe b es else none)=some es':=h;split at h;.rename_i f;subst f;exact Af aj (uo b h r) (aJ rfl)
       .cases h|_=>cases h
   |_=>cases h
theorem tR{n d:Nat}{o:Option Int}:HT.cT n d o=HH.cT n d o:=by cases o with|none=>rfl|some v=>
   show(if v<0 then(v+(n:Int)).toNat else min v.toNat n)=(if 0<=v then min v.toNat n else(v+n).toNat);by_cases h:0<=v;.rw[if_pos h,if_neg (by omega)]
   .rw[if_neg h,if_pos (by omega)]
theorem G5{xs:List V}{lo a:Option Int}:vU xs lo a=HH.cut xs lo a:=by unfold vU HH.cut;rw[tR,tR]
theorem aA.cut{K:PySem.W.Frag}{F:Hp}{ds:List D}{vs:List V}{lo a:Option Int}(h:aA K F vs ds):aA K F (HH.cut vs lo a) (HH.cut ds lo a):=by unfold HH.cut;rw[h.length];exact(h.drop _).take _
section
variable{X:Cx}{c:Call}{n:Nat}{e a b:Expr}{p pa pb pl ph:P}{pos p2:Pos}{lo hi:Option Expr}
def aby(K:PySem.W.Frag):V->Option Int->Option Int->Hp->VK->Prop:=λx lo hi H Q=>∃F d r,aC F H/\cN K F H x d/\M9 d (some lo) (some hi)=some r/\∀v g f,Ext F H g f->cg K g f H v r->Q v f
theorem Vm:Zq X (aby X.K):=by rintro f s σ H x v u w lo hi sl Q I m hs pl o⟨F,d,r,h,y,he,k⟩;cases d with|lst ds=>cases he;obtain⟨a,xs,rfl,l,i⟩:=y.lst h;refine Ms f s σ H _ v u w lo hi sl Q I m hs pl o ⟨a,xs,rfl,l,λp q=>?_⟩;rw[G5];exact vR h i.cut q k|tup ds=>
   cases he;obtain⟨a,xs,rfl,l,i,rt⟩:=y.tup h;by_cases j:HT.cT xs.length 0 lo=0/\HT.cT xs.length xs.length hi=xs.length
   . cases m;obtain⟨t,A,ht,hz⟩:=I.tuple l;have g:t.toArray.size=xs.length:=by rw[size_toArray];exact A.length.symm
     refine⟨"tuple",_,slot_tuple_getitem.lookup,ht.typeIs,HT.xr ht hs pl o (by rw[g];exact j.1) (by rw[g];exact j.2) ⟨.ref a,H,I,rfl,?_⟩⟩;have hc:HH.cut ds lo hi=ds:=by unfold HH.cut;rw[<-i.length,<-tR,<-tR,j.1,j.2];simp[i.length]
     rw[hc]at k;exact cg.dw h rt k
   .refine Rc f s σ H _ v u w lo hi sl Q I m hs pl o ⟨a,xs,rfl,l,j,λp q=>?_⟩;rw[G5];exact yI h i.cut q k|_=>cases he
def SO(X:Cx)(c:Call)(o:Option Expr)(p:P):Prop:=∃t,PO X o t/\∀{σ:L2.St}{H F:Hp}{ρ f:List Sl}{d:D}{i:Option Int}{Q:Option Int->Hp->Prop},GS X.K F ρ σ H->cV (isVar p) (HH.ev c p) ρ=.ok d f->part p d=some i->(∀h g,az X.K F ρ σ H h f σ g->Q i g)->t σ H Q
theorem Av:SO X c none (.con .non):=by refine⟨_,Mv,λ{σ H F ρ f d i Q}g e h k=>?_⟩;cases(show some none=some i from h);have j:(HH.ev c (.con .non) ρ).bind (λr ρ=>.ok r.d ρ)=.ok d f:=e;clear e;rw[HH.E2]at j;cases j;exact k F H (.refl g)
theorem Ba(h:SX X c e p)(l:Vu p=false:=by rfl):SO X c (some e) p:=by obtain⟨t,h1,m⟩:=h.cV;refine⟨_,Lw h1,λ{σ H F ρ o d i Q}g e f k=>?_⟩;unfold part at f;rw[l,if_neg (by decide)]at f;obtain⟨j,q,r⟩:=map_some f;cases cL q;subst r;exact m g e λv u w s x=>⟨j,x.int,k u w s⟩
theorem xg{d:D}{x y:Option (Option Int)}{r:R}(h:M9 d x y=some r):∃lo hi,x=some lo/\y=some hi:=by cases x with|none=>cases d<;>cases h|some lo=>cases y with|none=>cases d<;>cases h|some hi=>exact⟨lo,hi,rfl,rfl⟩
theorem v7(U:SX X c a pa)(hl:SO X c lo pl)(hh:SO X c hi ph):SX X c (.Subscript a (.Slice lo hi none p2) pos) (.slice pa pl ph):=by obtain⟨tl,W,l2⟩:=hl;obtain⟨th,h1,Y⟩:=hh;cases hv:isVar pa with|none=>refine⟨dZ (vg Vm U.ev W h1) ?_,λi h=>by cases h⟩;rintro σ H Q⟨F,ρ,r,A,g,e,k⟩;rw[HH.E13,hv]at e;obtain⟨x,ρ1,f,j⟩:=aa e;clear e;have Z:(HH.ev c pa ρ).bind (λr ρ=>.ok r.d ρ)=.ok x ρ1:=f;clear f;obtain⟨rx,ac,e1,B⟩:=aa Z;clear Z;cases B;obtain⟨y,ρ2,C,l⟩:=aa j;clear j;obtain⟨z,E,G,m⟩:=aa l;clear l;obtain⟨e,I⟩:=aF m;clear m;subst I;obtain⟨J,L,o,q⟩:=xg e;rw[o,q]at e;refine⟨F,ρ,rx,_,g,e1,λv F1 H1 s1 rr=>?_⟩;obtain⟨F2,s2,_,rp⟩:=s1.cG rr;refine l2 s2.gs C o λF3 H3 s3=>Y s3.gs G q λF4 H4 s4=>?_;have s5:=s2.trans (s3.trans s4);refine⟨F4,_,r,s4.gs.sub,.inl ((rp.mono s3.cu).mono s4.cu),e,λv M N x O=>?_⟩;exact k v M N (s5.trans (x.stp s5.gs)) (.later s5 (O.pB s5.gs))|some i=>refine⟨dZ (vg Vm (U.var i hv) W h1) ?_,λi h=>by cases h⟩;rintro σ H Q⟨F,ρ,r,A,g,e,k⟩;rw[HH.E13,hv]at e;obtain⟨x0,ae,s,j⟩:=aa e;clear e;obtain⟨B,Jg⟩:=aF s;clear s;subst Jg;obtain⟨y,ρ2,C,l⟩:=aa j;clear j;obtain⟨z,E,G,m⟩:=aa l;clear l;obtain⟨x,af,t,ed⟩:=aa m;clear m;obtain⟨e5,e6⟩:=aF t;clear t;subst e6;obtain⟨e,I⟩:=aF ed;clear ed;subst I;obtain⟨J,L,o,q⟩:=xg e;rw[o,q]at e;obtain⟨v,u,_⟩:=g.pk B;refine⟨v,u,l2 g C o λF3 H3 s3=>Y s3.gs G q λF4 H4 s4=>?_⟩;have s5:=s3.trans s4;obtain⟨v',w,pv⟩:=s5.gs.pk e5;rw[u]at w;cases w;refine⟨F4,_,r,s4.gs.sub,pv,e,λv M N x O=>?_⟩;exact k v M N (s5.trans (x.stp s5.gs)) (.later s5 (O.pB s5.gs))
theorem Kl:Z3 X .Add (ipI λi j=>if false then i-j else i+j):=Rk
end
end HH
end
section
namespace L2
open PySem PySem.Spec PyProof.Rows
section
variable{X:Cx}{tg:Expr}
theorem wY:bootBuiltins "tuple"=some (.type "tuple"):=by decide+kernel
theorem pZ:bootBuiltins "reversed"=some (.type "reversed"):=by decide+kernel
end
end L2
namespace HH
open PySem L2 PySem.Spec PyProof.Rows
section
variable{K:PySem.W.Frag}{F F1 H H1:Hp}{ρ ρ1:List Sl}{σ:L2.St}{ds:List D}{a:Addr}
theorem aA.rev:∀{ds:List D}{xs:List V},aA K F xs ds->aA K F xs.reverse ds.reverse|[],_,h=>by rw[h.dO];exact .nil|d::ds,_,h=>by obtain⟨v,r,rfl,h1,b⟩:=h.bN;rw[reverse_cons,reverse_cons];exact(aA.rev b).append (.cons h1 .nil)
end
end HH
end
section
namespace PySem
namespace F
theorem Ho:typeLookup (.type "list_reverseiterator") "__len__"=pure none:=by rw[typeLookup_type,builtinLookup_eq_fast];kernel_rfl
theorem Kd:typeLookup (.type "list_reverseiterator") "__length_hint__"=pure (some (.builtin "list_reverseiterator.__length_hint__")):=by rw[typeLookup_type,builtinLookup_eq_fast];kernel_rfl
end F
section
variable{prog:Program}{w:World}{A:Around}{E:Value->Shared->Prop}{s:Shared}
theorem nW{e l:Addr}{items:Array Value}{Q:Bool->Shared->Prop}(f:s.heap.IsRevIter e l ((items.size:Int)-1))(n:s.heap.IsList l items)(j:items.size<=2^24)(h:∀b k,s.toks<=k->Q b {s with toks:=k}):wpAny (model prog w) A (listLengthHint (.ref e)) Q E s:=by
 have g:=f.typeIs;unfold listLengthHint;refine wpAny_bind (wpAny_specialOf g F.Ho ?_);show wpAny _ _ (specialOf (Value.ref e) (Str.ofString "__length_hint__")>>=_) _ _ _;refine wpAny_bind (wpAny_specialOf g F.Kd ?_);generalize a:("list_reverseiterator.__length_hint__":String)=c;(fail_if_success(clear a c));wp_delta;rw[show splitId c=some ("list_reverseiterator","__length_hint__")from by subst a;decide+kernel];subst a;refine wpAny_bind (wpAny_isInstance (b:=true) g (by rw[isSubtype_type];kernel_rfl) ?_);rw[if_neg (by decide)];dsimp only;split;.refine wpAny_ite_split (λi=>absurd i (by decide+kernel)) (λ_=>?_);exact wpAny_pure (h _ s.toks (cQ))
 .rename_i m;exact absurd (by decide+kernel) m
theorem mG{R:Result->Shared->Prop}{I l:Addr}{items:Array Value}(X:A.handled=none)(j:s.heap.IsRevIter I l ((items.size:Int)-1))(J:s.heap.IsList l items)(L:l≠I)(u:items.size<=2^24)(S:Addr)(m:S≠I)(x:S≠l)(res:Value)(k:Nat)(M:s.heap.get? S=some {cls:=.type "list",data:=.seq #[] k})(Y:∀ h' y a t,(∀ b o,b ≠ S->b ≠ I->s.heap.get? b=some o->h'.get? b=some o)->h'.get? S=some {cls:=.type "list",dict:=none,data:=.seq a t,slots:=#[]}->ItemsOf (λi v=>items[items.size-1-i]?=some v) a items.size->R (.ok (.ret res)) {s with heap:=h',toks:=y}):wpAny (model prog w) A.in1 (listExtendWith (.ref S) (.ref I) res) (λfin n=>match fin with|.done f=>R (.ok f) n|.again t=>t.quiet=true/\codeAny (model prog w) A t R n) (λe n=>R (.error e) n) s:=by
 have N:S∉[I,l]:=λhm=>by
  rcases mem_cons.mp hm with e|hm;.exact m e
  .exact x (mem_singleton.mp hm)
 have W:=(Walks.listRev (prog:=prog) (w:=w) (A:=A.in1) X I l L items).toS;have Z:s.TypeIs (.ref I) "list_reverseiterator":=j.typeIs;have B:∀(h:Heap)(c y:Nat),h.IsRevIter I l ((items.size:Int)-1-((0:Nat):Int))->h.IsList l items->(∀b o,b≠S->s.heap.get? b=some o->h.get? b=some o)->h.get? S=some {cls:=.type "list",data:=.seq #[] c}->codeAny (model prog w) A (.builtin "list.extend.loop" ⟨[.ref S,.ref I,res],[]⟩) R {s with heap:=h,toks:=y}:=by
  intro h c y hi O hk p;refine codeAny_extend_loopS W (by rw[sizeLine_eq];omega) S N res items.size 0 _ #[] c rfl (vy) ⟨vy,hi,O⟩ p (ItemsOf.nil _) λn a t hm Q C=>?_;rw[Moved.eq_with hm];refine Y n.heap n.toks a t (λb o G U e=>hm.heap b o (λhmem=>?_) (hk b o G e)) Q C;rcases mem_cons.mp hmem with e'|hmem;.exact G e'
  .exact U (mem_singleton.mp hmem)
 unfold listExtendWith;refine wpAny_bind (wpAny_typeOf Z ?_);have h1:listSameRef (.ref S) (.ref I)=false:=by simp[listSameRef,m]
 have h2:(Value.type "list_reverseiterator"==Value.type "list")=false:=by decide
 have h3:(Value.type "list_reverseiterator"==Value.type "tuple")=false:=by decide
 simp only[h1,h2,h3,Bool.or_false,false_eq_true,if_false];refine wpAny_bind (wpAny_pyIter_revIter j ?_);refine wpAny_bind (wpAny_holding (nW j J u λbb y ac=>?_));have H:s.heap.IsRevIter I l ((items.size:Int)-1-((0:Nat):Int)):=by simpa using j
 refine wpAny_ite_split (λ_=>?_) (λ_=>wpAny_pure ⟨plainId_quiet F.plain_extend_loop _,B _ k _ H J (λb o _ e=>e) M⟩);refine wpAny_bind (wpAny_rule ?_);refine wpAny_bind ?_;show wpAny _ _ (updateSeq S (·.push .none)>>=λ_=>updateSeq S (·.pop)) _ _ _;refine wpAny_bind (wpAny_updateSeq M rfl ?_);have g:=get?_update_self (Obj.mapSeq (·.push Value.none)) M rfl;refine wpAny_updateSeq (hz:=by seq_fits) g rfl ?_;have q:=get?_update_self (Obj.mapSeq (·.pop)) g rfl;have r:∀b o,b≠S->s.heap.get? b=some o->((s.heap.update S (Obj.mapSeq (·.push Value.none))).update S (Obj.mapSeq (·.pop))).get? b=some o:=λb o G e=>(get?_update_other _ _ (Ne.symm G)).trans ((get?_update_other _ _ (Ne.symm G)).trans e);exact wpAny_pure ⟨plainId_quiet F.plain_extend_loop _,B _ _ _ (H.at λo e=>r I o (Ne.symm m) e) (J.at λo e=>r l o (Ne.symm x) e) r q⟩
end
end PySem
namespace L2
open PySem PySem.Spec PyProof.Rows
end L2
namespace HH
open PySem L2 PySem.Spec PyProof.Rows
end HH
end
section
namespace HH
open PySem
theorem vo:∀a b:List Int,cF a b=true->cF b a=false
 |[],[],h=>by simp[cF]at h|[],_::_,_=>by simp[cF]|_::_,[],h=>by simp[cF]at h|x::a,y::b,h=>by
   simp only[cF,or_eq_true,decide_eq_true_eq,and_eq_true]at h;simp only[cF,Bool.or_eq_false_iff,decide_eq_false_iff_not,Bool.and_eq_false_iff];rcases h with h|⟨h,h'⟩;.exact⟨by omega,.inl (by omega)⟩
   .exact⟨by omega,.inr (vo a b h')⟩
theorem Ie:∀a b c:List Int,cF b a=false->cF c b=false->cF c a=false
 |[],_,c,_,_=>by cases c<;>simp[cF]|_::_,[],_,h,_=>by simp[cF]at h|_::_,_::_,[],_,h=>by simp[cF]at h|x::a,y::b,z::c,h1,f=>by
   simp only[cF,Bool.or_eq_false_iff,decide_eq_false_iff_not,Bool.and_eq_false_iff]at h1 f ⊢;refine⟨by omega,?_⟩;by_cases e:z=x;.right;exact Ie a b c (h1.2.resolve_left (by omega)) (f.2.resolve_left (by omega))
   .exact .inl e
theorem xf:∀a b:List Int,cF a b=false->cF b a=false->a=b
 |[],[],_,_=>rfl|[],_::_,h,_=>by simp[cF]at h|_::_,[],_,h=>by simp[cF]at h|x::a,y::b,h1,c=>by
   simp only[cF,Bool.or_eq_false_iff,decide_eq_false_iff_not,Bool.and_eq_false_iff]at h1 c;have e:x=y:=by omega
   subst e;rw[xf a b (h1.2.resolve_left (by simp)) (c.2.resolve_left (by simp))]
theorem wH:∀{xs ys:List D},xs.all cR=true->ys.all cR=true->xs.map cU=ys.map cU->xs=ys
 |[],[],_,_,_=>rfl|[],_::_,_,_,h=>by simp at h|_::_,[],_,_,h=>by simp at h|x::xs,y::ys,h1,a,h=>by
   simp only[all_cons,and_eq_true]at h1 a;simp only[map_cons,List.cons.injEq]at h;obtain⟨i,rfl⟩:∃i,x=.int i:=by cases x<;>first|exact⟨_,rfl⟩|(have q:=h1.1;simp[cR]at q;done)
   obtain⟨j,rfl⟩:∃j,y=.int j:=by cases y<;>first|exact⟨_,rfl⟩|(have q:=a.1;simp[cR]at q;done)
   rw[wH h1.2 a.2 h.2,show i=j from h.1]
theorem zU{x y:D}(h:(cR x=true/\cR y=true)\/(yg x=true/\yg y=true))(e:mZ x=mZ y):x=y:=by
 rcases h with⟨h1,a⟩|⟨h1,a⟩
 . cases x<;>first|(simp[cR]at h1;done)|skip
   cases y<;>first|(simp[cR]at a;done)|skip
   simpa[mZ]using e
 . cases x<;>first|(simp[yg]at h1;done)|skip
   cases y<;>first|(simp[yg]at a;done)|skip
   rename_i xs ys;cases xs<;>first|(simp[yg]at h1;done)|skip
   cases ys<;>first|(simp[yg]at a;done)|skip
   rw[wH h1 a e]
noncomputable def mD(a b:D):Bool:=!cF (mZ b) (mZ a)
theorem jG(ds:List D):(n8 ds).Perm ds:=List.mergeSort_perm ..
theorem KH(a b c:D)(h1:mD a b=true)(e:mD b c=true):mD a c=true:=by simp only[mD,not_eq_true']at*;exact Ie _ _ _ h1 e
theorem GF(a b:D):(mD a b||mD b a)=true:=by simp only[mD,or_eq_true,not_eq_true'];cases h:cF (mZ b) (mZ a)with|false=>exact .inl rfl|true=>exact .inr (vo _ _ h)
theorem lg(ds:List D):(n8 ds).Pairwise λa b=>mD a b=true:=List.pairwise_mergeSort KH GF ds
theorem um{ds:List D}(h:sortable ds=true):∀x∈ds,∀y∈ds,mZ x=mZ y->x=y:=by
 simp only[sortable,and_eq_true,or_eq_true,all_eq_true]at h;intro x a y b e;rcases h.2 with h|h;.exact zU (.inl ⟨h x a,h y b⟩) e
 .exact zU (.inr ⟨h x a,h y b⟩) e
theorem qI{ds l:List D}(h:sortable ds=true)(p:l.Perm ds)(s:l.Pairwise λa b=>mD a b=true):l=n8 ds:=by refine List.Perm.eq_of_pairwise (le:=λa b=>mD a b=true) (λa b e f h1 c=>?_) s (lg ds) (p.trans (jG ds).symm);simp only[mD,not_eq_true']at h1 c;exact um h a (p.mem_iff.mp e) b ((jG ds).mem_iff.mp f) (xf _ _ c h1)
end HH
end
section
namespace HH
open PySem L2 PySem.Spec PyProof.Rows PySem.Calls PySem.W
theorem all_ints:∀{ds:List D},ds.all cR=true->ds=(ds.map cU).map D.int
 |[],_=>rfl|d::ds,h=>by
   simp only[all_cons,and_eq_true]at h;cases d<;>first|(have q:=h.1;simp[cR]at q;done)|skip
   rw[map_cons,map_cons,<-all_ints h.2];rfl
theorem intsAre_of:∀{ns:List Int}{a:List Value},Vals (ns.map V.int) a->IntsAre a ns|[],_,.nil=>.nil|n::ns,_,.cons r t=>by obtain⟨b,rfl⟩:=r;exact .cons n b (intsAre_of t)
section
variable{X:Cx}{c:Call}{a:Expr}{pa:P}{pos:Pos}
theorem boot_sorted:bootBuiltins "sorted"=some (.builtin "sorted"):=by decide+kernel
end
end HH
end
section
namespace HH
open PySem L2 PySem.Spec PyProof.Rows PySem.Calls
theorem ye(l b:Addr)(items a:List Value)(n M:Nat)(N o:Option Addr)(sl r:Array (Option Value))(v B:List Int)(J:IntsAre items v)(L:IntsAre a B):Meets (Builtin.«tuple.__lt__» ⟨[.ref l,.ref b],[]⟩) (λA R s=>s.heap.get? l=some {cls:=.type "tuple",dict:=N,data:=.seq items.toArray n,slots:=sl}/\s.heap.get? b=some {cls:=.type "tuple",dict:=o,data:=.seq a.toArray M,slots:=r}/\R (.ok (.ret (.bool (cF v B)))) s):=.of_wp λprog w A R s h=>by
  obtain⟨C,g,d,E,os⟩:=s;obtain⟨O,Q,h⟩:=h;have f2:=AutoSeq1.sub_tuple_tuple;wp_walk using wpAny_loadPart' O,wpAny_loadPart' Q,wpAny_forIn_list _ (λf b G=>b.1=none/\G=⟨C,g,d,E,os⟩/\∃xs ys c j,f=xs.zip ys/\IntsAre xs c/\IntsAre ys j/\decide (items.length<a.length)=decide (c.length<j.length)/\R (.ok (.ret (.bool (cF c j)))) ⟨C,g,d,E,os⟩) _;case turn=>rintro⟨y,x⟩f b G⟨i,rfl,xs,ys,c,j,hz,h1,k,H,m⟩;cases h1 with|nil=>cases hz|cons p t h1=>cases k with|nil=>cases hz|cons q u k=>
       injection hz with hyx hrest;cases hyx;refine wpAny_bind (wpAny_eqBool_int ?_);by_cases e:p=q;.subst e;rw[beq_self_eq_true];wp_walk;exact⟨rfl,rfl,_,_,_,_,hrest,h1,k,by rw[H];simp,by simpa[cF]using m⟩
       . rw[beq_eq_false_iff_ne.mpr e];have I:R (.ok (.ret (.bool (decide (p<q))))) ⟨C,g,d,E,os⟩:=by simpa[cF,e]using m
         simp only[Bool.not_false,if_true];refine wpAny_bind (wpAny_rule ?_);refine wpAny_bind (show wpAny (model prog w) A.in1 (compareOp .Lt (Value.int p t) (Value.int q u)) _ _ _ from wpAny_lt_int ?_);refine wpAny_bind (wpAny_pure ?_);exact wpAny_pure (wpAny_pure ⟨_,rfl,I⟩)
  case fin=>
   rintro⟨b1,b2⟩G⟨i,rfl,xs,ys,c,j,hz,h1,k,H,m⟩;simp only at i;subst i;have e:cF c j=decide (items.length<a.length):=by rw[H];cases h1 with|nil=>cases k<;>simp[cF]|cons _ _ _=>cases k with|nil=>simp[cF]|cons _ _ _=>cases hz
   rw[e]at m;wp_walk;exact⟨_,rfl,by simpa[Builtin.Tuple.tupleCompareSizes]using m⟩
  case h=>exact⟨rfl,rfl,items,a,v,B,by simp,J,L,by rw[IntsAre.length J,IntsAre.length L],h⟩
section
variable{X:Cx}
theorem zg(hu:X.A.units+8<cLine):gk X (compareOp .Lt) (rD X.K (uZ .lt)):=by rintro f s σ H x y v u Q I L M⟨F,d,e,r,q,N,O,he,k⟩;obtain⟨t,c,B⟩:=map_some (show(VR d e).map _=some r from he);subst B;cases d with
 |int i=>cases e with|int j=>exact Rn f s σ H x y v u Q I L M ⟨F,.int i,.int j,_,q,N,O,by have B:JB (λi j=>decide (i<j)) (.int i) (.int j)=some t:=c;simp only[B];rfl,k⟩|_=>cases c
 |tup xs=>cases e with|tup ys=>obtain⟨hc,c⟩:=aU (show(if(xs.all cR&&ys.all cR)=true then some (cF (xs.map cU) (ys.map cU))else none)=some t from c);rw[and_eq_true]at hc;obtain⟨a,vs,rfl,h1,U,_⟩:=N.tup q;obtain⟨b,ws,rfl,h3,W,_⟩:=O.tup q;cases L;cases M;obtain⟨C,Y,it,_⟩:=I.tuple h1;obtain⟨g,h,E,_⟩:=I.tuple h3;rw[all_ints hc.1]at U;rw[all_ints hc.2]at W;rw[ie U]at Y;rw[ie W]at h;have i1:=intsAre_of Y;have i2:=intsAre_of h;obtain⟨⟨cls,dd,data,sl⟩,ho,l,n,hd⟩:=it;obtain⟨⟨Z,G,data2,J⟩,m,o,n2,p⟩:=E;simp only at l hd o p;subst l hd o p;refine(show wpAny (model X.prog X.w) X.A (richCompare .Lt (.ref a) (.ref b)) _ _ s from richCompare_meets_room (op:=.Lt) ⟨_,ho,rfl⟩ ⟨_,m,rfl⟩ PySem.F.slot_tuple_lt PySem.F.entry_tuple_lt (PySem.F.args_tuple_lt_2 _ _) (ye a b C g n n2 dd G sl J _ _ i1 i2) ⟨ho,m,show Value.bool _≠Value.notImplemented/\_ from⟨(λx=>nomatch x),⟨.bl t,H,I,by rw[<-c];rfl,cg.dw q (fc _) k⟩⟩⟩ (by omega))|_=>cases c
 |_=>cases c
end
end HH
end
section
namespace L2
open PySem PySem.Spec PyProof.Rows
variable{y:V}{w:World}{H:Hp}{Q:Value->Shared->Prop}{pos:Pos}{X:Cx}
section
variable{κ:Type}[DecidableEq κ]
noncomputable def iV(kvs:List (κ×V))(k:κ):Option V:=(kvs.find? λa=>decide (a.1=k)).map (·.2)
noncomputable def putK(kvs:List (κ×V))(k:κ)(v:V):List (κ×V):=if(kvs.any λa=>decide (a.1=k))=true then kvs.map (λa=>if a.1=k then(a.1,v)else a)else kvs++[(k,v)]
theorem mq{p:κ×V}{r:List (κ×V)}{k:κ}(e:p.1=k):iV (p::r) k=some p.2:=by simp[iV,find?_cons,e]
theorem lM{p:κ×V}{r:List (κ×V)}{k:κ}(e:¬ p.1=k):iV (p::r) k=iV r k:=by simp[iV,find?_cons,e]
theorem qy(k:κ):∀kvs:List (κ×V),(kvs.any λa=>decide (a.1=k))=(iV kvs k).isSome
 |[]=>rfl|p::r=>by
   rw[any_cons];by_cases e:p.1=k;.simp only[mq e,decide_eq_true e,Bool.true_or,Option.isSome_some]
   .rw[lM e,decide_eq_false e,Bool.false_or];exact qy k r
theorem jl(kvs:List (κ×V))(k:κ)(v:V):(putK kvs k v).length<=kvs.length+1:=by
 unfold putK;split;.rw[length_map];omega
 .rw[length_append,length_cons,length_nil];omega
theorem qZ.ig{o:Option V}{u:Option Value}(r:qZ o u):o.isSome=u.isSome:=by cases o with
 |none=>cases u with|none=>rfl|some _=>exact(show False from r).elim
 |some _=>cases u with|none=>exact(show False from r).elim|some _=>rfl
theorem KV.val{kvs:List (κ×V)}{vs:List (κ×Value)}(r:KV kvs vs)(k:κ):qZ (iV kvs k) (valueAt vs k):=by unfold KV at r;induction r with|nil=>exact True.intro|@cons p q ps a h t f=>
   obtain⟨h1,g⟩:=h;by_cases e:p.1=k
   . have c:q.1=k:=h1.symm.trans e;have b:valueAt (q::a) k=some q.2:=by simp[valueAt,find?_cons,c]
     rw[mq e,b];exact g
   . have c:¬ q.1=k:=λz=>e (h1.trans z);have b:valueAt (q::a) k=valueAt a k:=by simp[valueAt,find?_cons,c]
     rw[lM e,b];exact f
theorem KV.any{kvs:List (κ×V)}{vs:List (κ×Value)}(r:KV kvs vs)(k:κ):(kvs.any λa=>decide (a.1=k))=vs.any λa=>decide (a.1=k):=by unfold KV at r;induction r with|nil=>rfl|cons h t b=>rw[any_cons,any_cons,b,h.1]
theorem KV.repl{kvs:List (κ×V)}{vs:List (κ×Value)}(r:KV kvs vs)(k:κ){u:Value}(b:RelV y u):KV (kvs.map λa=>if a.1=k then(a.1,y)else a) (vs.map λa=>if a.1=k then(a.1,u)else a):=by unfold KV at r ⊢;induction r with|nil=>exact .nil|@cons p q ps g h t c=>
   rw[map_cons,map_cons];refine .cons ?_ c;obtain⟨h1,f⟩:=h;by_cases e:p.1=k;.rw[if_pos e,if_pos (h1.symm.trans e)];exact⟨h1,b⟩
   .rw[if_neg e,if_neg (λz=>e (h1.trans z))];exact⟨h1,f⟩
theorem KV.put{kvs:List (κ×V)}{vs:List (κ×Value)}(r:KV kvs vs)(k:κ){u:Value}(a:RelV y u):KV (putK kvs k y) (stored vs k u):=by
 unfold putK stored;rw[r.any k];by_cases e:(vs.any λb=>decide (b.1=k))=true;.rw[if_pos e,if_pos e];exact r.repl k a
 .rw[if_neg e,if_neg e];exact Paired.snoc r ⟨rfl,a⟩
theorem KV.length{kvs:List (κ×V)}{vs:List (κ×Value)}(r:KV kvs vs):kvs.length=vs.length:=Paired.length r
end
theorem rT{P:Program}{k:Key}{u:Value}(r:RelV (kV k) u):(bC P w).is k u=true:=by cases k with|inl i=>obtain⟨t,e⟩:=(show ∃t,u=Value.int i t from r);subst e;exact wJ P w i t|inr x=>obtain⟨t,e⟩:=(show ∃t,u=Value.str x t from r);subst e;exact vH P w x t
theorem tu{P:Program}{w:World}:∀{ks:List Key}{a:List Value},Vals (ks.map kV) a->ItemsAre (bC P w) ks a|[],_,r=>by rw[map_nil]at r;cases r;exact .nil|k::ks,_,r=>by rw[map_cons]at r;cases r with|cons h t=>exact .cons (rT h) (tu t)
abbrev KT(H:Hp):List (List Key×V)->List (List Key×Addr×Value)->Prop:=Paired λp q=>p.1=q.1/\H q.2.1=some (.tup (p.1.map kV))/\RelV p.2 q.2.2
theorem KT.val{kvs:List (List Key×V)}{xs:List (List Key×Addr×Value)}(r:KT H kvs xs)(k:List Key):qZ (iV kvs k) ((atKey xs k).map (·.2)):=by induction r with|nil=>exact True.intro|@cons p q ps a h t f=>
   obtain⟨h1,_,g⟩:=h;by_cases e:p.1=k
   . have c:q.1=k:=h1.symm.trans e;have b:atKey (q::a) k=some q.2:=by simp[atKey,find?_cons,c]
     rw[mq e,b];exact g
   . have c:¬ q.1=k:=λz=>e (h1.trans z);have b:atKey (q::a) k=atKey a k:=by simp[atKey,find?_cons,c]
     rw[lM e,b];exact f
theorem KT.repl{kvs:List (List Key×V)}{xs:List (List Key×Addr×Value)}(r:KT H kvs xs)(k:List Key){u:Value}(c:RelV y u):KT H (kvs.map λa=>if a.1=k then(a.1,y)else a) (xs.map (putAt k u)):=by induction r with|nil=>exact .nil|@cons p q ps i h t f=>
   rw[map_cons,map_cons];refine .cons ?_ f;obtain⟨h1,b,g⟩:=h;unfold putAt;by_cases e:p.1=k;.rw[if_pos e,if_pos (h1.symm.trans e)];exact⟨h1,b,c⟩
   .rw[if_neg e,if_neg (λz=>e (h1.trans z))];exact⟨h1,b,g⟩
theorem KT.put{kvs:List (List Key×V)}{xs:List (List Key×Addr×Value)}(r:KT H kvs xs)(k:List Key){b:Addr}{u:Value}(c:H b=some (.tup (k.map kV)))(a:RelV y u):KT H (putK kvs k y) (storedH xs k b u):=by
 have e:(kvs.any λf=>decide (f.1=k))=(atKey xs k).isSome:=by rw[qy,(r.val k).ig,isSome_map]
 unfold putK storedH;rw[e];by_cases q:(atKey xs k).isSome=true;.rw[if_pos q,if_pos q];exact r.repl k a
 .rw[if_neg q,if_neg q];exact Paired.snoc r ⟨rfl,c,a⟩
theorem KT.keeps{a:Hp}{kvs:List (List Key×V)}{xs:List (List Key×Addr×Value)}(r:KT H kvs xs)(ht:∀b ys,H b=some (.tup ys)->a b=some (.tup ys)):KT a kvs xs:=Paired.R5 r λ_ _ z=>⟨z.1,ht _ _ z.2.1,z.2.2⟩
section
variable{P:Program}{w:World}{H:Hp}{h:Heap}{a:Addr}
theorem Ob{u:HO}(ok:mJ P w H h)(e:Rd H a u):bI P w H h a u:=e.ok ok
theorem wI{kvs:List (Key×V)}(ok:mJ P w H h)(e:Rd H a (.dK kvs)):kvs.length<=sizeLine/\(a==sysModules)=false/\∃vs,KV kvs vs/\h.DictOf (bC P w) a vs:=show bI P w H h a (.dK kvs)from Ob ok e
theorem Ol{kvs:List (Key×V)}(ok:mJ P w H h)(e:H a=some (.dK kvs)):kvs.length<=sizeLine/\(a==sysModules)=false/\∃vs,KV kvs vs/\h.DictOf (bC P w) a vs:=wI ok (.inl e)
theorem qt{ks:List Key}(ok:mJ P w H h)(e:H a=some (.tup (ks.map kV))):(tupleKind (bC P w)).is h ks a:=by obtain⟨_,b,r,o,h1,c,n,f⟩:=(show bI P w H h a (.tup (ks.map kV))from ok a _ e);exact⟨o,b.toArray,n,h1,c,f,by simpa using tu r⟩
theorem vK{kvs:List (List Key×V)}(ok:mJ P w H h)(e:Rd H a (.dT kvs)):kvs.length<=sizeLine/\(a==sysModules)=false/\∃xs,KT H kvs xs/\h.DictOfH (tupleKind (bC P w)) a xs:=by
 obtain⟨z,y,xs,r,o,es,ep,h1,c,f,g,i⟩:=(show bI P w H h a (.dT kvs)from Ob ok e);refine⟨z,y,xs,r,o,es,ep,h1,c,f,g,λx hx=>?_,i⟩;have all:∀{l:List (List Key×V)}{m:List (List Key×Addr×Value)},KT H l m->∀x∈m,(tupleKind (bC P w)).is h x.1 x.2.1:=by intro l m q;induction q with|nil=>intro x hx;exact nomatch hx|@cons p q ps k b t j=>
    intro x hx;rcases mem_cons.mp hx with e|hx;.subst e;exact qt ok (by rw[<-b.1];exact b.2.1)
    .exact j x hx
 exact all r x hx
theorem VL{kvs:List (List Key×V)}(ok:mJ P w H h)(e:H a=some (.dT kvs)):kvs.length<=sizeLine/\(a==sysModules)=false/\∃xs,KT H kvs xs/\h.DictOfH (tupleKind (bC P w)) a xs:=vK ok (.inl e)
end
def qK(H:Hp)(a:Addr)(y:V)(r:Option V):Prop:=(∃kvs k,Rd H a (.dK kvs)/\y=kV k/\r=iV kvs k)\/∃kvs k b,Rd H a (.dT kvs)/\y=.ref b/\H b=some (.tup (k.map kV))/\r=iV kvs k
def Vw(H:Hp)(a:Addr)(y v:V)(c:Hp):Prop:=(∃kvs k,H a=some (.dK kvs)/\y=kV k/\kvs.length<sizeLine/\c=upd H a (.dK (putK kvs k v)))\/∃kvs k b,H a=some (.dT kvs)/\y=.ref b/\H b=some (.tup (k.map kV))/\kvs.length<sizeLine/\c=upd H a (.dT (putK kvs k v))
section
variable{X:Cx}{pins:List (Addr×Obj)}{σ:St}{H:Hp}{s:Shared}{a:Addr}{y v:V}{u r:Value}{o:Option V}{A:Around}{E:Value->Shared->Prop}
theorem Inv.big(I:Inv X pins σ H s):sysModules<s.heap.objs.size:=by have h:mainGlobals<s.heap.objs.size:=(I.mod.glob.keeps I.bk).lt;exact lt_trans (by decide) h
theorem mR(B:A.units+1<cLine)(I:Inv X pins σ H s)(g:qK H a y (some v))(t:RelV y u)(h:∀f x,Inv X pins σ H x->RelV v f->Q f x):wpAny (model X.prog X.w) A (getItem (.ref a) u) Q E s:=by
 rcases g with⟨kvs,k,e,i,l⟩|⟨kvs,k,b,e,i,C,l⟩;.subst i;obtain⟨z,hd,vs,c,j⟩:=wI I.hok e;obtain⟨f,m,n⟩:=qZ.some_of (v:=v) (o:=valueAt vs k) (by rw[l];exact c.val k);exact wpAny_getItem_of (rT t) j.mapOf m (h f _ (I.tok _) n)
 .subst i;cases(show u=Value.ref b from t);obtain⟨z,hd,xs,c,j⟩:=vK I.hok e;obtain⟨f,m,n⟩:=qZ.some_of (v:=v) (o:=(atKey xs k).map (·.2)) (by rw[l];exact c.val k);obtain⟨p,G,q⟩:=map_eq_some_iff.mp m;refine wpAny_getItem_heap (tupleKind_room_in1 B) (qt I.hok C) j G ?_;rw[q];exact h f _ (I.tok _) n
theorem Xq(n:A.units+1<cLine)(I:Inv X pins σ H s)(g:qK H a y o)(j:RelV y u)(h:∀m,Inv X pins σ H m->Q (.bool o.isSome) m):wpAny (model X.prog X.w) A (compareOp .In u (.ref a)) Q E s:=by
 rcases g with⟨kvs,k,e,f,l⟩|⟨kvs,k,b,e,f,p,l⟩;.subst f;obtain⟨z,hd,vs,c,i⟩:=wI I.hok e;refine wpAny_in_of (rT j) hd i.mapOf ?_;rw[<-(c.val k).ig,<-l];exact h _ (I.tok _)
 .subst f;cases(show u=Value.ref b from j);obtain⟨z,hd,xs,c,i⟩:=vK I.hok e;refine wpAny_in_heap (tupleKind_room_in1 n) (qt I.hok p) hd i ?_;have q:=(c.val k).ig;rw[isSome_map]at q;rw[<-q,<-l];exact h _ (I.tok _)
theorem BP(n:A.units+1<cLine)(I:Inv X pins σ H s)(g:qK H a y o)(j:RelV y u)(h:∀m,Inv X pins σ H m->Q (.bool (!o.isSome)) m):wpAny (model X.prog X.w) A (compareOp .NotIn u (.ref a)) Q E s:=by
 rcases g with⟨kvs,k,e,f,l⟩|⟨kvs,k,b,e,f,p,l⟩;.subst f;obtain⟨z,hd,vs,c,i⟩:=wI I.hok e;refine wpAny_notIn_of (rT j) hd i.mapOf ?_;rw[<-(c.val k).ig,<-l];exact h _ (I.tok _)
 .subst f;cases(show u=Value.ref b from j);obtain⟨z,hd,xs,c,i⟩:=vK I.hok e;refine wpAny_notIn_heap (tupleKind_room_in1 n) (qt I.hok p) hd i ?_;have q:=(c.val k).ig;rw[isSome_map]at q;rw[<-q,<-l];exact h _ (I.tok _)
theorem uO{h':Heap}{t':Nat}{c:HO}(I:Inv X pins σ H s)(g:W5 (H a))(hs:SameBut a s.heap h')(he:∃q,h'.get? a=some q)(f:bI X.prog X.w (upd H a c) h' a c):Inv X pins σ (upd H a c) {s with heap:=h',toks:=t'}:=I.write (x:=a) (e:=a) g (.inl rfl) (λb q h z=>(hs.2 b h).trans z) he f
theorem Hh{P:Program}{c:Hp}{h':Heap}{kvs:List (Key×V)}{vs:List (Key×Value)}(z:kvs.length<=sizeLine)(hd:(a==sysModules)=false)(b:KV kvs vs)(e:h'.DictOf (bC P w) a vs):bI P w c h' a (.dK kvs):=⟨z,hd,vs,b,e⟩
theorem Df{x:Hp}{Q:Unit->Shared->Prop}(M:A.units+1<cLine)(I:Inv X pins σ H s)(g:Vw H a y v x)(B:RelV y u)(C:RelV v r)(h:∀G,Inv X pins σ x G->Q () G):wpAny (model X.prog X.w) A (setItem (.ref a) u r) Q E s:=by
 rcases g with⟨kvs,k,e,m,l,n⟩|⟨kvs,k,b,e,m,J,l,n⟩
 . subst m n;obtain⟨z,hd,vs,f,p⟩:=Ol I.hok e;have hz:vs.length<=sizeLine:=by rw[<-f.length];exact z
   have t:(putK kvs k v).length<=sizeLine:=by have:=jl kvs k v;omega
   refine wpAny_setItem_pairs (hsz:=hz) (rT B) p λh' i hs=>h _ ?_;have he:∃q,h'.get? a=some q:=let⟨q,_,_,j,_⟩:=i;⟨q,j⟩;exact uO I (by rw[e];exact True.intro) hs he (Hh t hd (f.put k C) i)
 . subst m n;cases(show u=Value.ref b from B);obtain⟨z,hd,xs,f,p⟩:=VL I.hok e;have hz:xs.length<=sizeLine:=by rw[<-Paired.length f];exact z
   have t:(putK kvs k v).length<=sizeLine:=by have:=jl kvs k v;omega
   refine wpAny_setItem_heap (hsz:=hz) (tupleKind_room_in1 M) (qt I.hok J) p λh' i hs=>h _ ?_;obtain⟨q,es,ep,j,N,O,U,_,W⟩:=i;refine uO I (by rw[e];exact True.intro) hs ⟨q,j⟩ ⟨t,hd,_,(f.put k J C).keeps λc ys L=>?_,q,es,ep,j,N,O,U,W⟩;rw[ao (Xm L e (λz=>nomatch z))];exact L
end
def La(i:Expr):Prop:=∀a iv,subscripted i false a iv=operate [a,iv] (getItem a iv)
theorem Bb{prog:Program}{A:Around}{E:Value->Shared->Prop}{s:Shared}{env:Env}{a slice:Expr}{T id:String}(l:typeLookup (.type T) "__getitem__"=pure (some (.builtin id)))(hs:La slice)(h:wpAny (model prog w) A (eval a env) (λo e=>wpAny (model prog w) A (eval slice env) (λi b=>b.TypeIs o T/\wpAny (model prog w) A (getItem o i) Q E b) E e) E s):wpAny (model prog w) A (eval (.Subscript a slice pos) env) Q E s:=by
 refine Subscript_ (wpAny_mono h (λo e g=>wpAny_mono g (λi b c=>?_) λ_ _ x=>x) λ_ _ x=>x);obtain⟨k,c⟩:=c;unfold subscriptTail;refine wpAny_bind ?_;rw[getitemInPython_of_ne k.not_modules];refine wpAny_bind (wpAny_specialOf k l ?_);have fin:wpAny (model prog w) A (subscripted slice false o i) (λr f=>wpAny (model prog w) A (letTemporaryGo a o r>>=λ_=>pure r) Q E f) E b:=by rw[hs o i];exact wpAny_operating (wpAny_mono c (λr f j=>wpAny_bind (wpAny_letTemporaryGo (wpAny_pure j))) λ_ _ x=>x)
 first|exact wpAny_pure (wpAny_bind fin)|exact wpAny_bind (wpAny_pure (wpAny_bind fin))|exact wpAny_bind fin
theorem je{c:List (Addr×Obj)}{σ:St}{s:Shared}{a:Addr}{o:Option V}(I:Inv X c σ H s)(g:qK H a y o):s.TypeIs (.ref a) "dict":=by
 rcases g with⟨kvs,k,e,_,_⟩|⟨kvs,k,b,e,_,_,_⟩;.obtain⟨_,_,vs,_,f⟩:=wI I.hok e;exact f.typeIs
 .obtain⟨_,_,xs,_,f⟩:=vK I.hok e;exact f.typeIs
def V3(c ty:TE):TE:=λσ H Q=>c σ H λx e=>ty σ e λy b=>∃a v,x=.ref a/\qK b a y (some v)/\Q v b
def abP(ty c:TE):TE:=λσ H Q=>ty σ H λy e=>c σ e λx b=>∃a o,x=.ref a/\qK b a y o/\Q (.bl o.isSome) b
def KN(ty c:TE):TE:=λσ H Q=>ty σ H λy e=>c σ e λx b=>∃a o,x=.ref a/\qK b a y o/\Q (.bl (!o.isSome)) b
def Xo(c ty e:TE):TS:=λD σ H=>e σ H λv f=>c σ f λx g=>ty σ g λy h=>∃a b,x=.ref a/\Vw h a y v b/\D.nx σ b
section
variable{X:Cx}{o i e value:Expr}{pos pos' tpos:Pos}{td ty tv:TE}
theorem Mj(c:X.A.units+1<cLine)(ho:PE X o td)(f:PE X i ty)(hs:La i):PE X (.Subscript o i pos) (V3 td ty):=by intro b s σ H Q I h;refine Bb PySem.F.slot_dict_getitem.lookup hs (bV (ho b s σ H _ I h) λu s1⟨x,H1,I1,rx,q1⟩=>bV (f b s1 σ H1 _ I1 q1) λiv s2⟨y,H2,I2,ry,a,v,ex,g,q2⟩=>?_);subst ex;obtain rfl:u=Value.ref a:=rx;exact⟨je I2 g,mR c I2 g ry λl s3 j k=>⟨v,H2,j,k,q2⟩⟩
theorem RZ(c:X.A.units+1<cLine)(f:PE X i ty)(ho:PE X o td):PC X .In i o (abP ty td):=by intro b s σ H Q I h;refine bV (f b s σ H _ I h) λiv s1⟨y,H1,I1,ry,q1⟩=>bV (ho b s1 σ H1 _ I1 q1) λu s2⟨x,H2,I2,rx,a,ov,ex,g,q2⟩=>?_;subst ex;obtain rfl:u=Value.ref a:=rx;exact Xq c I2 g ry λs3 j=>⟨.bl ov.isSome,H2,j,rfl,q2⟩
theorem CQ(c:X.A.units+1<cLine)(f:PE X i ty)(ho:PE X o td):PC X .NotIn i o (KN ty td):=by intro b s σ H Q I h;refine bV (f b s σ H _ I h) λiv s1⟨y,H1,I1,ry,q1⟩=>bV (ho b s1 σ H1 _ I1 q1) λu s2⟨x,H2,I2,rx,a,ov,ex,g,q2⟩=>?_;subst ex;obtain rfl:u=Value.ref a:=rx;exact BP c I2 g ry λs3 j=>⟨.bl (!ov.isSome),H2,j,rfl,q2⟩
theorem Mp(c:X.A.units+1<cLine)(ho:PE X o td)(f:PE X i ty)(j:PE X value tv)(hs:swapsWith value (some (.Subscript o i pos')) pos.line X.env=pure false):PS X (.Assign [.Subscript o i pos'] value pos) (Xo td ty tv):=by intro b s σ H D I h;refine wpAny_Assign_Subscript (bV (j b s σ H _ I h) λr s1⟨v,H1,I1,rv,q1⟩=>bV (ho b s1 σ H1 _ I1 q1) λu s2⟨x,H2,I2,rx,q2⟩=>bV (f b s2 σ H2 _ I2 q2) λiv s3⟨y,H3,I3,ry,a,H4,ex,g,q3⟩=>?_) hs;subst ex;obtain rfl:u=Value.ref a:=rx;exact Df c I3 g ry rv λs4 k=>⟨σ,H4,k,q3⟩
end
theorem xq{P:Program}(h:Heap)(a:sysModules<h.objs.size):bI P w H (h.push {cls:=.type "dict",data:=.dict #[]}) h.objs.size (.dK []):=⟨vy,beq_eq_false_iff_ne.mpr (Ne.symm (ne_of_lt a)),[],.nil,Heap.DictOf.new h⟩
def RG:TE:=λ_ H Q=>∀p,H p=none->Q (.ref p) (upd H p (.dK []))
section
variable{X:Cx}{pos:Pos}
theorem Em:PE X (.Dict [] [] pos) RG:=λb s σ H Q I h=>wpAny_Dict_empty ⟨.ref s.heap.objs.size,_,I.laid (a:=s.heap.objs.size) (o:=.dK []) (t':=s.toks) (λ_ _ q=>du q) (cQ) (xq s.heap I.big),rfl,h _ (I.hok.fresh (cQ))⟩
end
def zE:List (TE×TE)->St->Hp->(List (V×V)->Hp->Prop)->Prop|[],_,H,Q=>Q [] H|(a,b)::r,σ,H,Q=>a σ H λx c=>b σ c λy e=>zE r σ e λps f=>Q ((x,y)::ps) f
abbrev VV:List (V×V)->List (Value×Value)->Prop:=Paired λp q=>RelV p.1 q.1/\RelV p.2 q.2
def YF(X:Cx)(pos:Pos)(keys:List (Option Expr))(a:List Expr)(e:List (TE×TE)):Prop:=∀(b:List (Addr × Obj))(s:Shared)(σ:St)(H:Hp)(Q:List (V × V)->Hp->Prop),Inv X b σ H s->zE e σ H Q->wpAny (model X.prog X.w) X.A (evalPairs (pairTrees keys a X.env pos)) (λvs f=>∃ps c,Inv X b σ c f/\VV ps vs/\Q ps c) X.xe s
theorem JK:YF X pos [] [] []:=λa s σ H Q I h=>pairTrees_nil_walk ⟨[],H,I,.nil,h⟩
theorem Ep{k v:Expr}{ks:List (Option Expr)}{vs:List Expr}{b c:TE}{e:List (TE×TE)}(f:PE X k b)(g:PE X v c)(hr:YF X pos ks vs e):YF X pos (some k::ks) (v::vs) ((b,c)::e):=λa s σ H Q I h=>pairTrees_cons_walk (bV (f a s σ H _ I h) λu s1⟨x,H1,I1,rx,q1⟩=>bV (g a s1 σ H1 _ I1 q1) λi s2⟨y,H2,I2,ry,q2⟩=>bV (hr a s2 σ H2 _ I2 q2) λws s3⟨ps,H3,I3,rel,q3⟩=>⟨(x,y)::ps,H3,I3,.cons ⟨rx,ry⟩ rel,q3⟩)
noncomputable def nC(kvs more:List (Key×V)):List (Key×V):=more.foldl (λa b=>putK a b.1 b.2) kvs
theorem KV.merge:∀{more:List (Key×V)}{a:List (Key×Value)}{kvs:List (Key×V)}{vs:List (Key×Value)},KV more a->KV kvs vs->KV (nC kvs more) (merged vs a):=by intro more a kvs vs r;unfold KV at r;induction r generalizing kvs vs with|nil=>intro q;exact q|@cons p q ps c h t b=>
   intro r0;have e:KV (putK kvs p.1 p.2) (stored vs q.1 q.2):=by have:=r0.put p.1 h.2;rw[<-h.1];exact this
   exact b e
theorem j9:∀(more kvs:List (Key×V)),(nC kvs more).length<=kvs.length+more.length|[],kvs=>by show kvs.length<=kvs.length+0;omega|p::r,kvs=>by have h1:=j9 r (putK kvs p.1 p.2);have a:=jl kvs p.1 p.2;show(nC (putK kvs p.1 p.2) r).length<=_;rw[length_cons];omega
theorem qQ{P:Program}{w:World}:∀{kvs:List (Key×V)}{ws:List (Value×Value)},VV (kvs.map λf=>(kV f.1,f.2)) ws->∃e,Carries (bC P w) ws e/\KV kvs e|[],_,r=>by rw[map_nil]at r;cases r;exact⟨[],True.intro,.nil⟩|p::kvs,_,r=>by rw[map_cons]at r;cases r with|@cons a b as bs h t=>obtain⟨e,c,q⟩:=qQ (P:=P) (w:=w) t;obtain⟨b1,b2⟩:=b;exact⟨(p.1,b2)::e,⟨rT h.1,rfl,c⟩,.cons ⟨rfl,h.2⟩ q⟩
def WL(c:List (TE×TE)):TE:=λσ H Q=>∀p,H p=none->zE c σ (upd H p (.dK [])) λps a=>a p=some (.dK [])/\∃kvs:List (Key×V),ps=kvs.map (λb=>(kV b.1,b.2))/\kvs.length<=15/\Q (.ref p) (upd a p (.dK (nC [] kvs)))
theorem Ke{keys:List (Option Expr)}{b:List Expr}{j:List (TE×TE)}(h:YF X pos keys b j)(f:keys.all (·.isSome)=true)(l:keys.length=b.length)(h0:keys≠[])(i:keys.length<=15):PE X (.Dict keys b pos) (WL j):=by
 intro g s σ H Q I q;have m:=I.hok.fresh (le_refl s.heap.objs.size);have n:=I.laid (a:=s.heap.objs.size) (o:=.dK []) (h':=s.heap.push {cls:=.type "dict",data:=.dict #[]}) (t':=s.toks) (λ_ _ q=>du q) (cQ) (xq s.heap I.big);refine wpAny_Dict_walk (knd:=bC X.prog X.w) f l h0 i (bV (h g _ σ _ _ n (q _ m)) λws s2⟨ps,H2,I2,rel,e,kvs,ep,lk,q2⟩=>?_);subst ep;obtain⟨p,c,r⟩:=qQ (P:=X.prog) (w:=X.w) rel;obtain⟨z,hd,u,r0,t⟩:=Ol I2.hok e;cases r0;refine⟨p,c,t,λh' k hs=>⟨.ref s.heap.objs.size,_,?_,rfl,q2⟩⟩;have hz:(nC [] kvs).length<=sizeLine:=by have h1:=j9 kvs [];rw[length_nil]at h1;rw[sizeLine_eq];omega
 have he:∃q,h'.get? s.heap.objs.size=some q:=let⟨q,_,_,hq,_⟩:=k;⟨q,hq⟩;exact uO I2 (by rw[e];exact True.intro) hs he (Hh hz hd (r.merge .nil) k)
end L2
namespace Z9
open PySem PySem.W PySem.Calls PyProof.Rows
end Z9
namespace L2
open PySem PySem.Spec PyProof.Rows
end L2
end
section
namespace HH
open PySem L2 PySem.Spec PyProof.Rows
variable{kvs:List (Int×D)}{es:List (Key×V)}{k:Int}
inductive KR(K:PySem.W.Frag)(F:Hp):List (Int×D)->List (Key×V)->Prop where|nil:KR K F [] []|cons{k:Int}{d:D}{v:V}{kvs:List (Int×D)}{es:List (Key×V)}(h:Rep K F v d)(t:KR K F kvs es):KR K F ((k,d)::kvs) ((Sum.inl k,v)::es)
section
variable{K:PySem.W.Frag}{F F':Hp}
noncomputable def ent(ks:List Int)(vs:List V):List (Key×V):=(ks.zip vs).map λp=>(Sum.inl p.1,p.2)
theorem KR.of:∀{kvs:List (Int×D)}{vs:List V},aA K F vs (kvs.map (·.2))->KR K F kvs (ent (kvs.map (·.1)) vs)|[],vs,h=>by rw[map_nil]at h;rw[h.dO];exact .nil|(k,d)::kvs,vs,h=>by obtain⟨v,r,rfl,h1,a⟩:=h.bN;exact .cons h1 (KR.of a)
theorem KR.to(h:KR K F kvs es):∃vs,es=ent (kvs.map (·.1)) vs/\aA K F vs (kvs.map (·.2)):=by induction h with|nil=>exact⟨[],rfl,.nil⟩|@cons k d v kvs es h t a=>obtain⟨vs,rfl,r⟩:=a;exact⟨v::vs,rfl,.cons h r⟩
theorem KR.oc(h:KR K F kvs es):km K F (.dK es) (.v kvs):=by obtain⟨vs,rfl,r⟩:=h.to;exact⟨vs,rfl,r⟩
theorem KR.Sw{o:HO}(h:km K F o (.v kvs)):∃es,o=.dK es/\KR K F kvs es:=by obtain⟨vs,rfl,r⟩:=h;exact⟨_,rfl,.of r⟩
theorem KR.len(h:KR K F kvs es):es.length=kvs.length:=by induction h with|nil=>rfl|cons h t a=>simp[a]
theorem KR.get{d:D}(h:KR K F kvs es)(e:lu kvs k=some d):∃v,iV es (Sum.inl k:Key)=some v/\Rep K F v d:=by induction h with|nil=>cases e|@cons j d' v kvs es h t a=>
   unfold lu at e a;rw[find?_cons]at e;by_cases c:j=k;.simp[c]at e;subst e;exact⟨v,mq (by rw[c]),h⟩
   .simp[c]at e;obtain⟨b,h1,f⟩:=a (by simpa using e);exact⟨b,by rw[lM (by simpa using c)];exact h1,f⟩
theorem KR.any{kvs:List (Int×D)}{es:List (Key×V)}(k:Int)(h:KR K F kvs es):(es.any λa=>decide (a.1=(Sum.inl k:Key)))=kvs.any λp=>decide (p.1=k):=by induction h with|nil=>rfl|cons h t b=>simp[b]
theorem KR.has(k:Int)(h:KR K F kvs es):(iV es (Sum.inl k:Key)).isSome=(kvs.map (·.1)).contains k:=by rw[<-qy,h.any k];induction h with|nil=>rfl|@cons j d v kvs es h t a=>rw[any_cons,a,map_cons,List.contains_cons];congr 1;exact Bool.eq_iff_iff.mpr ⟨λz=>by simp at z ⊢;exact z.symm,λz=>by simp at z ⊢;exact z.symm⟩
theorem KR.repl{d:D}{v:V}(r:Rep K F v d)(h:KR K F kvs es):KR K F (kvs.map λp=>if p.1=k then(p.1,d)else p) (es.map λa=>if a.1=(Sum.inl k:Key)then(a.1,v)else a):=by induction h with|nil=>exact .nil|@cons j d' e kvs es h t b=>
   by_cases c:j=k;.subst c;simp;exact .cons r b
   . have:¬(Sum.inl j:Key)=Sum.inl k:=by simpa using c
     simp[c,this];exact .cons h b
theorem KR.snoc{d:D}{v:V}(r:Rep K F v d)(h:KR K F kvs es):KR K F (kvs++[(k,d)]) (es++[(Sum.inl k,v)]):=by induction h with|nil=>exact .cons r .nil|cons h t a=>exact .cons h a
theorem KR.put{d:D}{v:V}(r:Rep K F v d)(h:KR K F kvs es):KR K F (gq kvs k d) (putK es (Sum.inl k:Key) v):=by
 unfold gq putK;rw[h.any k];split;.exact h.repl r
 .exact h.snoc r
theorem KR.zip{ks:List Int}{ds:List D}{vs:List V}(h:aA K F vs ds)(a:ks.length=ds.length):KR K F (ks.zip ds) (ent ks vs):=by induction ds generalizing ks vs with
 |nil=>rw[h.dO];cases ks with|nil=>exact .nil|cons _ _=>simp at a
 |cons d ds b=>obtain⟨v,r,rfl,h1,c⟩:=h.bN;cases ks with|nil=>simp at a|cons k ks=>exact .cons h1 (b c (by simpa using a))
end
noncomputable def Ni(p:Int×Int):Key×V:=(Sum.inl p.1,V.int p.2)
theorem Gm(i:Int):∀kvs:List (Int×Int),iV (kvs.map Ni) (Sum.inl i:Key)=((kvs.find? λb=>decide (b.1=i)).map (·.2)).map V.int
 |[]=>rfl|p::kvs=>by
   have a:=Gm i kvs;unfold iV at a ⊢;rw[map_cons,find?_cons,find?_cons];by_cases h:p.1=i
   . have e:decide ((Ni p).1=(Sum.inl i:Key))=true:=by simp[Ni,h]
     rw[e];simp[h,Ni]
   . have e:decide ((Ni p).1=(Sum.inl i:Key))=false:=by simp[Ni,h]
     rw[e];simp only[h,decide_false];exact a
section
variable{X:Cx}{c:Call}{n:Nat}{a b e:Expr}{pa pb p:P}{pos:Pos}
theorem Qo{H:Hp}{q:Addr}{m:Dc}{i:Int}{o:Option Int}(h:Rd H q m.ho)(e:m.get (.int i)=some o):qK H q (.int i) (o.map V.int):=by cases m with|k kvs=>cases e;exact .inl ⟨kvs.map Ni,Sum.inl i,h,rfl,(Gm i kvs).symm⟩|t kvs=>cases e
theorem tQ(hu:X.A.units+8<cLine)(O:SX X c a pa)(U:SX X c b pb)(hs:La b):SX X c (.Subscript a b pos) (.bin .DQ pa pb):=by refine uw (f:=Aj) (λh1 W=>?_) O U (λρ=>rfl) rfl;intro l s σ H Q I h;refine Bb PySem.F.slot_dict_getitem.lookup hs (bV (h1 l s σ H _ I h) λu s1⟨x,H1,I1,rx,q1⟩=>bV (W l s1 σ H1 _ I1 q1) λiv s2⟨y,H2,I2,ry,q2⟩=>?_);obtain⟨F,d,e,r,w,L,M,he,k⟩:=q2;cases d with
 |cX m=>have Y:=bZ (show(m.get e).bind (λo=>o.map λv=>R.val (.int v))=some r from he);clear he;obtain⟨o,B,he⟩:=Y;cases o with|none=>cases he|some v=>
     cases he;obtain⟨i,rfl⟩:∃i,e=.int i:=by cases m with|t kvs=>cases e<;>cases B|k kvs=>cases e<;>first|exact⟨_,rfl⟩|cases B
     obtain⟨q,C,rfl,E⟩:=L.cX w;rw[M.int]at ry;obtain rfl:u=Value.ref q:=rx;have g:=Qo (.inr ⟨C,E⟩) B;exact⟨je I2 g,mR (by omega) I2 g ry λZ s3 G J=>⟨.int v,H2,G,J,cg.dw w (bW _) k⟩⟩
 |dv ks ds=>cases e with|int j=>obtain⟨d',e5,he⟩:=map_some (show(lu (ks.zip ds) j).map R.val=some r from he);subst he;obtain⟨q,C,vs,rfl,E,rs,hl⟩:=L.dv w;obtain⟨N,g1,g2⟩:=(KR.zip rs hl).get e5;rw[M.int]at ry;obtain rfl:u=Value.ref q:=rx;have g:qK H2 q (.int j) (some N):=.inl ⟨_,Sum.inl j,.inr ⟨C,E⟩,rfl,g1.symm⟩;exact⟨je I2 g,mR (by omega) I2 g ry λZ s3 G J=>⟨N,H2,G,J,cg.dw w g2 k⟩⟩|_=>cases he
 |_=>cases he
end
end HH
end
section
namespace L2
open PySem PySem.Spec PyProof.Rows
noncomputable def Itk(a:Addr)(b:Obj)(kvs:List (Key×V)):It:=⟨λi H=>H a=some (.cG b (.dK kvs))/\i<kvs.length,λi H x c=>c=H/\∃p,kvs[i]?=some p/\x=kV p.1,λi H=>H a=some (.cG b (.dK kvs))/\kvs.length<=i⟩
theorem KV.get:∀{a:Type}{kvs:List (a×V)}{vs:List (a×Value)}{i:Nat}{p:a×V},KV kvs vs->kvs[i]?=some p->∃v,vs[i]?=some (p.1,v)|_,_,_,_,_,.nil,e=>by simp at e|_,_,_,0,_,.cons r _,e=>by simp at e;subst e;exact⟨_,by rw[List.getElem?_cons_zero,r.1]⟩|_,_,_,i+1,p,.cons _ t,e=>by obtain⟨v,h⟩:=KV.get (i:=i) (p:=p) t (by simpa using e);exact⟨v,by simpa using h⟩
theorem su{X:Cx}{b:List (Addr×Obj)}{σ:St}{H:Hp}{s:Shared}{a:Addr}{c:Obj}{kvs:List (Key×V)}{es:Array DictEntry}{ep:Nat}(I:Inv X b σ H s)(h:H a=some (.cG c (.dK kvs)))(hd:c.data=.dict es ep):(a==sysModules)=false/\∃vs,KV kvs vs/\s.heap.DictAt (bC X.prog X.w) a vs ep:=by obtain⟨ho,hz,f,vs,r,g⟩:=(show bI X.prog X.w H s.heap a (.cG c (.dK kvs))from I.hok a _ h);obtain⟨o,es',i,h1,j,e,k⟩:=g;rw[ho]at h1;cases h1;rw[hd]at e;cases e;exact⟨f,vs,r,⟨c,es,ho,j,hd,k⟩⟩
theorem Ph{P:Program}{w:World}{k:Key}{u:Value}(h:(bC P w).is k u=true):RelV (kV k) u:=by
 rcases bD h with⟨i,t,rfl,rfl⟩|⟨x,t,rfl,rfl⟩;.exact⟨t,rfl⟩
 .exact⟨t,rfl⟩
theorem CV{P:Program}{w:World}{K:PySem.W.Frag}{J:Expr}(a g:Addr)(G:Obj)(kvs:List (Key×V))(es:Array DictEntry)(ep:Nat)(hd:G.data=.dict es ep):Turn P w K J (Itk a G kvs) [g] g (λi h=>h.IsKeyIter g a i kvs.length ep)where
 mem:=by simp
 obj:=λi h st b j=>by
  have e:b=g:=by simpa using j
  subst e;obtain⟨o,e,c,d⟩:=st;exact⟨o,e,λv z=>by rw[d]at z;cases z⟩
 keep:=λi h h' st k=>st.at λo e=>k g (by simp) o e;item:=by intro X q t x hc i f s σ H E I n st y;subst q t x;obtain⟨B,p⟩:=y;obtain⟨L,vs,r,C⟩:=su I B hd;have m:vs.length=kvs.length:=(Paired.length r).symm;obtain⟨v,M⟩:=KV.get r (show kvs[i]?=some kvs[i]by simp[p]);obtain⟨f0,f1,f2,f3,f4,f5⟩:=n g (by simp);refine wpAny_pyNext_dict_item (by rw[m];exact st) C M λu h' N l O=>?_;have U:Inv X f σ H {s with heap:=h'}:=I.turned (t':=s.toks) (λb o j e=>(O.2 b j).trans e) f0 f1 f3 f4 f5;rw[m]at l;obtain⟨o,e,c,d⟩:=id l;exact⟨u,rfl,Ae (s:={s with heap:=h'}) e c d (by decide) ⟨_,H,U,Ph N,⟨rfl,_,by simp[p],rfl⟩,l,λb j=>(n b j).1⟩⟩
 done:=by intro X q t x hc i f s σ H E I n st y;subst q t x;obtain⟨B,p⟩:=y;obtain⟨L,vs,r,C⟩:=su I B hd;have m:vs.length=kvs.length:=(Paired.length r).symm;obtain⟨f0,f1,f2,f3,f4,f5⟩:=n g (by simp);refine wpAny_pyNext_dict_end (I.ok.hd hc) (by rw[m];exact st) C (by simp[m,p]) λh' he=>⟨rfl,?_⟩;exact I.turned (t':=s.toks) (λb o j e=>he b o j e) f0 f1 f3 f4 f5
 self:=λA i s Q E st Y=>wpAny_pyIter_keyiter st Y
section
variable{X:Cx}{tg:Expr}
theorem K5{l:Expr}{k:TE}(n:PE X l k):PI X tg l (λσ H R=>k σ H λx f=>∃a c kvs,x=.ref a/\f a=some (.cG c (.dK kvs))/\R (Itk a c kvs) f):=by
 intro g s σ H R I h;refine bV (n g s σ H _ I h) ?_;rintro v s1⟨x,f,j,r1,a,c,kvs,e,p,q⟩;subst e;cases r1;obtain⟨ho,hz,t,vs,r,u⟩:=(show bI X.prog X.w f s1.heap a (.cG c (.dK kvs))from j.hok a _ p);obtain⟨o,es,ep,h1,y,m,A⟩:=id u;rw[ho]at h1;cases h1;have i:vs.length=kvs.length:=(Paired.length r).symm;refine wpAny_pyIter_dict (knd:=bC X.prog X.w) (kvs:=vs) (ep:=ep) t ⟨c,es,ho,y,m,A⟩ ?_;refine⟨s1.heap.objs.size,[s1.heap.objs.size],_,_,f,rfl,j.kept (t':=s1.toks) λb o e=>du e,CV a _ c kvs es ep m,⟨_,get?_push_size _ rfl,rfl,by rw[i];rfl⟩,λb B=>?_,q⟩;have e:b=s1.heap.objs.size:=by simpa using B
 subst e;exact j.Dw (cQ) (j.hok.fresh (cQ))
end
end L2
namespace HH
open PySem L2 PySem.Spec PyProof.Rows
section
variable{X:Cx}{c:Call}{tg e:Expr}{p:P}
theorem LQ{ks:List Int}{es:List (Key×V)}{j:Nat}{p:Key×V}{i:Int}(h:es.map (·.1)=ks.map (Sum.inl:Int->Key))(a:es[j]?=some p)(b:ks[j]?=some i):p.1=Sum.inl i:=by
 have:(es.map (·.1))[j]?=(ks.map (Sum.inl:Int->Key))[j]?:=by rw[h]
 rw[getElem?_map,getElem?_map,a,b]at this;exact Option.some.inj this
theorem mC:∀{ks:List Int}{vs:List V},ks.length=vs.length->(ent ks vs).map (·.1)=ks.map (Sum.inl:Int->Key)|[],[],_=>rfl|k::ks,v::vs,h=>by have:=mC (ks:=ks) (vs:=vs) (by simpa using h);unfold ent at this ⊢;simpa using this|[],_::_,h=>by simp at h|_::_,[],h=>by simp at h
theorem Lj(h:SX X c e p):SI X c tg e (.blt .keys [p]):=by
 unfold SI;obtain⟨ta,h1,N⟩:=h.cV;refine nR (K5 h1) ?_;rintro σ H R⟨F,ρ,ds,ρ1,g,O,k⟩;obtain⟨r,ρ2,C,Q⟩:=aa (show((HH.ev c (.blt .keys [p]) ρ).bind λr ρ=>lift (items r.d) ρ)=.ok ds ρ1 from O);obtain⟨E,U⟩:=aF Q;subst U;rw[HH.E15]at C;obtain⟨d,W,Y,Z⟩:=aa C;obtain⟨w,e4⟩:=aF Z;subst e4;refine N g Y λv F' G s I=>?_;have hd:∃(ks:List Int)(es:List (Key×V))(a:Addr)(b:Obj),ds=ks.map D.int/\v=.ref a/\G a=some (.cG b (.dK es))/\es.map (·.1)=ks.map (Sum.inl:Int->Key):=by cases d with
  |cX m=>cases m with|k kvs=>cases w;cases E;obtain⟨a,b,rfl,f⟩:=I.cX s.gs.sub;exact⟨kvs.map (·.1),kvs.map Ni,a,b,by rw[map_map];rfl,rfl,f,by rw[map_map,map_map];rfl⟩|t kvs=>cases w
  |dv ks ac=>cases w;cases E;obtain⟨a,b,vs,rfl,f,rs,hl⟩:=I.dv s.gs.sub;exact⟨ks,ent ks vs,a,b,rfl,rfl,f,mC (by rw[rs.length];exact hl)⟩|_=>cases w
 obtain⟨ks,es,a,b,rfl,rfl,f,o⟩:=hd;have y:es.length=ks.length:=by have:=congrArg List.length o;simpa using this
 refine⟨a,b,es,rfl,f,k _ F' G ⟨s.gs,λn j F2 ρ2 A H2 s2=>?_,λF2 ρ2 A H2 s2=>⟨s.trans s2,λv r rr=>rr.later s⟩⟩⟩;have gm:=s.gs.more (n:=n) (τ:=replicate n none) (by simp);have u:=s2.keep a _ f λ⟨j,⟨t,dt,q1,q2⟩,q3⟩=>by obtain⟨a',o',J,L,z3,B⟩:=gm.own j t dt q1 q2;rw[q3]at J;cases J;rw[f]at L;cases L;cases dt with|l ds=>obtain⟨xs,z,_⟩:=B;cases z|d m=>cases m<;>cases B|v kvs=>obtain⟨xs,z,_⟩:=B;cases z
 refine⟨λd hd=>?_,λM=>⟨u,by rw[y];simpa using M⟩⟩;have M:j<ks.length:=by have:=(dU hd).1;simpa using this
 refine⟨⟨u,by omega⟩,λx lH⟨e5,q,e6,e7⟩=>?_⟩;subst e5;refine⟨F2,.refl s2.gs.sub,?_⟩;rw[getElem?_map]at hd;obtain⟨i,e8,e9⟩:=map_some hd;rw[e7,LQ o e6 e8,<-e9];exact bW _
end
end HH
end
section
namespace HH
open PySem L2 PySem.Spec PyProof.Rows PySem.Calls PySem.W
section
variable{prog:Program}{w:World}{A:Around}{E:Value->Shared->Prop}{s:Shared}
theorem tW{h:Type}[DecidableEq h]{knd:PySem.KeyKind prog w h}{d:Addr}{kvs:List (h×Value)}{ep:Nat}{Q:List Value->Shared->Prop}(q:A.handled=none)(lo:(d==sysModules)=false)(m:s.heap.DictAt knd d kvs ep)(t:kvs.length<=sizeLine)(u:∀h' j c,(∀b o,s.heap.get? b=some o->h'.get? b=some o)->s.heap.objs.size<h'.objs.size->ItemsOf (λi v=>∃k x,kvs[i]?=some (k,x)/\knd.is k v=true) c kvs.length->Q c.toList {s with heap:=h',toks:=j}):
 wpAny (model prog w) A (collect (.ref d)) Q E s:=by have f:=m.lt_size;unfold collect;refine wpAny_bind (wpAny_runValue (codeAny_builtin F.entry_proto_collect ?_));rw[Around.under_plainId F.plain_proto_collect _];show wpAny _ A.in1 (newList []>>=λl=>again (.builtin "list.__iadd__" ⟨[l,.ref d],[]⟩)) _ _ s;refine wpAny_bind (wpAny_newObj_type ?_);refine wpAny_pure ⟨plainId_quiet F.plain_list_iadd _,codeAny_builtin F.entry_list_iadd ?_⟩;rw[Around.under_plainId F.plain_list_iadd _];show wpAny _ A.in1 (listExtendWith (.ref s.heap.objs.size) (.ref d) (.ref s.heap.objs.size)) _ _ _;refine kdl_extend (A:=A) (R:=λr n=>match r with
  |.ok (.ret v)=>wpAny (model prog w) A (match v with
   |.ref a=>do let o<-load a match o.data with|.seq xs _=>pure xs.toList|_=>unsupported "internal:collect"
   |_=>unsupported "internal:collect") Q E n|.ok _=>False|.error e=>E e n) (s:={s with heap:=s.heap.push {cls:=.type "list",data:=.seq #[]}}) (kdl_dict (knd:=knd) (kvs:=kvs) (ep:=ep) lo) q (m.push _) s.heap.objs.size (ne_of_gt f) (ne_of_gt f) _ 0 (get?_push_size _ rfl) (λh' j c B y p g=>?_) t;refine wpAny_bind (wpAny_load p ?_);exact wpAny_pure (u h' j c (λb o e=>y b o (ne_of_lt (lt_size e)) (du e)) (lt_size p) g)
end
section
variable{X:Cx}{c:Call}{a:Expr}{pa:P}{pos:Pos}
theorem fC:∀{ns:List Int}{b:List Value},IntsAre b ns->Vals (ns.map V.int) b|_,_,.nil=>.nil|_,_,.cons n t r=>.cons ⟨t,rfl⟩ (fC r)
theorem jN{K:PySem.W.Frag}{F:Hp}:∀ns:List Int,aA K F (ns.map V.int) (ns.map D.int)|[]=>.nil|n::ns=>.cons (bW n) (jN ns)
end
end HH
end
section
namespace HH
open PySem L2 PySem.Spec PyProof.Rows
theorem Inv.ab3{X:Cx}{c:List (Addr×Obj)}{σ:L2.St}{H:Hp}{s:Shared}{a:Addr}{kvs:List (List Key×V)}(I:L2.Inv X c σ H s)(h:H a=some (.dT kvs)):∃o,L2.Inv X c σ (upd H a (.cG o (.dT kvs))) s:=by obtain⟨z,y,xs,r,o,es,ep,h1,f,g,i,j⟩:=(show bI X.prog X.w H s.heap a (.dT kvs)from I.hok a _ h);refine⟨o,I.write (h':=s.heap) (t':=s.toks) (by rw[h];exact trivial) (.inl rfl) (λb u _ e=>e) ⟨o,h1⟩ ⟨h1,z,y,xs,KT.keeps r λb ys q=>?_,o,es,ep,h1,f,g,i,j⟩⟩;rw[ao (by rintro rfl;rw[h]at q;cases q)];exact q
section
variable{X:Cx}{c:Call}{n:Nat}{a b e:Expr}{p pa pb:P}{pos:Pos}{es:List Expr}{ps:List P}{x1:Nat}{tpos:Pos}
theorem Vx{i:Nat}{x:Str}{B:Pos}(C:X.N[i]?=some x)(E:xK X.env.scope x)(hd:(x==("__debug__":Str))=false:=by decide)(w:(x==("__classdict__":Str))=false:=by decide):SX X c (.Name x B) (.vw i):=by
 have h:=eV (X:=X) (pos:=B) C E hd w;refine⟨?_,λi h=>by cases h⟩;rintro f s σ H Q I⟨F,ρ,r,G,g,e,k⟩;rw[HH.E22]at e;split at e
 . rename_i m q;cases e;obtain⟨a,h1,j,l⟩:=g.Bu q;refine bV (h f s σ H (λv y=>v=.ref a/\y=H) I ⟨.ref a,h1,rfl,rfl⟩) λu s1⟨v,H1,I1,r1,e1,e2⟩=>?_;subst e1 e2;have J:∃o,L2.Inv X f σ (upd H1 a (.cG o m.ho)) s1:=by cases m with|k kvs=>exact Inv.Gb I1 j|t kvs=>exact Inv.ab3 I1 j
   obtain⟨o,A⟩:=J;exact⟨.ref a,_,A,r1,k _ _ _ (l o).1 (l o).2⟩
 .rename_i kvs q;cases e;obtain⟨a,vs,h1,j,l⟩:=g.Ao q;refine bV (h f s σ H (λv y=>v=.ref a/\y=H) I ⟨.ref a,h1,rfl,rfl⟩) λu s1⟨v,H1,I1,r1,e1,e2⟩=>?_;subst e1 e2;obtain⟨o,A⟩:=Inv.Gb I1 j;exact⟨.ref a,_,A,r1,k _ _ _ (l o).1 (l o).2⟩
 .rename_i b ds q;cases e;obtain⟨v,L,h1,j,l⟩:=g.freeze q;exact h f s σ H Q I ⟨v,h1,k v L H j l⟩
 .rename_i b d q;cases e;obtain⟨v,h1,j⟩:=g.val i b d q;exact h f s σ H Q I ⟨v,h1,k v F H (.refl g) j⟩
 .cases e
end
end HH
end
section
namespace HH
open PySem L2 PySem.Spec PyProof.Rows
section
variable{K:PySem.W.Frag}{F H F' H':Hp}{ρ ρ':List Sl}{σ σ':L2.St}
def Kp(ρ:List Sl)(σ:L2.St)(H:Hp)(a:Addr)(o:HO):Prop:=H a=some o/\¬ Own ρ σ a
theorem Kp.stp{a:Addr}{o:HO}(h:Kp ρ σ H a o)(s:az K F ρ σ H F' ρ' σ' H'):Kp ρ' σ' H' a o:=⟨s.keep a o h.1 h.2,λz=>(s.u9 a z).elim h.2 λe=>by rw[h.1]at e;cases e⟩
structure Wt(K:PySem.W.Frag)(F:Hp)(ρ:List Sl)(σ:L2.St)(H:Hp)(a:Addr)(ds:List D):Prop where
 ex:∃xs,Kp ρ σ H a (.lst xs)/\aA K F xs ds
 fr:F a=none
theorem Wt.stp{a:Addr}{ds:List D}(h:Wt K F ρ σ H a ds)(s:az K F ρ σ H F' ρ' σ' H'):Wt K F' ρ' σ' H' a ds:=by obtain⟨⟨xs,h1,b⟩,c⟩:=h;refine⟨⟨xs,h1.stp s,b.mono s.cu⟩,?_⟩;cases q:F' a with|none=>rfl|some o=>
   rcases s.uV a c (by rw[q];simp)with z|z;.exact absurd z h1.2
   .rw[h1.1]at z;cases z
end
end HH
end
section
namespace HH
open PySem L2 PySem.Spec PyProof.Rows PySem.Calls PySem.W
theorem JG{ns c:List Int}(p:c.Perm ns)(s:c.Pairwise (·<=·))(f:ns.length<64):n8 (ns.map D.int)=c.map D.int:=by
 refine(qI ?_ (p.map D.int) ?_).symm;.simp only[sortable,length_map,and_eq_true,or_eq_true,decide_eq_true_eq];refine⟨by omega,.inl ?_⟩;rw[all_eq_true];intro x e;obtain⟨i,_,rfl⟩:=mem_map.mp e;rfl
 .rw[pairwise_map];refine s.imp λ{a b}h=>?_;simp only[mD,mZ,cF,not_eq_true'];simp;omega
theorem rN{prog:Program}{w:World}{A:Around}{E:Value->Shared->Prop}{s:Shared}{vs:List Value}{ns:List Int}{a:Addr}{n:Nat}{O:PySem.Fin->Shared->Prop}(ho:s.heap.get? a=some (seqObj "list" vs.toArray n))(l:IntsAre vs ns)(f:vs.length<64)(h:∀h' c(out:List Value)(g:List Int),(∀b o,b≠a->s.heap.get? b=some o->h'.get? b=some o)->IntsAre out g->n8 (ns.map D.int)=g.map D.int->g.length=ns.length->h'.get? a=some (seqObj "list" out.toArray c)->O (.done (.ret .none)) {s with heap:=h'}):wpAny (model prog w) A (Builtin.«list.sort» ⟨[.ref a],[]⟩) O E s:=by refine list_sort_tree ho l f λout g q m s1=>?_;have r:a<s.heap.objs.size:=lt_size ho;obtain⟨i,j⟩:∃i,(s.heap.update a (Obj.mapSeq λ_=>(#[]:Array Value))).get? a=some (seqObj "list" #[] i):=⟨_,get?_update_seq ho λ_=>#[]⟩;have k:(((s.heap.update a (Obj.mapSeq λ_=>(#[]:Array Value))).push (seqObj "tuple" vs.toArray 0)).push (seqObj "list" #[] 0)).get? a=some (seqObj "list" #[] i):=du (du j);obtain⟨c,hc⟩:∃c,(sortedHeap s.heap a vs out).get? a=some (seqObj "list" out c):=⟨_,get?_update_seq k λ_=>out⟩;refine h (sortedHeap s.heap a vs out) c out.toList g (λb o p e=>?_) q (JG m s1 (by rw[<-IntsAre.length l];exact f)) m.length_eq (by rw[hc]);exact(get?_update_other _ _ (Ne.symm p)).trans (du (du ((get?_update_other _ _ (Ne.symm p)).trans e)))
end HH
end
section
namespace HH
open PySem L2 PySem.Spec PyProof.Rows
variable{o:Option V}{rows:List (List D)}
section
variable{K:PySem.W.Frag}{F F' F1 H H' H1 F0 H0:Hp}{ρ ρ' ρ1 ρ0:List Sl}{σ σ' σ1 σ0:L2.St}{x:Nat}{q:Addr}{as:List Addr}{rows nT:List (List D)}
noncomputable def Fp:Sl->Bool|.aP=>true|.hold _=>true|_=>false
theorem gf{s:Sl}{i:Nat}{b:Addr}(g:Fp s=true)(h:aW (ρ.set x s) (σ.set x o) i b):aW ρ σ i b/\i≠x:=by
 obtain⟨⟨t,ds,e,a⟩,f⟩:=h;by_cases c:x=i
 . subst c;rw[List.getElem?_set]at e;rw[if_pos rfl]at e;split at e;.cases e;cases s<;>first|(cases a;done)|(cases g;done)
   .cases e
 .rw[getElem?_set_ne c]at e f;exact⟨⟨⟨t,ds,e,a⟩,f⟩,λz=>c z.symm⟩
theorem GS.tG{s:Sl}(f:Fp s=true)(g:GS K F ρ σ H):GS K F (ρ.set x s) (σ.set x o) H:=by
 refine⟨g.sub,by simp[g.len],λi b d e=>?_,λi t ds e h=>?_,λi j a h1 k=>g.dis i j a (gf f h1).1 (gf f k).1⟩
 . by_cases c:x=i
   . subst c;rw[List.getElem?_set,if_pos rfl]at e;split at e;.cases e;cases f
     .cases e
   .rw[getElem?_set_ne c]at e ⊢;exact g.val i b d e
 . by_cases c:x=i
   . subst c;rw[List.getElem?_set,if_pos rfl]at e;split at e;.cases e;cases s<;>first|(cases h;done)|(cases f;done)
     .cases e
   .rw[getElem?_set_ne c]at e ⊢;exact g.own i t ds e h
theorem az.tG{s:Sl}{o:Option V}(a:Fp s=true)(t:az K F ρ σ H F1 ρ1 σ1 H1)(f:∀s0,ρ[x]?=some s0->ud s0=false):az K F ρ σ H F1 (ρ1.set x s) (σ1.set x o) H1:=by
 refine⟨t.gs.tG a,t.cu,t.uV,t.keep,λb⟨i,h⟩=>t.u9 b ⟨i,(gf a h).1⟩,by simp[t.len],λi g e l=>?_⟩;have c:x≠i:=by rintro rfl;rw[f _ e]at l;cases l
 obtain⟨j,s2,k,m⟩:=t.lk i g e l;exact⟨by rw[getElem?_set_ne c];exact j,s2,by rw[getElem?_set_ne c];exact k,m⟩
theorem az.free{i:Nat}{s1:Sl}(t:az K F ρ σ H F1 ρ1 σ1 H1)(h:ρ1[i]?=some s1)(a:ud s1=false):∀s0,ρ[i]?=some s0->ud s0=false:=λs0 e=>by cases z:ud s0 with|false=>rfl|true=>obtain⟨_,s2,b,c⟩:=t.lk i s0 e z;rw[h]at b;cases b;rw[c.ud z]at a;cases a
structure Pn(F:Hp)(ρ:List Sl)(σ:L2.St)(H:Hp)(a:Addr)(xs:List V):Prop where kp:Kp ρ σ H a (.lst xs)fr:F a=none
theorem Pn.stp{a:Addr}{xs:List V}(h:Pn F ρ σ H a xs)(s:az K F ρ σ H F' ρ' σ' H'):Pn F' ρ' σ' H' a xs:=by refine⟨h.kp.stp s,?_⟩;cases z:F' a with|none=>rfl|some o=>
   rcases s.uV a h.fr (by rw[z];simp)with y|y;.exact absurd y h.kp.2
   .rw[h.kp.1]at y;cases y
structure Nw(K:PySem.W.Frag)(x:Nat)(q:Addr)(as:List Addr)(F:Hp)(ρ:List Sl)(σ:L2.St)(H:Hp)(rows:List (List D)):Prop where
 slot:ρ[x]?=some (.hold rows)val:σ[x]?=some (some (.ref q))out:Pn F ρ σ H q (as.map V.ref)nd:(q::as).Nodup
 len:as.length=rows.length
 row:∀(k:Nat)(a:Addr)(ds:List D),as[k]?=some a->rows[k]?=some ds->Wt K F ρ σ H a ds
theorem Nw.stp(w:Nw K x q as F ρ σ H rows)(s:az K F ρ σ H F' ρ' σ' H'):Nw K x q as F' ρ' σ' H' rows:=by obtain⟨b,s2,c,e⟩:=s.lk x _ w.slot rfl;cases(show s2=.hold rows from e);exact⟨c,b.trans w.val,w.out.stp s,w.nd,w.len,λk a ds h1 f=>(w.row k a ds h1 f).stp s⟩
structure NB(K:PySem.W.Frag)(x:Nat)(q:Addr)(as:List Addr)(F0:Hp)(ρ0:List Sl)(σ0:L2.St)(H0:Hp)(F:Hp)(ρ:List Sl)(σ:L2.St)(H:Hp)(rows:List (List D)):Prop where
 stp:az K F0 ρ0 σ0 H0 F ρ σ H
 fresh:∀b,b∈q::as->Own ρ0 σ0 b\/H0 b=none
 free:∀s0,ρ0[x]?=some s0->ud s0=false
 nw:Nw K x q as F ρ σ H rows
theorem NB.step(b:NB K x q as F0 ρ0 σ0 H0 F ρ σ H rows)(s:az K F ρ σ H F' ρ' σ' H'):NB K x q as F0 ρ0 σ0 H0 F' ρ' σ' H' rows:=⟨b.stp.trans s,b.fresh,b.free,b.nw.stp s⟩
theorem Ad{s:Sl}{a:Addr}{b:HO}(c:Fp s=true)(h:Kp ρ σ H a b):Kp (ρ.set x s) (σ.set x o) H a b:=⟨h.1,λ⟨i,z⟩=>h.2 ⟨i,(gf c z).1⟩⟩
theorem K3{s:Sl}{a:Addr}{ds:List D}(b:Fp s=true)(h:Wt K F ρ σ H a ds):Wt K F (ρ.set x s) (σ.set x o) H a ds:=by obtain⟨⟨xs,h1,c⟩,e⟩:=h;exact⟨⟨xs,Ad b h1,c⟩,e⟩
theorem az.abv{Da:Addr}{o:HO}(s:az K F ρ σ H F1 ρ1 σ1 H1)(h:Own ρ σ Da\/H Da=none)(g:F1 Da=none)(ho:¬ Own ρ1 σ1 Da):az K F ρ σ H F1 ρ1 σ1 (upd H1 Da o):=by
 refine⟨⟨λb u e=>?_,s.gs.len,s.gs.val,λi t ds e c=>?_,s.gs.dis⟩,s.cu,s.uV,λb u e n=>?_,s.u9,s.len,s.lk⟩
 . have:b≠Da:=by rintro rfl;rw[g]at e;cases e
   rw[ao this];exact s.gs.sub b u e
 . obtain⟨a,xs,f,j,k,l⟩:=s.gs.own i t ds e c;have:a≠Da:=by rintro rfl;exact ho ⟨i,⟨t,ds,e,c⟩,f⟩
   exact⟨a,xs,f,by rw[ao this];exact j,k,l⟩
 . have:b≠Da:=by
    rintro rfl;rcases h with h|h;.exact n h
    .rw[h]at e;cases e
   rw[ao this];exact s.keep b u e n
theorem NB.mut{r:Nat}{a:Addr}{row e:List D}{ys:List V}(b:NB K x q as F0 ρ0 σ0 H0 F ρ σ H rows)(g:as[r]?=some a)(hr:rows[r]?=some row)(p:aA K F ys e):NB K x q as F0 ρ0 σ0 H0 F (ρ.set x (.hold (rows.set r e))) σ (upd H a (.lst ys)) (rows.set r e):=by
 have w:=b.nw.row r a row g hr;obtain⟨⟨xs,l,r1⟩,f1⟩:=w;have t:x<ρ.length:=(dU b.nw.slot).1;have m:σ.set x (some (.ref q))=σ:=by have:=b.nw.val;obtain⟨h1,f⟩:=dU this;rw[<-f];simp
 have mem:a∈q::as:=mem_cons_of_mem _ (mem_of_getElem? g);have s1:=(b.stp.abv (o:=.lst ys) (b.fresh a mem) f1 l.2).tG (x:=x) (s:=.hold (rows.set r e)) (o:=some (.ref q)) rfl b.free;rw[m]at s1;have u:q≠a:=by have:=(nodup_cons.mp b.nw.nd).1;rintro rfl;exact this (mem_of_getElem? g)
 have own:∀{c:Addr},¬ Own ρ σ c->¬ Own (ρ.set x (.hold (rows.set r e))) σ c:=λ{c}h⟨i,z⟩=>h ⟨i,by have:=gf (x:=x) (s:=.hold (rows.set r e)) (o:=some (.ref q)) (σ:=σ) (ρ:=ρ) rfl (b:=c) (i:=i) (by rw[m];exact z);exact this.1⟩;refine⟨s1,b.fresh,b.free,⟨getElem?_set_self t,b.nw.val,⟨⟨by rw[ao u];exact b.nw.out.kp.1,own b.nw.out.kp.2⟩,b.nw.out.fr⟩,b.nw.nd,by simp[b.nw.len],λk c ds h1 f=>?_⟩⟩;by_cases j:k=r;.subst j;rw[g]at h1;cases h1;have v:k<rows.length:=(dU hr).1;rw[getElem?_set_self v]at f;cases f;exact⟨⟨ys,⟨aD,own l.2⟩,p⟩,f1⟩
 . rw[getElem?_set_ne (λz=>j z.symm)]at f;obtain⟨⟨y,n,A⟩,f2⟩:=b.nw.row k c ds h1 f;have nc:c≠a:=by rintro rfl;have nd:=(nodup_cons.mp b.nw.nd).2;obtain⟨E,B⟩:=dU h1;obtain⟨l2,C⟩:=dU g;exact j ((List.getElem_inj nd).mp (B.trans C.symm))
   exact⟨⟨y,⟨by rw[ao nc];exact n.1,own n.2⟩,A⟩,f2⟩
noncomputable def Fz(F H:Hp)(bs:List Addr):Hp:=λb=>if b∈bs then H b else F b
theorem sG{G:Hp}:∀{as:List Addr}{rows:List (List D)},as.length=rows.length->(∀(k:Nat)(a:Addr)(ds:List D),as[k]?=some a->rows[k]?=some ds->Rep K G (.ref a) (.lst ds))->aA K G (as.map V.ref) (rows.map D.lst)|[],[],_,_=>.nil|a::as,ds::rows,h,k=>.cons (k 0 a ds rfl rfl) (sG (by simpa using h) λj b es h1 c=>k (j+1) b es (by simpa using h1) (by simpa using c))|[],_::_,h,_=>by simp at h|_::_,[],h,_=>by simp at h
theorem Nw.Og(w:Nw K x q as F ρ σ H rows){b:Addr}(hb:b∈q::as):F b=none/\¬ Own ρ σ b:=by
 rcases mem_cons.mp hb with rfl|hb;.exact⟨w.out.fr,w.out.kp.2⟩
 . obtain⟨k,a⟩:=List.getElem?_of_mem hb;have c:k<rows.length:=by rw[<-w.len];exact(dU a).1
   obtain⟨⟨xs,e,_⟩,f1⟩:=w.row k b rows[k] a (by simp[c]);exact⟨f1,e.2⟩
theorem Nw.fz(w:Nw K x q as F ρ σ H rows)(c:aC F H):aC F (Fz F H (q::as))/\aC (Fz F H (q::as)) H/\Rep K (Fz F H (q::as)) (.ref q) (.lst (rows.map D.lst)):=by
 have s1:aC F (Fz F H (q::as)):=λb o e=>by unfold Fz;rw[if_neg λf=>by rw[(w.Og f).1]at e;cases e];exact e
 refine⟨s1,λb o e=>?_,?_⟩
 . unfold Fz at e;split at e;.exact e
   .exact c b o e
 .rw[Rep];refine⟨q,as.map V.ref,rfl,dg.of (by unfold Fz;rw[if_pos mem_cons_self];exact w.out.kp.1),sG w.len λk a ds h1 g=>?_⟩;obtain⟨⟨xs,h,r1⟩,f1⟩:=w.row k a ds h1 g;rw[Rep];exact⟨a,xs,rfl,dg.of (by unfold Fz;rw[if_pos (mem_cons_of_mem _ (mem_of_getElem? h1))];exact h.1),r1.mono s1⟩
theorem NB.cG(b:NB K x q as F0 ρ0 σ0 H0 F ρ σ H rows):az K F0 ρ0 σ0 H0 (Fz F H (q::as)) (ρ.set x (.val false (.lst (rows.map D.lst)))) σ H:=by
 obtain⟨s1,s2,u⟩:=b.nw.fz b.stp.gs.sub;have g:=b.stp.gs;have r:x<ρ.length:=(dU b.nw.slot).1;have k:∀{j:Nat}{c:Addr},aW (ρ.set x (.val false (.lst (rows.map D.lst)))) σ j c->aW ρ σ j c/\x≠j:=λ{j c}⟨⟨t,ds,e,m⟩,e1⟩=>by
  by_cases f:x=j;.subst f;rw[getElem?_set_self r]at e;cases e;cases m
  .rw[getElem?_set_ne f]at e;exact⟨⟨⟨t,ds,e,m⟩,e1⟩,f⟩
 refine⟨⟨s2,by simp[g.len],λi w d e=>?_,λi t ds e m=>?_,λi j c h1 p=>g.dis i j c (k h1).1 (k p).1⟩,b.stp.cu.trans s1,λc n s=>?_,b.stp.keep,λc⟨j,h⟩=>b.stp.u9 c ⟨j,(k h).1⟩,by simp[b.stp.len],λi t e l=>?_⟩
 . by_cases f:x=i;.subst f;rw[getElem?_set_self r]at e;cases e;exact⟨_,b.nw.val,u⟩
   .rw[getElem?_set_ne f]at e;obtain⟨v,h1,p⟩:=g.val i w d e;exact⟨v,h1,p.mono s1⟩
 . by_cases f:x=i;.subst f;rw[getElem?_set_self r]at e;cases e;cases m
   .rw[getElem?_set_ne f]at e;obtain⟨a,o,h1,p,y,A⟩:=g.own i t ds e m;refine⟨a,o,h1,p,?_,A.mono s1⟩;unfold Fz;rw[if_neg λB=>(b.nw.Og B).2 ⟨i,⟨t,ds,e,m⟩,h1⟩];exact y
 . by_cases hc:c∈q::as;.exact(b.fresh c hc).imp id gB
   . have:Fz F H (q::as) c=F c:=by unfold Fz;rw[if_neg hc]
     rw[this]at s;exact b.stp.uV c n s
 . have c:x≠i:=by rintro rfl;rw[b.free _ e]at l;cases l
   obtain⟨C,s3,E,G⟩:=b.stp.lk i t e l;exact⟨C,s3,by rw[getElem?_set_ne c];exact E,G⟩
end
inductive RQ(K:PySem.W.Frag)(x:Nat)(f:List Sl->Res Fl)(E:Ends)(σ:L2.St)(H:Hp):Prop where|mk(F0:Hp)(ρ0:List Sl)(σ0:L2.St)(H0 F:Hp)(ρ:List Sl)(q:Addr)(as:List Addr)(rows:List (List D))(fl:Fl)(ρ':List Sl)(b:NB K x q as F0 ρ0 σ0 H0 F ρ σ H rows)(e:f ρ=.ok fl ρ')(k:∀F' σ' H',az K F0 ρ0 σ0 H0 F' ρ' σ' H'->aC F F'->((∀r,fl≠.ret r)->∃nT,NB K x q as F0 ρ0 σ0 H0 F' ρ' σ' H' nT)->Ia K E F' ρ' σ' H' ρ0 σ0 H0 fl)
inductive Xk(K:PySem.W.Frag)(x:Nat)(f:List Sl->Res Fl)(E:Ends)(σ:L2.St)(H:Hp):Prop where|mk(F0:Hp)(ρ0:List Sl)(σ0:L2.St)(H0 F:Hp)(ρ:List Sl)(q:Addr)(as:List Addr)(rows:List (List D))(fl:Fl)(ρ':List Sl)(b:NB K x q as F0 ρ0 σ0 H0 F ρ σ H rows)(e:f ρ=.ok fl ρ')(k:∀F' σ' H',az K F0 ρ0 σ0 H0 F' ρ' σ' H'->Ia K E F' ρ' σ' H' ρ0 σ0 H0 fl)
structure Vy(X:Cx)(c:Call)(n x:Nat)(st:Stmt)(s:S):Prop where p:PS X st (RQ X.K x (ex c n s))
structure U0(X:Cx)(c:Call)(n x:Nat)(st:List Stmt)(s:List S):Prop where p:sH X st (RQ X.K x (gY c n s))
structure YW(X:Cx)(c:Call)(n x:Nat)(st:List Stmt)(s:List S):Prop where p:sH X st (Xk X.K x (gY c n s))
section
variable{X:Cx}{c:Call}{n x:Nat}{e a b d tg iter:Expr}{p pa pb pd:P}{pos:Pos}{body:List Stmt}{ss:List S}{st:Stmt}{s:S}{sts:List Stmt}
theorem oK:U0 X c n x [] []:=⟨kZ ue λD σ H⟨f,ρ0,σ0,H0,F,ρ,q,as,rows,fl,ρ',nb,e,k⟩=>by rw[xs0]at e;cases e;exact k F σ H nb.stp (.refl _) λ_=>⟨rows,nb⟩⟩
theorem qp(h1:Vy X c n x st s)(v:U0 X c n x sts ss):U0 X c n x (st::sts) (s::ss):=by refine⟨kZ (dM h1.p v.p) ?_⟩;rintro D σ H⟨h,f,g,i,F,ρ,q,as,rows,fl,m,j,e,k⟩;rw[NQ]at e;obtain⟨f1,ρ1,l,e⟩:=aa e;cases f1 with|next=>refine⟨h,f,g,i,F,ρ,q,as,rows,.next,ρ1,j,l,λF1 w G s1 y nn=>?_⟩;obtain⟨A,B⟩:=nn (λr z=>by cases z);exact⟨h,f,g,i,F1,ρ1,q,as,A,fl,m,B,e,λF2 t C s2 E u=>k F2 t C s2 (y.trans E) u⟩|brk=>cases e;exact⟨h,f,g,i,F,ρ,q,as,rows,.brk,_,j,l,k⟩|cont=>cases e;exact⟨h,f,g,i,F,ρ,q,as,rows,.cont,_,j,l,k⟩|ret r=>cases e;exact⟨h,f,g,i,F,ρ,q,as,rows,.ret r,_,j,l,k⟩
theorem Hy(h1:Vy X c n x st s)(v:YW X c n x sts ss):YW X c n x (st::sts) (s::ss):=by refine⟨kZ (dM h1.p v.p) ?_⟩;rintro D σ H⟨j,g,h,l,F,ρ,q,as,rows,fl,u,m,e,k⟩;rw[NQ]at e;obtain⟨f1,ρ1,t,e⟩:=aa e;cases f1 with|next=>refine⟨j,g,h,l,F,ρ,q,as,rows,.next,ρ1,m,t,λF1 f i s1 A nn=>?_⟩;obtain⟨w,y⟩:=nn (λr z=>by cases z);exact⟨j,g,h,l,F1,ρ1,q,as,w,fl,u,y,e,k⟩|brk=>cases e;exact⟨j,g,h,l,F,ρ,q,as,rows,.brk,_,m,t,λF1 f i s1 _ _=>k F1 f i s1⟩|cont=>cases e;exact⟨j,g,h,l,F,ρ,q,as,rows,.cont,_,m,t,λF1 f i s1 _ _=>k F1 f i s1⟩|ret r=>cases e;exact⟨j,g,h,l,F,ρ,q,as,rows,.ret r,_,m,t,λF1 f i s1 _ _=>k F1 f i s1⟩
theorem KC(h:SB X c n sts ss):YW X c n x sts (.cG x::ss):=by refine⟨kZ h ?_⟩;rintro D σ H⟨A,l,m,B,F,ρ,q,as,rows,fl,f,i,e,k⟩;rw[NQ]at e;obtain⟨f1,ρ1,j,e⟩:=aa e;rw[HH.X19,i.nw.slot]at j;cases j;have t:=i.cG;refine⟨_,_,fl,f,t.gs,e,λu g w s=>?_⟩;have z:=k u g w (t.trans s);cases fl with|next=>exact z|brk=>exact z|cont=>exact z|ret r=>exact λv y=>z v (y.later t)
theorem QF{m r:List Stmt}{u v:List S}(hc:ST X c e p)(y:U0 X c n x m u)(A:U0 X c n x r v):Vy X c n x (.If e m r pos) (.ifs p u v):=by refine⟨fW (GC hc y.p A.p) ?_⟩;rintro D σ H⟨B,i,j,C,F,ρ,q,as,rows,fl,g,w,e,k⟩;rw[HH.Z0]at e;obtain⟨t,ρ1,E,e⟩:=aa e;refine⟨F,ρ,t,ρ1,w.stp.gs,E,λF1 G s1=>?_⟩;have go:∀{f:List Sl->Res Fl},f ρ1=.ok fl g->RQ X.K x f D σ G:=λ{f}h=>⟨B,i,j,C,F1,ρ1,q,as,rows,fl,g,w.step s1,h,λF2 l I s2 J nn=>k F2 l I s2 (s1.cu.trans J) nn⟩;cases t with|true=>rw[if_pos rfl]at e;exact go e|false=>rw[if_neg Bool.false_ne_true]at e;exact go e
theorem FN{ρ:List Sl}(h:iM ρ x=some rows):ρ[x]?=some (.hold rows):=by
 unfold iM at h;split at h;.rename_i z;cases h;exact z
 .cases h
def WalkN(K:PySem.W.Frag)(J:It)(ds:List D)(F1:Hp):Prop:=∀(k:Nat)(h f:Hp),aC F1 h->aC h f->(∀d,ds[k]?=some d->J.go k f/\∀x i,J.JC k f x i->∃g,Ext h f g i/\Rep K g x d)/\(ds.length<=k->J.stop k f)
inductive abh(K:PySem.W.Frag)(f:Ev)(σ:L2.St)(H:Hp)(R:It->Hp->Prop):Prop where|mk(F:Hp)(ρ:List Sl)(r:HH.R)(ρ1:List Sl)(ds:List D)(g:GS K F ρ σ H)(e:f ρ=.ok r ρ1)(e2:items r.d=some ds)(k:∀J F1 H1,az K F ρ σ H F1 ρ1 σ H1->WalkN K J ds F1->R J H1)
structure SIN(X:Cx)(c:Call)(tg e:Expr)(p:P):Prop where p:PI X tg e (abh X.K (HH.ev c p))
theorem Lk(h:SX X c e p):SIN X c tg e p:=by refine⟨nR (yZ h.ev) ?_⟩;rintro σ H R⟨F,ρ,r,ρ1,ds,g,e,f,k⟩;refine⟨F,ρ,r,ρ1,g,e,λv w y s q=>?_⟩;obtain⟨F2,s2,_,i⟩:=s.cG q;cases hd:r.d with|tup es=>rw[hd]at i f;cases f;rw[Rep]at i;obtain⟨a,xs,rfl,h1,m⟩:=i;exact⟨a,rfl,.inr ⟨⟨xs,aC.eZ s2.gs.sub h1⟩,k _ _ _ s2 λk t u j l=>BR (aC.eZ l (aC.eZ j h1)) (m.mono j) l k⟩⟩|lst es=>rw[hd]at i f;cases f;rw[Rep]at i;obtain⟨a,xs,rfl,h1,m⟩:=i;exact⟨a,rfl,.inl ⟨⟨xs,s2.gs.sub.seq h1⟩,k _ _ _ s2 λk t u j l=>oX (l.seq (j.seq h1)) (m.mono j) l k⟩⟩|_=>rw[hd]at f;cases f
theorem Cz{K:PySem.W.Frag}{F1:Hp}(i j:Int):WalkN K (U7 i (j-i).toNat) ((List.range (j-i).toNat).map λ(k:Nat)=>D.int (i+(k:Int))) F1:=by
 refine λk g v _ l=>⟨λd hd=>?_,λh=>?_⟩;.rw[getElem?_map]at hd;obtain⟨m,q,r⟩:=map_some hd;obtain⟨h1,f⟩:=dU q;rw[List.getElem_range]at f;subst f;subst r;rw[length_range]at h1;refine⟨h1,?_⟩;rintro x w⟨t,u⟩;subst t;subst u;exact⟨g,.refl l,bW _⟩
 .rw[length_map,length_range]at h;exact h
theorem Ir{x:Str}{q:Pos}(t:x="range")(u:Gl X x)(w:X.mg x=none)(y:SX X c a pa)(hs:starEach [a] X.env=[(false,eval a X.env)]:=by rfl):SIN X c tg (.Call (.Name x q) [a] [] pos) (.xF (.con (.int 0)) pa):=by
 subst t;obtain⟨O,h1,A⟩:=y.cV;refine⟨nR (sX u w (aX h1 cH hs) hs) ?_⟩;rintro σ H R⟨F,ρ,r,ρ1,ds,g,l,B,k⟩;rw[HH.E19]at l;obtain⟨Q,C,E,f⟩:=aa l;have G:=aF f;clear f;obtain⟨f,I⟩:=G;subst I;obtain⟨U,J,L,h⟩:=aa E;cases h;obtain⟨i,f1,f⟩:=bZ f;obtain⟨j,f2,f⟩:=bZ f;obtain⟨⟨b1,b2,b3,b4⟩,f⟩:=aU f;have f1:i=0:=by cases f1;rfl
 subst f1;subst f;cases B;cases cL f2;refine A g L λv m M s N=>⟨j,by rw[N.int],by omega,by omega,?_⟩;have:=Cz (K:=X.K) (F1:=m) 0 j;rw[sub_zero]at this;refine k _ m M s ?_;rw[sub_zero];exact this
theorem Bv{g:TG}{O:List Nat}{one:Bool}(hp:PassesOwn (model X.prog X.w) X.A X.env X.xe)(hc:X.calm=true)(hi:SIN X c tg iter p)(hg:PG X tg g)(af:Hl X.K (λρ d=>bY ρ O one d) g)(hb:U0 X c n x body ss)(hs:∀x,foldedSetIterable iter X.env x=pure x:=by intro _;rfl):Vy X c n x (.For tg iter body [] pos) (.DW p O one ss):=by
 refine⟨fW (IV hp hc hi.p hg hb.p hs) ?_⟩;rintro D σ H⟨F0,C,E,H0,F,ρ,q,as,rows,fl,Q,nb,e,k⟩;rw[HH.X18]at e;obtain⟨r,ρ1,e1,e⟩:=aa e;obtain⟨ds,am,e9,e2⟩:=aa e;have zz:=aF e9;clear e9;obtain⟨e9,ag⟩:=zz;subst ag;refine⟨F,ρ,r,ρ1,ds,nb.stp.gs,e1,e9,λJ F1 H1 s1 w=>?_⟩;refine⟨λi m l Hi=>∃B f N,NB X.K x q as F0 C E H0 B f l Hi N/\aC F1 B/\m=ds.length-i/\i<=ds.length/\iH O one (gY c n ss) (ds.drop i) f=.ok fl Q,⟨_,F1,ρ1,rows,nb.step s1,.refl _,rfl,vy,e2⟩,?_⟩;rintro i m l Hi⟨B,f,N,U,G,rfl,ap,j⟩;obtain⟨w1,w2⟩:=w i B Hi G U.stp.gs.sub;by_cases t:i<ds.length
 . right;have hd:ds[i]?=some ds[i]:=by simp[t]
   obtain⟨go,step⟩:=w1 _ hd;refine⟨go,λW Y=>∃m',m'<ds.length-i/\∃B f N,NB X.K x q as F0 C E H0 B f W Y N/\aC F1 B/\m'=ds.length-(i+1)/\i+1<=ds.length/\iH O one (gY c n ss) (ds.drop (i+1)) f=.ok fl Q,λW Y z=>z,λy Y yy=>?_⟩;obtain⟨F2,ext,rx⟩:=step y Y yy;have t2:=ext.stp U.stp.gs;rw[drop_eq_getElem_cons t,yN]at j;cases hbd:bY f O one ds[i]with|none=>rw[hbd]at j;cases j|some Z=>rw[hbd]at j;obtain⟨ac,I,eb,j⟩:=aa j;refine af y _ F2 f Z l Y _ t2.gs rx hbd λar sb=>?_;have t3:=t2.trans sb;refine⟨F0,C,E,H0,F2,Z,q,as,N,ac,I,U.step t3,eb,λF4 ae H4 s4 ah L=>?_⟩;have u:aC F1 F4:=G.trans (ext.fs.trans ah);cases ac with|next=>obtain⟨Jj,M⟩:=L (λr z=>by cases z);exact⟨_,by omega,F4,I,Jj,M,u,rfl,t,j⟩|cont=>obtain⟨Jj,M⟩:=L (λr z=>by cases z);exact⟨_,by omega,F4,I,Jj,M,u,rfl,t,j⟩|brk=>cases j;exact k F4 ae H4 s4 (s1.cu.trans u) λ_=>L (λr z=>by cases z)|ret r=>cases j;exact λv rr=>k F4 ae H4 s4 (s1.cu.trans u) (λh=>(h r rfl).elim) v rr
 . left;have ai:ds.drop i=[]:=by rw[drop_eq_nil_iff];omega
   rw[ai,Iv]at j;cases j;exact⟨w2 (by omega),k B l Hi U.stp (s1.cu.trans G) λ_=>⟨N,U⟩⟩
end
section
variable{X:Cx}{c:Call}{n:Nat}{e a b d i j:Expr}{p pa pb pd pi pj:P}{pos:Pos}
theorem Ma{ρ f:List Sl}{x:Nat}{o:Option (List (List D))}{fl:Fl}(h:Ci ρ x o=.ok fl f):∃rows,o=some rows/\fl=.next/\f=ρ.set x (.hold rows):=by cases o with|none=>cases h|some rows=>cases h;exact⟨rows,rfl,rfl,rfl⟩
section
variable{K:PySem.W.Frag}{F H F0 H0:Hp}{ρ ρ0:List Sl}{σ σ0:L2.St}{x:Nat}{q:Addr}{as:List Addr}{rows nT:List (List D)}
theorem NB.hold(f:NB K x q as F0 ρ0 σ0 H0 F ρ σ H rows)(h:iM ρ x=some nT):nT=rows:=by have:=FN h;rw[f.nw.slot]at this;cases this;rfl
theorem NB.at{k:Int}{r:Nat}{row:List D}(f:NB K x q as F0 ρ0 σ0 H0 F ρ σ H rows)(h1:HH.iT rows.length k=some r)(h:rows[r]?=some row):∃a ys,as[r]?=some a/\GR (as.map V.ref) k=some (.ref a)/\H a=some (.lst ys)/\aA K F ys row:=by
 have g:r<as.length:=by rw[f.nw.len];exact(dU h).1
 obtain⟨⟨ys,l,r1⟩,_⟩:=f.nw.row r as[r] row (by simp[g]) h;refine⟨as[r],ys,by simp[g],?_,l.1,r1⟩;unfold GR;rw[length_map,f.nw.len];rw[show L2.iT rows.length k=some r from h1];simp[g]
theorem NB.uM{g:D}{row:List D}(l:NB K x q as F0 ρ0 σ0 H0 F ρ σ H rows)(h:HH.uM ρ x g=some row):∃k a,(∃r:Nat,as[r]?=some a)/\GR (as.map V.ref) k=some (.ref a)/\g=.int k/\∃ys,H a=some (.lst ys)/\aA K F ys row:=by unfold HH.uM at h;obtain⟨f,h1,h⟩:=bZ h;cases l.hold h1;obtain⟨k,m,h⟩:=bZ h;obtain⟨r,s,t⟩:=bZ h;obtain⟨a,ys,u,v,w,y⟩:=l.at s t;exact⟨k,a,⟨r,u⟩,v,cL m,ys,w,y⟩
end
theorem Dy{l:List (List D)}{k:Int}{f:List D->Option (List D)}(h:jr rows k f=some l):∃r row g,HH.iT rows.length k=some r/\rows[r]?=some row/\f row=some g/\l=rows.set r g:=by unfold jr at h;obtain⟨r,h1,h⟩:=bZ h;obtain⟨row,m,h⟩:=bZ h;obtain⟨g,q,h⟩:=map_some h;exact⟨r,row,g,h1,m,q,h.symm⟩
theorem Fw{x:Str}{k:Nat}{u f h g:Pos}(hN:X.N[k]?=some x)(hv:xK X.env.scope x)(hi:SX X c i pi)(he:SX X c e p)(J:tZ i:=by intro _ _;rfl)(l:(h.endLine==g.line)=true:=by rfl)(hs:starEach [e] X.env=(false,eval e X.env)::starEach [] X.env:=by rfl)(s:attributeBase (.Subscript (.Name x u) i f) "append" X.env (eval (.Subscript (.Name x u) i f) X.env)=eval (.Subscript (.Name x u) i f) X.env:=by rfl)(w:((backTo g (starEach [e] X.env)).all (λx=>!x.1)&&(backToKw g (keywordEach [] X.env)).all (λx=>x.1.isSome)&&decide ([e].length+([]:List Keyword).length+(if([]:List Keyword).isEmpty then 0 else 1)<30))=true:=by rfl)(L:swapsWith (.Call (.Attribute (.Subscript (.Name x u) i f) "append" h) [e] [] g) none pos.line X.env=pure false:=by rfl)(hd:(x==("__debug__":Str))=false:=by decide)(M:(x==("__classdict__":Str))=false:=by decide):Vy X c n k (.Expr (.Call (.Attribute (.Subscript (.Name x u) i f) "append" h) [e] [] g) pos) (.Jf k pi p):=by obtain⟨ti,O,Q⟩:=hi.cV;refine⟨fW (oV (Gr plainAttrs_list PySem.F.slot_list_append PySem.F.type_list_append jQ (Hs zT (eV hN hv hd M) O J) (aX he.ev cH hs) s w l hs) L) ?_⟩;rintro E σ H⟨F0,am,ap,H0,F,ρ,q,as,rows,fl,ar,U,e,kk⟩;rw[HH.X17]at e;obtain⟨dk,ρ2,e2,e⟩:=aa e;obtain⟨ah,ai,G,e⟩:=aa e;have zz:=aF G;clear G;obtain⟨G,W⟩:=zz;subst W;obtain⟨r,Y,e3,e⟩:=aa e;obtain⟨rs,y,rfl,rfl⟩:=Ma e;refine⟨.ref q,U.nw.val,Q U.stp.gs e2 λvi F1 H1 s1 pi=>?_⟩;have I:=U.step s1;obtain⟨k0,a,g1,g2,g0,ys,g3,g4⟩:=I.uM G;rw[g0]at pi;refine⟨q,_,k0,_,rfl,pi.int,dg.of I.nw.out.kp.1,g2,.inl ⟨rfl,ys,dg.of g3⟩,F1,ρ2,r,Y,I.stp.gs,e3,λv F2 H2 s2 rr=>?_⟩;obtain⟨F3,s3,_,rp⟩:=s2.cG rr;have t:=I.step s3;obtain⟨Z,e5,y⟩:=bZ y;cases t.hold e5;obtain⟨k1,e6,y⟩:=bZ y;obtain⟨m,row,jZ,f1,f2,f3,rfl⟩:=Dy y;obtain⟨ac,rfl⟩:=aU f3;have:=cL e6;rw[g0]at this;cases this;obtain⟨a',ae,af,A,ag,B⟩:=t.at f1 f2;rw[g2]at A;cases A;have C:=t.mut af f2 (B.append (.cons rp .nil));exact⟨a,ae,v,rfl,rfl,ag,by rw[B.length];exact ac,kk F3 σ _ C.stp (s1.cu.trans s3.cu) λ_=>⟨_,C⟩⟩
end
section
variable{K:PySem.W.Frag}{F H F1 H1:Hp}{ρ ρ1:List Sl}{σ σ1:L2.St}
theorem az.since{b:Addr}(s:az K F ρ σ H F1 ρ1 σ1 H1)(h:H1 b=none):Own ρ σ b\/H b=none:=by
 by_cases ho:Own ρ σ b;.exact .inl ho
 .right;cases e:H b with|none=>rfl|some o=>rw[s.keep b o e ho]at h;cases h
theorem NB.mk'{x:Nat}{q:Addr}{as:List Addr}{s1:Sl}(s:az K F ρ σ H F1 ρ1 σ1 H1)(c:ρ1[x]?=some s1)(f:ud s1=false)(g:Pn F1 ρ1 σ1 H1 q (as.map V.ref))(nd:(q::as).Nodup)(len:as.length=rows.length)(row:∀(k:Nat)(a:Addr)(ds:List D),as[k]?=some a->rows[k]?=some ds->Wt K F1 ρ1 σ1 H1 a ds)(fr:∀b,b∈q::as->Own ρ σ b\/H b=none):NB K x q as F ρ σ H F1 (ρ1.set x (.hold rows)) (σ1.set x (some (.ref q))) H1 rows:=by
 have h:x<ρ1.length:=(dU c).1;have e:x<σ1.length:=by rw[<-s.gs.len];exact h
 exact⟨s.tG rfl (s.free c f),fr,s.free c f,⟨getElem?_set_self h,getElem?_set_self e,⟨Ad rfl g.kp,g.fr⟩,nd,len,λk a ds h1 i=>K3 rfl (row k a ds h1 i)⟩⟩
end
theorem Hc{K:PySem.W.Frag}{F H:Hp}{ρ ρ1 ρ2:List Sl}{σ:L2.St}{ul:List Sl->List Sl}{ti:TI}{is:List Nat}{one:Bool}{c:Call}{el:Ev}{g:TG}{Q:VK}{ds:List D}{m n:Nat}(hm:σ.length=m)(aw:o9 K m is one g)(ax:∀R:It->Hp->Prop,(∀J F1 O,Walk K F ρ σ H ul J ds F1 ρ1 O->R J O)->ti σ H R)(a9:ds.length<=lim)(e2:gj is one el ds [] (ρ1++replicate n .aP)=.ok rows ρ2)(k:∀ q as F' H',az K F ρ σ H F' (ul (ρ2.take ρ1.length)) σ H'->Pn F' (ul (ρ2.take ρ1.length)) σ H' q (as.map V.ref)->(q::as).Nodup->as.length=rows.length->(∀(k:Nat)(a:Addr)(ds:List D),as[k]?=some a->rows[k]?=some ds->Wt K F' (ul (ρ2.take ρ1.length)) σ H' a ds)->(∀b,b∈q::as->Own ρ σ b\/H b=none)->Q (.ref q) H'):rO n ti g (Jt K (u6 c none)) (xM K el) σ H Q:=by
 refine ax _ λJ F1 O w Da X=>?_;have ay:ρ1.length=σ.length:=w.gs.len;have gm:=w.gs.more (n:=n) (τ:=replicate n none) (by simp);have fD:F1 Da=none:=by cases q:F1 Da with|none=>rfl|some o=>rw[w.gs.sub Da o q]at X;cases X
 have nO:¬ Own (ρ1++replicate n .aP) (σ++replicate n none) Da:=λ⟨i,⟨t,dt,q1,q2⟩,q3⟩=>by obtain⟨a,ys,z1,z2,_⟩:=gm.own i t dt q1 q2;rw[q3]at z1;cases z1;rw[X]at z2;cases z2
 refine⟨λi mm ys e I=>∃L f j as,az K F1 (ρ1++replicate n .aP) (σ++replicate n none) O L f e I/\e.take m=σ/\ys=as.map V.ref/\I Da=some (.lst ys)/\L Da=none/\¬ Own f e Da/\(Da::as).Nodup/\as.length=j.length/\(∀(k:Nat)(a:Addr)(ds:List D),as[k]?=some a->j[k]?=some ds->Wt K L f e I a ds/\(Own (ρ1++replicate n .aP) (σ++replicate n none) a\/O a=none))/\j.length<=i/\mm=ds.length-i/\i<=ds.length/\gj is one el (ds.drop i) j f=.ok rows ρ2,⟨_,F1,_,[],[],(az.refl gm).wN X fD nO,by rw[List.take_append_of_le_length (by omega),List.take_of_length_le (by omega)],rfl,aD,fD,nO,by simp,rfl,λk a ds h=>by simp at h,vy,rfl,vy,e2⟩,?_⟩;rintro i mm ys e I⟨L,f,j,as,si,am,Y,hD,hF,hO,Z,l,C,ba,rfl,bi,B⟩;refine⟨hD,?_⟩;have stay:∀{F2 H2:Hp}{ac:List Sl}{E:L2.St},az K L f e I F2 ac E H2->H2 Da=some (.lst ys)/\F2 Da=none/\¬ Own ac E Da:=λ{F2 H2 ac E}s=>by have:=(Pn.stp (xs:=ys) ⟨⟨hD,hO⟩,hF⟩ s);exact⟨this.kp.1,this.fr,this.kp.2⟩
 obtain⟨s1,s2⟩:=w.src n i L f e I si;by_cases ae:i<ds.length
 . right;have hd:ds[i]?=some ds[i]:=by simp[ae]
   obtain⟨go,step⟩:=s1 _ hd;refine⟨go,λx H2 y=>?_⟩;obtain⟨F2,ext,rx⟩:=step x H2 y;have t2:=ext.stp si.gs;rw[drop_eq_getElem_cons ae,Ek]at B;cases hbd:bY f is one ds[i]with|none=>rw[hbd]at B;cases B|some N=>rw[hbd]at B;obtain⟨re,af,ee,B⟩:=aa B;cases re with|val _=>cases B|own ag=>
     replace B:gj is one el (ds.drop (i+1)) (j++[ag]) af=.ok rows ρ2:=B;refine aw x _ F2 f N e H2 _ t2.gs rx hbd λE sb aE=>?_;have t3:=t2.trans sb;refine⟨F2,N,true,N,t3.gs,by rw[u6],λF4 H4 s4=>?_⟩;have t4:=t3.trans s4;refine(show xM K el E H4 _ from⟨F4,N,.own ag,af,t4.gs,ee,λv F5 H5 s5 rr=>?_⟩);have t6:=t4.trans s5;obtain⟨y1,y2,y3⟩:=stay t6;obtain⟨z1,z2,z3⟩:=stay t4;have ah:ys.length<sizeLine:=by have M:lim=sizeLine:=rfl;rw[Y,length_map];omega
     obtain⟨A,xs,rfl,a1,a2,a3,a4,a5⟩:=rr;have ap:A≠Da:=by
      rintro rfl;rcases a5 with z|z;.exact z3 z
      .rw[z1]at z;cases z
     have nA:A∉as:=λhA=>by
      obtain⟨G,u⟩:=List.getElem?_of_mem hA;have ai:G<j.length:=by rw[<-l];exact(dU u).1
      obtain⟨⟨zs,U,_⟩,_⟩:=(C G A j[G] u (by simp[ai])).1.stp t4;rcases a5 with z|z;.exact U.2 z
      .rw[U.1]at z;cases z
     have fA:Own (ρ1++replicate n .aP) (σ++replicate n none) A\/O A=none:=by
      have t:=si.trans t4;rcases a5 with z|z;.exact t.u9 A z
      .exact t.since z
     refine⟨y1,ah,_,by omega,F5,af,j++[ag],as++[A],(si.trans t6).wN X y2 y3,aE.trans am,by rw[Y];simp,aD,y2,y3,?_,by simp[l],λG a0 Jk h1 M=>?_,by simp;omega,rfl,ae,B⟩
     . rw[<-List.cons_append,nodup_append];refine⟨Z,by simp,λp hp r hr=>?_⟩;simp at hr;subst hr;rcases mem_cons.mp hp with rfl|hp;.exact λz=>ap z.symm
       .rintro rfl;exact nA hp
     . by_cases u:G<as.length
       . rw[getElem?_append_left u]at h1;rw[getElem?_append_left (by omega)]at M;obtain⟨w0,f0⟩:=C G a0 Jk h1 M;obtain⟨⟨zs,U,r1⟩,g1⟩:=w0.stp t6;have na:a0≠Da:=by rintro rfl;exact(nodup_cons.mp Z).1 (mem_of_getElem? h1)
         exact⟨⟨⟨zs,⟨by rw[ao na];exact U.1,U.2⟩,r1⟩,g1⟩,f0⟩
       . rw[getElem?_append_right (by omega)]at h1;rw[getElem?_append_right (by omega)]at M;have:G-as.length=0:=by have:=(dU h1).1;simp at this;exact this
         rw[this]at h1;rw[<-l,this]at M;cases h1;cases M;exact⟨⟨⟨xs,⟨by rw[ao ap];exact a1,a4⟩,a3⟩,a2⟩,fA⟩
 . left;have aI:ds.drop i=[]:=by rw[drop_eq_nil_iff];omega
   rw[aI,Ip]at B;cases B;refine⟨s2 (by omega),?_⟩;have hst:e.take ρ1.length=σ:=by rw[ay,hm];exact am
   obtain⟨l1,l2⟩:=az.less (m:=ρ1.length) rfl w.gs (by simp) si;rw[hst]at l1;obtain⟨z1,z2⟩:=w.fin _ _ _ _ l1--the outer list:with nothing in it,it is like any new one
   have aS:=si.wN (o:=.lst []) X hF hO;obtain⟨ar,Vj⟩:=az.less (m:=ρ1.length) rfl w.gs (by simp) aS;rw[hst]at ar;obtain⟨bm,aT⟩:=w.fin _ _ _ _ ar;have rr:cz K L ρ2 e (upd I Da (.lst [])) (ρ1++replicate n .aP) (σ++replicate n none) O (.ref Da) (.own []):=⟨Da,[],rfl,aD,hF,.nil,hO,.inr X⟩;have O2:=Vj _ _ rr;rw[hst]at O2;obtain⟨_,_,q0,_,q3,_,q5,q6⟩:=aT _ _ O2;cases q0;have av:∀(k:Nat)(a:Addr)(ds:List D),as[k]?=some a->rows[k]?=some ds->Wt K L (ul (ρ2.take ρ1.length)) σ I a ds/\(Own ρ σ a\/H a=none):=λk a ds h1 M=>by obtain⟨⟨⟨xs,U,r1⟩,f1⟩,f2⟩:=C k a ds h1 M;have rr:cz K L ρ2 e I (ρ1++replicate n .aP) (σ++replicate n none) O (.ref a) (.own ds):=⟨a,xs,rfl,U.1,f1,r1,U.2,f2⟩;have O2:=l2 _ _ rr;rw[hst]at O2;obtain⟨a',a8,q0,q2,q3,q4,q5,q6⟩:=z2 _ _ O2;cases q0;exact⟨⟨⟨a8,⟨q2,q5⟩,q4⟩,q3⟩,q6⟩
   refine k Da as L I z1 ⟨⟨by rw[hD,Y],q5⟩,q3⟩ Z l (λk a ds h1 M=>(av k a ds h1 M).1) λb hb=>?_;rcases mem_cons.mp hb with rfl|hb;.exact q6
   . obtain⟨G,u⟩:=List.getElem?_of_mem hb;have ai:G<rows.length:=by rw[<-l];exact(dU u).1
     exact(av G b rows[G] u (by simp[ai])).2
section
variable{X:Cx}{c:Call}{nn n:Nat}{tg iter elt:Expr}{ps pe:P}{pos:Pos}{sts:List Stmt}{ss:List S}{scope:Scope}{N':List Str}
theorem J6{i:Nat}{x:Str}{b f:Pos}{g:TG}{y:List Nat}{one:Bool}(hc:X.calm=true)(B:X.N.Nodup)(m:X.N[i]?=some x)(E:Loc X.env.scope x)(ok:fO X scope N' n)(G:SI X c tg iter ps)(J:∀cl C s₀ H₀ ex,PG (wF X scope N' cl C s₀ H₀ ex) tg g)(r:o9 X.K X.N.length y one g)(ht:∀cl C s₀ H₀ ex,SQ (wF X scope N' cl C s₀ H₀ ex) c [] none)(he:∀cl C s₀ H₀ ex,SX (wF X scope N' cl C s₀ H₀ ex) c elt pe)(L:YW X c nn i sts ss)(t:swapsWith (.ListComp elt [⟨tg,iter,[],0⟩] scope pos) (some (.Name x b)) f.line X.env=pure true:=by rfl)(hs:∀x,foldedSetIterable iter X.env x=pure x:=by intro _;rfl)(M:X.fn x=true\/X.env.scope.names.lookup x=some .local:=by first|exact .inl rfl|exact .inr rfl|assumption):SB X c nn (.Assign [.Name x b] (.ListComp elt [⟨tg,iter,[],0⟩] scope pos) f::sts) (.Je i ps n y one pe::ss):=by
 have h0:=Li (tt:=Jt X.K (u6 c none)) (te:=xM X.K (HH.ev c pe)) hc B m E ok G J ht (λcl C s₀ H₀ ex=>(he cl C s₀ H₀ ex).ev) t hs M;refine λj s σ H D I q=>dM h0 L.p j s σ H D I ?_;have O:σ.length=X.N.length:=I.len;obtain⟨F,ρ,fl,u,Q,e,U⟩:=q;rw[NQ]at e;obtain⟨f1,W,a,e⟩:=aa e;rw[HH.X16]at a;obtain⟨ds,ρ1,Y,a⟩:=aa a;split at a;.rename_i k;obtain⟨rows,ρ2,Z,a⟩:=aa a;obtain⟨ac,A,l,a⟩:=aa a;cases a;have zz:=aF l;clear l;obtain⟨l,_⟩:=zz;obtain⟨s1,h1,h2,rfl⟩:=yV l;refine(show rO n (tIt X.K (isVar ps) (HH.ev c ps)) g (Jt X.K (u6 c none)) (xM X.K (HH.ev c pe)) σ H (λv H1=>fj i v σ H1 (Xk X.K i (gY c nn ss) D))from Hc (c:=c) (ul:=aY ρ (isVar ps)) O r (λR h=>⟨F,ρ,ds,ρ1,Q,Y,h⟩) k Z λq as F' H' s wq nd len row fr=>?_);exact⟨F,ρ,σ,H,F',_,q,as,rows,fl,u,NB.mk' s h1 h2 wq nd len row fr,e,λF2 w H2 s2=>U F2 w H2 s2⟩
 .cases a
end
end HH
end
section
namespace HH
open PySem L2 PySem.Spec PyProof.Rows PySem.Calls PySem.W
variable{i:Nat}{x:Str}
section
variable{K:PySem.W.Frag}{F F1 H H1:Hp}{ρ ρ1 ρ2:List Sl}{σ σ1:L2.St}
theorem GS.abf{x:Nat}{kvs f:List (Int×D)}{a:Addr}{w:HO}(g:GS K F ρ σ H)(e:ρ[x]?=some (.cJ kvs))(p:σ[x]?=some (some (.ref a)))(r:km K F w (.v f)):az K F ρ σ H F (ρ.set x (.cJ f)) σ (upd H a w):=by
 have y:x<ρ.length:=(dU e).1;have A:aW ρ σ x a:=⟨⟨_,_,e,rfl⟩,p⟩;obtain⟨N,O,h1,Q,B,U⟩:=g.own x _ _ e rfl;rw[p]at h1;cases h1;have h:∀{j:Nat}{c:Addr},aW (ρ.set x (.cJ f)) σ j c->aW ρ σ j c:=λ{j c}⟨⟨t,dt,m,s⟩,q3⟩=>by
  by_cases b:j=x;.subst b;exact⟨⟨_,_,e,rfl⟩,q3⟩
  .rw[fZ b]at m;exact⟨⟨t,dt,m,s⟩,q3⟩
 refine⟨⟨λc o q=>?_,by simp[g.len],λj E d q=>?_,λj t dt q u=>?_,λj k c m s=>g.dis j k c (h m) (h s)⟩,.refl _,λc n G=>absurd n G,λc o q n=>?_,λc⟨j,q⟩=>.inl ⟨j,h q⟩,by simp,λj t q l=>⟨rfl,?_⟩⟩
 . have:c≠a:=by rintro rfl;rw[B]at q;cases q
   rw[ao this];exact g.sub c o q
 . by_cases b:j=x;.subst b;rw[getElem?_set_self y]at q;cases q
   .rw[fZ b]at q;exact g.val j E d q
 . by_cases b:j=x;.subst b;rw[getElem?_set_self y]at q;cases q;cases u;exact⟨a,_,p,aD,B,r⟩
   . rw[fZ b]at q;obtain⟨c,I,C,J,L,M⟩:=g.own j t dt q u;have:c≠a:=by rintro rfl;exact b (g.dis j x c ⟨⟨t,dt,q,u⟩,C⟩ A)
     exact⟨c,I,C,by rw[ao this];exact J,L,M⟩
 . have:c≠a:=by rintro rfl;exact n ⟨x,A⟩
   rw[ao this];exact q
 . by_cases b:j=x;.subst b;rw[e]at q;cases q;cases l
   .exact⟨t,by rw[fZ b];exact q,.refl t⟩
theorem GS.newV{kvs:List (Int×D)}{a:Addr}{C:HO}{s0:Sl}(g:GS K F ρ σ H)(e:ρ[i]?=some s0)(y:ud s0=false)(r:km K F C (.v kvs))(s:H a=none):az K F ρ σ H F (ρ.set i (.cJ kvs)) (σ.set i (some (.ref a))) (upd H a C):=by
 have A:i<ρ.length:=(dU e).1;have u:i<σ.length:=by rw[<-g.len];exact A
 have E:F a=none:=by cases q:F a with|none=>rfl|some o=>rw[g.sub a o q]at s;cases s
 have f:∀{j:Nat}{c:Addr},j≠i->aW (ρ.set i (.cJ kvs)) (σ.set i (some (.ref a))) j c->aW ρ σ j c:=λ{j c}b⟨⟨t,ds,e1,e2⟩,e3⟩=>by rw[fZ b]at e1 e3;exact⟨⟨t,ds,e1,e2⟩,e3⟩
 have h:∀{c:Addr},aW (ρ.set i (.cJ kvs)) (σ.set i (some (.ref a))) i c->c=a:=λ{c}⟨_,e3⟩=>by rw[getElem?_set_self u]at e3;cases e3;rfl
 have no:∀{j:Nat},¬ aW ρ σ j a:=λ{j}⟨⟨t,ds,e1,e2⟩,e3⟩=>by obtain⟨c,o,m,p,_⟩:=g.own j t ds e1 e2;rw[e3]at m;cases m;rw[s]at p;cases p
 refine⟨⟨λc o q=>?_,by simp[g.len],λj I d q=>?_,λj t dt q G=>?_,λj k c m p=>?_⟩,.refl _,λc n J=>absurd n J,λc o q n=>?_,λc⟨j,q⟩=>?_,by simp,λj t q l=>?_⟩
 . have:c≠a:=by rintro rfl;rw[E]at q;cases q
   rw[ao this];exact g.sub c o q
 . by_cases b:j=i;.subst b;rw[getElem?_set_self A]at q;cases q
   .rw[fZ b]at q ⊢;exact g.val j I d q
 . by_cases b:j=i;.subst b;rw[getElem?_set_self A]at q;cases q;cases G;exact⟨a,_,getElem?_set_self u,aD,E,r⟩
   . rw[fZ b]at q ⊢;obtain⟨c,o,L,B,M,N⟩:=g.own j t dt q G;have:c≠a:=by rintro rfl;rw[s]at B;cases B
     exact⟨c,o,L,by rw[ao this];exact B,M,N⟩
 . by_cases b:j=i
   . by_cases w:k=i;.rw[b,w]
     .subst b;rw[h m]at p;exact absurd (f w p) no
   . by_cases w:k=i;.subst w;rw[h p]at m;exact absurd (f b m) no
     .exact g.dis j k c (f b m) (f w p)
 . have:c≠a:=by rintro rfl;rw[s]at q;cases q
   rw[ao this];exact q
 . by_cases b:j=i;.subst b;rw[h q];exact .inr s
   .exact .inl ⟨j,f b q⟩
 . have b:j≠i:=by rintro rfl;rw[e]at q;cases q;rw[y]at l;cases l
   exact⟨by rw[fZ b],t,by rw[fZ b];exact q,.refl t⟩
end
section
variable{X:Cx}{c:Call}{n:Nat}{a b e:Expr}{pa pb p:P}{pos:Pos}
theorem BK{f m:Pos}(o:X.N.Nodup)(r:X.N[i]?=some x)(s:Loc X.env.scope x)(hs:swapsWith (.Dict [] [] m) (some (.Name x f)) pos.line X.env=pure false:=by rfl)(t:X.fn x=true\/X.env.scope.names.lookup x=some .local:=by first|exact .inl rfl|exact .inr rfl|assumption):SS X c n (.Assign [.Name x f] (.Dict [] [] m) pos) (.DX i):=by
 refine fW (uc o r s Em hs t) ?_;rintro D σ H⟨F,ρ,fl,h,g,e,k⟩;rw[HH.X20]at e;have go:∀s0,ρ[i]?=some s0->ud s0=false->fl=.next->h=ρ.set i (.cJ [])->∀a,H a=none->D.nx (σ.set i (some (.ref a))) (upd H a (.dK [])):=λs0 q u j l a v=>by subst j l;exact k F _ _ (g.newV (kvs:=[]) q u (KR.oc .nil) v)
 split at e;.rename_i q;cases e;exact go _ q rfl rfl rfl
 .rename_i q;cases e;exact go _ q rfl rfl rfl
 .rename_i q;cases e;exact go _ q rfl rfl rfl
 .cases e
theorem uL{u f:Pos}{pk:P}(hu:X.A.units+8<cLine)(C:X.N[i]?=some x)(E:xK X.env.scope x)(G:SX X c a pk)(he:SX X c e p)(hs:swapsWith e (some (.Subscript (.Name x u) a f)) pos.line X.env=pure false:=by rfl)(hd:(x==("__debug__":Str))=false:=by decide)(m:(x==("__classdict__":Str))=false:=by decide):SS X c n (.Assign [.Subscript (.Name x u) a f] e pos) (.gq i pk p):=by
 obtain⟨ta,h1,I⟩:=G.cV;refine fW (Mp (by omega) (eV C E hd m) h1 he.ev hs) ?_;rintro D σ H⟨F,ρ,fl,J,g,e,k⟩;rw[HH.X21]at e;obtain⟨r,ρ1,L,l⟩:=aa e;clear e;refine⟨F,ρ,r,ρ1,g,L,λv F1 H1 s1 M=>?_⟩;obtain⟨F2,s2,_,O⟩:=s1.cG M;split at l
 . rename_i Q U;obtain⟨kd,ρ2,W,h⟩:=aa l;clear l;obtain⟨o,o0,s,w2,w3,w4⟩:=s2.gs.own i _ _ U rfl;refine⟨.ref o,s,I s2.gs W λy Y Z s3 py=>?_⟩;split at h
   . rename_i kvs j q;split at h;.rename_i hl;cases h;obtain⟨a1,o1,w,y2,y3,y4⟩:=s3.gs.own i _ _ q rfl;rw[s]at w;cases w;obtain⟨es,rfl,B⟩:=KR.Sw y4;have t:=B.put (k:=j) (O.mono s3.cu);refine⟨o,upd Z o (.dK (putK es (Sum.inl j:Key) v)),rfl,?_,k Y σ _ ((s2.trans s3).trans (s3.gs.abf q s t.oc))⟩;rw[py.int];exact .inl ⟨es,Sum.inl j,y2,rfl,by rw[B.len,sizeLine_eq];exact hl,rfl⟩
     .cases h
   .cases h
 .cases l
theorem yW{y:Pos}{pk:P}(hu:X.A.units+8<cLine)(B:X.N[i]?=some x)(C:xK X.env.scope x)(E:SX X c a pk)(hs:La a)(hd:(x==("__debug__":Str))=false:=by decide)(l:(x==("__classdict__":Str))=false:=by decide):SX X c (.Subscript (.Name x y) a pos) (.OD i pk):=by
 obtain⟨ta,h1,G⟩:=E.cV;refine⟨dZ (Mj (by omega) (eV B C hd l) h1 hs) ?_,λi h=>by cases h⟩;rintro σ H Q⟨F,ρ,r,I,g,e,k⟩;rw[HH.E23]at e;split at e
 . rename_i J q;obtain⟨kd,ρ1,L,f⟩:=aa e;clear e;obtain⟨m,o0,o,w2,w3,w4⟩:=g.own i _ _ q rfl;refine⟨.ref m,o,G g L λv F1 M s1 s=>?_⟩;split at f;.rename_i kvs O;obtain⟨t,U⟩:=aF f;clear f;subst U;obtain⟨j,W,Y⟩:=bZ t;clear t;obtain⟨d,Z,e6⟩:=map_some Y;subst e6;rw[cL W]at s;obtain⟨a1,o1,u,y2,y3,y4⟩:=s1.gs.own i _ _ O rfl;rw[o]at u;cases u;obtain⟨es,rfl,kr⟩:=KR.Sw y4;obtain⟨w,g1,g2⟩:=kr.get Z;rw[s.int];exact⟨m,w,rfl,.inl ⟨es,Sum.inl j,.inl y2,rfl,g1.symm⟩,k w F1 M s1 (show Rep X.K F1 _ _ from g2)⟩
   .cases f
 .cases e
theorem Pk{J:Pos}{pk:P}{neg:Bool}{op:CmpOp}(t:(op=.In/\neg=false)\/(op=.NotIn/\neg=true))(hu:X.A.units+8<cLine)(w:X.N[i]?=some x)(B:xK X.env.scope x)(L:SX X c a pk)(hd:(x==("__debug__":Str))=false:=by decide)(m:(x==("__classdict__":Str))=false:=by decide):PC X op a (.Name x J) (xM X.K (HH.ev c (.OJ i pk neg))):=by
 obtain⟨M,h1,O⟩:=L.cV;have l:∀{σ:L2.St}{H:Hp}{Q:VK},xM X.K (HH.ev c (.OJ i pk neg)) σ H Q->M σ H λy u=>dD i σ u λx C=>∃a o,x=.ref a/\qK C a y o/\Q (.bl (if neg then !o.isSome else o.isSome)) C:=λ{σ H Q}⟨F,ρ,r,ρ',g,e,k⟩=>by
  rw[HH.E24]at e;obtain⟨kd,ρ1,U,q⟩:=aa e;clear e;refine O g U λv F1 u s1 E=>?_;split at q;.rename_i kvs W;obtain⟨Y,Z⟩:=aF q;clear q;subst Z;obtain⟨j,e4,e5⟩:=map_some Y;subst e5;rw[cL e4]at E;obtain⟨G,o1,y1,y2,y3,y4⟩:=s1.gs.own i _ _ W rfl;obtain⟨es,rfl,kr⟩:=KR.Sw y4;rw[E.int];refine⟨.ref G,y1,G,_,rfl,.inl ⟨es,Sum.inl j,.inl y2,rfl,rfl⟩,?_⟩;rw[kr.has j];exact k _ F1 u s1 (show Rep X.K F1 _ _ from fc _)
  .cases q
 rcases t with⟨rfl,rfl⟩|⟨rfl,rfl⟩;.exact λf s σ H Q I h=>RZ (by omega) h1 (eV w B hd m) f s σ H Q I (l h)
 .exact λf s σ H Q I h=>CQ (by omega) h1 (eV w B hd m) f s σ H Q I (l h)
end
theorem jt{P:Program}{w:World}:∀{ks:List Int}{es:List (Key×V)}{vs:List (Key×Value)}{a:List Value},es.map (·.1)=ks.map (Sum.inl:Int->Key)->KV es vs->a.length=vs.length->(∀(j:Nat)(v:Value),a[j]?=some v->∃(k:Key)(x:Value),vs[j]?=some (k,x)/\(bC P w).is k v=true)->IntsAre a ks
 |[],es,_,a,he,r,h,_=>by cases es with
   |nil=>cases r;cases a with|nil=>exact .nil|cons _ _=>simp at h
   |cons _ _=>simp at he
 |i::ks,es,_,a,he,r,h,k=>by cases es with|nil=>simp at he|cons p es=>cases r with|@cons _ q _ _ r t=>rw[map_cons,map_cons]at he;cases a with|nil=>simp at h|cons v a=>
         obtain⟨f,x,c,g⟩:=k 0 v rfl;simp at c;have l:f=Sum.inl i:=by have z:=r.1;rw[c]at z;rw[<-(List.cons.inj he).1];exact z.symm
         subst l;obtain⟨n,m,b,rfl⟩|⟨_,_,b,_⟩:=bD (show pJ (Sum.inl i) v=true from g);.cases b;exact .cons _ m (jt (List.cons.inj he).2 t (by simpa using h) λj v e=>k (j+1) v (by simpa using e))
         .cases b
section
variable{X:Cx}{c:Call}{n:Nat}{a b e:Expr}{pa pb p:P}{pos:Pos}
theorem WT(hc:X.calm=true):dH X (.type "list") (J8 X.K λx=>blt .Vg [x]):=by rintro m s σ H xs us Q I r⟨x,C,F,d,E,t,G,he,k⟩;cases d with|dv ks ds=>
   obtain⟨J,he⟩:=aU (show(if ks.length<=16777216 then some (R.own (ks.map D.int))else none)=some E from he);subst he;obtain⟨q,L,y,rfl,M,N,O⟩:=G.dv t;subst C;obtain⟨u,rfl,U⟩:=r.one;cases U;obtain⟨ho,hz,W,vs,A,h⟩:=(show bI X.prog X.w H s.heap q (.cG L (.dK (ent ks y)))from I.hok q _ M);obtain⟨ep,h⟩:=h.dictAt;have B:=mC (ks:=ks) (vs:=y) (by rw[N.length];exact O);have l:vs.length=ks.length:=by rw[<-Paired.length A];have:=congrArg List.length B;simpa using this
   refine kdl_call (kdl_dict (knd:=bC X.prog X.w) (kvs:=vs) (ep:=ep) W) (I.ok.hd hc) h (by rw[l,sizeLine_eq];omega) λh' Y g Z kp hD f=>?_;have ia:IntsAre g.toList ks:=jt (P:=X.prog) (w:=X.w) B A (by rw[length_toList];exact f.1) λj v e=>f.2 j v (by rw[<-getElem?_toList];exact e);refine⟨.ref s.heap.objs.size,_,I.laid (t':=Y) (o:=.lst (ks.map V.int)) (h':=h') kp (cQ) ⟨by rw[length_map,sizeLine_eq];omega,g.toList,Z,fC ia,by rw[Array.toArray_toList];exact hD⟩,rfl,?_⟩;exact vR t (jN ks) (I.hok.fresh (cQ)) k|_=>cases he
theorem Fj{f:Pos}(g:x="list")(hc:X.calm=true)(j:Gl X x)(k:X.mg x=none)(l:SX X c a pa)(hs:starEach [a] X.env=(false,eval a X.env)::starEach [] X.env:=by rfl):SX X c (.Call (.Name x f) [a] [] pos) (.blt .Vg [pa]):=by subst g;exact nJ (λh=>gW (WT hc) j k (by decide+kernel) h (he:=hs)) l (λρ=>rfl) rfl hs
theorem Gy(hc:X.calm=true):dH X (.builtin "sorted") (J8 X.K λx=>blt .nD [x]):=by
 rintro N s σ H xs us Q I r⟨x,hx,F,d,r',O,px,he,k⟩
 cases d with|dv ks ds=>
   obtain⟨so,he⟩:=aU (show(if ks.length<64 then some (R.own (n8 (ks.map D.int)))else none)=some r' from he);subst he;obtain⟨q,ob,U,rfl,hq,rs,hl⟩:=px.dv O;subst hx;obtain⟨u,rfl,rx⟩:=r.one;cases rx;obtain⟨ho,hz,hS,vs,W,y⟩:=(show bI X.prog X.w H s.heap q (.cG ob (.dK (ent ks U)))from I.hok q _ hq);obtain⟨ep,y⟩:=y.dictAt;have Y:=mC (ks:=ks) (vs:=U) (by rw[rs.length];exact hl);have B:vs.length=ks.length:=by rw[<-Paired.length W];have:=congrArg List.length Y;simpa using this
   refine Calls.call_function_entry kind_sorted plain_sorted entry_sorted (args_sorted1 _) ?_;unfold Builtin.«sorted»;refine wpAny_bind (m:=checkCount "sorted" 1 1 _) (wpAny_pure ?_);refine wpAny_bind (tW (A:=X.A.in1) (knd:=bC X.prog X.w) (I.ok.hd hc) hS y (by rw[B,sizeLine_eq];omega) λh1 C g kp hsz f=>?_);have E:IntsAre g.toList ks:=jt (P:=X.prog) (w:=X.w) Y W (by rw[length_toList];exact f.1) λj v e=>f.2 j v (by rw[<-getElem?_toList];exact e);have G:g.toList.length=ks.length:=by rw[IntsAre.length E]
   generalize g.toList=h at E G;refine wpAny_bind (wpAny_newList ?_ (by rw[sizeLine_eq];omega));have hsz:=le_of_lt hsz;generalize Z:(h1.push {cls:=.type "list",data:=.seq h.toArray}:Heap)=t;have l:t.get? h1.objs.size=some (seqObj "list" h.toArray 0):=by rw[<-Z];exact get?_push_size _ rfl
   have Jl:∀b o,s.heap.get? b=some o->t.get? b=some o:=λb o e=>by rw[<-Z];exact du (kp b o e)
   have J:∀b o,s.heap.get? b=some o->b≠h1.objs.size:=λb o e=>ne_of_lt (lt_size (kp b o e));show wpAny _ _ _ _ _ {s with heap:=t,toks:=C};refine wpAny_bind (wpAny_holding (wpAny_call_entry slot_list_sort ⟨_,l,rfl⟩ entry_list_sort ?body (args_list_sort _)));case body=>
    refine rN (s:={s with heap:=t,toks:=C}) l E (by omega) λh' cc out L k' i1 p2 l2 e=>⟨_,rfl,wpAny_pure ⟨_,rfl,?_⟩⟩;have kk:∀b o,s.heap.get? b=some o->h'.get? b=some o:=λb o z=>k' b o (J b o z) (Jl b o z);refine⟨.ref h1.objs.size,_,I.laid (t':=C) (o:=.lst (L.map V.int)) (h':=h') kk hsz ⟨by rw[length_map,l2,sizeLine_eq];omega,out,cc,fC i1,e⟩,rfl,?_⟩;have M:aA X.K F (L.map V.int) (n8 (ks.map D.int)):=by rw[p2];exact jN L
    exact vR O M (I.hok.fresh hsz) k|_=>cases he
theorem Dt{f:Pos}(g:x="sorted")(hc:X.calm=true)(j:Gl X x)(k:X.mg x=none)(l:SX X c a pa)(hs:starEach [a] X.env=(false,eval a X.env)::starEach [] X.env:=by rfl):SX X c (.Call (.Name x f) [a] [] pos) (.blt .nD [pa]):=by subst g;exact nJ (λh=>eO (Gy hc) j k boot_sorted h (he:=hs)) l (λρ=>rfl) rfl hs
theorem KQ{neg:Bool}{op:CmpOp}(f:(op=.In/\neg=false)\/(op=.NotIn/\neg=true))(N:X.A.units+8<cLine):gk X (compareOp op) (rD X.K (vO neg)):=by rintro o s σ H x y v u Q I h w⟨F,d,e,r,l,B,C,he,k⟩;cases d with
 |int j=>cases e with|dv ks ds=>
     cases he;obtain⟨q,E,vs,rfl,G,J,L⟩:=C.dv l;have M:=KR.zip J L;rw[B.int]at h;obtain rfl:u=Value.ref q:=w;have g:qK H q (.int j) (iV (ent ks vs) (Sum.inl j:Key)):=.inl ⟨_,Sum.inl j,.inr ⟨E,G⟩,rfl,rfl⟩;have t:(iV (ent ks vs) (Sum.inl j:Key)).isSome=ks.contains j:=by rw[M.has j];congr 1;rw[List.map_fst_zip (by omega)]
     rcases f with⟨rfl,rfl⟩|⟨rfl,rfl⟩;.refine Xq (by omega) I g h λs3 m=>⟨.bl (iV (ent ks vs) (Sum.inl j:Key)).isSome,H,m,rfl,?_⟩;rw[t];exact cg.dw l (fc _) k
     .refine BP (by omega) I g h λs3 m=>⟨.bl (!(iV (ent ks vs) (Sum.inl j:Key)).isSome),H,m,rfl,?_⟩;rw[t];exact cg.dw l (fc _) k|_=>cases he
 |_=>cases he
end
end HH
end
section
namespace PySem
section
variable{prog:Program}{w:World}{A:Around}{E:Value->Shared->Prop}{s:Shared}
theorem uH{Q:List Value->Shared->Prop}{I l:Addr}{items:Array Value}(u:A.handled=none)(f:s.heap.IsRevIter I l ((items.size:Int)-1))(p:s.heap.IsList l items)(k:l≠I)(g:items.size<=2^24)(x:∀h' m c,(∀b o,b≠I->s.heap.get? b=some o->h'.get? b=some o)->s.heap.objs.size<h'.objs.size->ItemsOf (λi v=>items[items.size-1-i]?=some v) c items.size->Q c.toList {s with heap:=h',toks:=m}):
 wpAny (model prog w) A (collect (.ref I)) Q E s:=by have h:I<s.heap.objs.size:=let⟨_,ho,_⟩:=f;lt_size ho;have n:l<s.heap.objs.size:=let⟨_,ho,_⟩:=p;lt_size ho;unfold collect;refine wpAny_bind (wpAny_runValue (codeAny_builtin F.entry_proto_collect ?_));rw[Around.under_plainId F.plain_proto_collect _];show wpAny _ A.in1 (newList []>>=λl=>again (.builtin "list.__iadd__" ⟨[l,.ref I],[]⟩)) _ _ s;refine wpAny_bind (wpAny_newObj_type ?_);refine wpAny_pure ⟨plainId_quiet F.plain_list_iadd _,codeAny_builtin F.entry_list_iadd ?_⟩;rw[Around.under_plainId F.plain_list_iadd _];show wpAny _ A.in1 (listExtendWith (.ref s.heap.objs.size) (.ref I) (.ref s.heap.objs.size)) _ _ _;refine mG (A:=A) (R:=λr q=>match r with
  |.ok (.ret v)=>wpAny (model prog w) A (match v with
   |.ref a=>do let o<-load a match o.data with|.seq xs _=>pure xs.toList|_=>unsupported "internal:collect"
   |_=>unsupported "internal:collect") Q E q|.ok _=>False|.error e=>E e q) (s:={s with heap:=s.heap.push {cls:=.type "list",data:=.seq #[]}}) u (f.at λo e=>du e) (p.at λo e=>du e) k g s.heap.objs.size (Ne.symm (ne_of_lt h)) (Ne.symm (ne_of_lt n)) _ 0 (get?_push_size _ rfl) λh' m c C y t j=>?_;refine wpAny_bind (wpAny_load t ?_);exact wpAny_pure (x h' m c (λb o B e=>y b o (ne_of_lt (lt_size e)) B (du e)) (lt_size t) j)
end
theorem jz(I l:Addr)(items:Array Value)(i:l≠I)(hsz:items.size<=2^24):Meets (Builtin.«tuple.__new__» ⟨[.type "tuple",.ref I],[]⟩) (λA R s=>A.handled=none/\s.heap.IsRevIter I l ((items.size:Int)-1)/\s.heap.IsList l items/\∀(h':Heap)(p:Nat),(∀b o,b≠I->s.heap.get? b=some o->h'.get? b=some o)->s.heap.objs.size<h'.objs.size->∀a:Array Value,a=items.reverse->R (.ok (.ret (.ref h'.objs.size))) {s with heap:=h'.push {cls:=.type "tuple",data:=.seq a},toks:=p}):=.of_wp λprog w A R s h=>by
  obtain⟨r,f,t,h⟩:=h;have q:=sub_tuple_self;have k:=init_tuple_lookup;have u:=madeHere_tuple;have x:Shared.TypeIs s (.ref I) "list_reverseiterator":=f.typeIs;obtain⟨o,ho,hc,hd⟩:=id f;obtain⟨E,g,d,p,os⟩:=s;wp_walk using AutoSeq1.wpAny_loadPart' ho,wpAny_typeOf x,uH (A:=A.in1) r f t i hsz;intro h' m a y n c;show wpAny _ _ (tupleExact a.toList.toArray>>=λv=>ret v) _ _ _;have e:a.toList.toArray=a:=by simp
  have B:a=items.reverse:=by refine Array.ext (by rw[c.1,Array.size_reverse]) λj h1 G=>?_;have:=c.2 j _ (Array.getElem?_eq_getElem h1);rw[Array.getElem_reverse];have C:=Array.getElem?_eq_some_iff.mp this;exact C.2.symm
  rw[e];unfold tupleExact;refine wpAny_bind (wpAny_newObj_type ?_ (by show a.size<=sizeLine;rw[c.1,sizeLine_eq];omega));exact wpAny_pure ⟨_,rfl,h h' m y n a B⟩
section
variable{prog:Program}{w:World}{A:Around}{E:Value->Shared->Prop}{s:Shared}
theorem n6{I l:Addr}{items:Array Value}{Q:Value->Shared->Prop}(i:A.handled=none)(a:s.heap.IsRevIter I l ((items.size:Int)-1))(j:s.heap.IsList l items)(c:l≠I)(hsz:items.size<=2^24)(h:∀(h':Heap)(f:Nat),(∀b o,b≠I->s.heap.get? b=some o->h'.get? b=some o)->s.heap.objs.size<h'.objs.size->Q (.ref h'.objs.size) {s with heap:=h'.push {cls:=.type "tuple",data:=.seq items.reverse},toks:=f}):wpAny (model prog w) A (call (.type "tuple") [.ref I]) Q E s:=callType_new F.called_tuple (by decide) (F.typeCall_tuple_1 _) (F.newCall_tuple_1 _) (λobj=>F.args_object_init_2 obj _) F.entry_tuple_new (jz I l items c hsz) ⟨i,a,j,λh' f k g m e=>by subst e;exact⟨⟨_,get?_push_size _ rfl,rfl⟩,h h' f k g⟩⟩
end
end PySem
namespace L2
open PySem PySem.Spec PyProof.Rows
section
variable{X:Cx}{pins:List (Addr×Obj)}{σ:St}{H:Hp}{s:Shared}{E:Value->Shared->Prop}
theorem yE{a:Expr}{C:TE}{p pos L g:Pos}(hc:X.calm=true)(n:Gl X "tuple")(t:X.mg "tuple"=none)(M:Gl X "reversed")(N:X.mg "reversed"=none)(O:PE X a C)(hs:starEach [a] X.env=[(false,eval a X.env)]:=by rfl)(i:starEach [.Call (.Name "reversed" p) [a] [] pos] X.env=[(false,eval (.Call (.Name "reversed" p) [a] [] pos) X.env)]:=by rfl):PE X (.Call (.Name "tuple" L) [.Call (.Name "reversed" p) [a] [] pos] [] g) (λσ H Q=>C σ H λx f=>∃ad xs,x=.ref ad/\dg X.K f ad xs/\∀l,f l=none->Q (.ref l) (upd f l (.tup xs.reverse))):=by
 intro pins s σ H Q I h;refine Call_ (jh I n t wY (PyProof.Rows.callWith_type1 ?_ i rfl));rw[i];show wpAny _ _ (spliced ((false,eval (.Call (.Name "reversed" p) [a] [] pos) X.env)::[])) _ _ _;refine Calls.spliced_cons (Call_ (jh I M N pZ (PyProof.Rows.callWith_type1 (bV ((aX O cH hs) pos pins s σ H (λvs f=>match vs with|[x]=>∃ad xs,x=.ref ad/\dg X.K f ad xs/\∀l,f l=none->Q (.ref l) (upd f l (.tup xs.reverse))|_=>False) I h) ?_) hs rfl)));rintro us s1⟨vs,f,m,r1,v⟩;obtain⟨ad,xs,U,q,w⟩:∃ad xs,dg X.K f ad xs/\(∀l,f l=none->Q (.ref l) (upd f l (.tup xs.reverse)))/\vs=[.ref ad]:=by cases vs with|nil=>cases v|cons x r=>cases r with|nil=>obtain⟨ad,xs,rfl,q,W⟩:=v;exact⟨ad,xs,q,W,rfl⟩|cons _ _=>cases v
 subst w;obtain⟨u,rfl,Y⟩:=r1.one;cases Y;obtain⟨c,G,y,hz⟩:=m.list U;have hsz:c.toArray.size=xs.length:=by rw[size_toArray,<-G.length]
 refine call_reversed_list y.isList (Calls.spliced_nil ?_);have A:ad≠s1.heap.objs.size:=ne_of_lt (let⟨_,ho,_⟩:=y.isList;lt_size ho);have B:(s1.heap.push (revObj ad ((c.toArray.size:Int)-1))).IsList ad c.toArray:=y.isList.at λo e=>du e;refine n6 (m.ok.hd hc) (I:=s1.heap.objs.size) (l:=ad) (items:=c.toArray) ⟨_,get?_push_size _ rfl,rfl,rfl⟩ B A (by rw[hsz];exact le_trans hz (by decide)) λh' Z J j=>?_;have k:(s1.heap.push (revObj ad ((c.toArray.size:Int)-1))).objs.size=s1.heap.objs.size+1:=size_push ..;dsimp only at J j ⊢;rw[k]at j;have er:c.toArray.reverse=c.reverse.toArray:=by simp
 rw[er];refine⟨.ref h'.objs.size,_,m.laid (t':=Z) (o:=.tup xs.reverse) (h':=h'.push {cls:=.type "tuple",data:=.seq c.reverse.toArray}) (λb o e=>du (J b o (ne_of_lt (lt_size e)) (du e))) (by omega) ?_,rfl,q _ (m.hok.fresh (by omega))⟩;exact⟨by rw[List.length_reverse];exact hz,_,G.reverse,IsTup.new _ _⟩
end
end L2
namespace HH
open PySem L2 PySem.Spec PyProof.Rows
section
variable{X:Cx}{c:Call}{a:Expr}{pa:P}{pos:Pos}
theorem zA{x y:Str}{j p b:Pos}(q:y="tuple")(t:x="reversed")(hc:X.calm=true)(m:Gl X y)(n:X.mg y=none)(u:Gl X x)(w:X.mg x=none)(A:SX X c a pa)(hs:starEach [a] X.env=[(false,eval a X.env)]:=by rfl)(o:starEach [.Call (.Name x j) [a] [] pos] X.env=[(false,eval (.Call (.Name x j) [a] [] pos) X.env)]:=by rfl):SX X c (.Call (.Name y p) [.Call (.Name x j) [a] [] pos] [] b) (.blt .rvT [pa]):=by subst t q;obtain⟨Y,h1,B⟩:=A.cV;refine⟨dZ (yE hc m n u w h1 hs o) ?_,λi h=>by cases h⟩;rintro σ H Q⟨F,ρ,r,C,g,e,k⟩;rw[HH.E15]at e;obtain⟨d,ρ2,E,f⟩:=aa e;have G:=aF f;clear f;obtain⟨f,I⟩:=G;subst I;cases d with|lst ds=>cases f;refine B g E ?_;rintro v Z H' s J;obtain⟨ad,xs,rfl,L,M⟩:=J.lst s.gs.sub;exact⟨ad,xs,rfl,L,λl N=>yI s.gs.sub (aA.rev M) N λv F2 O U W=>k v F2 O (s.trans (U.stp s.gs)) (.later s (W.pB s.gs))⟩|_=>cases f
end
end HH
end
section
namespace L2
open PySem PySem.Spec PyProof.Rows PySem.Calls
section
variable{X:Cx}
theorem FZ:W9 X (V6 X.K):=by
 intro a s σ H x y v u Q I g k h;obtain⟨p,xs,i,z,rfl,rfl,l,he,q⟩:=h;cases g;obtain⟨t,rfl⟩:=k;obtain⟨b,r,e,hz⟩:=I.list l;obtain⟨j,h1,m,C,n,o⟩:=t8 he;obtain⟨w,f,A⟩:=r.get m;have B:=r.length;have E:=qj;have fin:EP X a σ Q w s:=⟨z,H,I,A,q⟩;by_cases h0:0<=i
 . have c:i.toNat=j:=by rw[seqIndex_of h0 o]at h1;exact Option.some.inj h1
   exact wpAny_getItem_list e.isList h0 (by omega) (by rw[c];simpa using f) fin
 . have c:(i+(b.toArray.size:Int)).toNat=j:=by rw[seqIndex_neg (by omega) n]at h1;rw[size_toArray,<-B];exact Option.some.inj h1
   exact wpAny_getItem_list_neg e.isList (by omega) (by rw[size_toArray]<;>omega) (by omega) (by rw[c];simpa using f) fin
end
end L2
namespace HH
open PySem L2 PySem.Spec PyProof.Rows PySem.Calls PySem.W
section
variable{X:Cx}{c:Call}{n:Nat}{a b e:Expr}{pa pb p:P}{pos:Pos}
set_option maxHeartbeats 800000 in
theorem tX{k e:Int}{t1 t2 p1 p2 p3}:SX X c (.Dict [some (.Constant (.int k) t1 p1)] [.Constant (.int e) t2 p2] p3) (.xG k e):=by
 refine⟨?_,λi h=>by cases h⟩;intro f s σ H Q I h;obtain⟨F,ρ,r,x,g,m,y⟩:=h;rw[HH.E25]at m;cases m;have A:nC [] [((Sum.inl k:Key),V.int e)]=ent [k] [.int e]:=rfl;have B:=Ke (X:=X) (pos:=p3) (Ep (o6 (i:=k) (j:=t1) (pos:=p1)) (o6 (i:=e) (j:=t2) (pos:=p2)) JK) rfl rfl (by simp) (by simp);refine bV (B f s σ H (λv C=>∃q,v=.ref q/\H q=none/\C=upd H q (Ai [k] [.int e])) I ?_) λu s1⟨v,H1,I1,r1,q,e1,hn,e2⟩=>?_;.intro q E;refine⟨aD,[(Sum.inl k,.int e)],rfl,by simp,q,rfl,E,?_⟩;rw[Aq,A];rfl
 subst e1 e2;obtain⟨o,t⟩:=Inv.Gb I1 (a:=q) (kvs:=ent [k] [.int e]) aD;rw[Aq]at t;have G:F q=none:=by cases z:F q with|none=>rfl|some o=>rw[g.sub q o z]at hn;cases hn
 have J:aC F (upd F q (.cG o (Ai [k] [.int e]))):=aC.bF G;refine⟨.ref q,_,t,r1,y _ (upd F q (.cG o (Ai [k] [.int e]))) _ (Ext.stp g ⟨aC.bF hn,J,λb o e=>?_,λb n w=>?_⟩) ?_⟩
 . by_cases l:b=q;.subst l;rw[aD]at e ⊢;exact e
   .rw[ao l]at e ⊢;exact g.sub b o e
 . by_cases l:b=q;.subst l;exact gB hn
   .rw[ao l]at w;exact absurd n w
 .show Rep X.K _ _ (.dv [k] [.int e]);rw[Rep];exact⟨q,o,[.int e],rfl,aD,.cons (bW _) .nil,rfl⟩
theorem JX{x:Str}{k:Nat}{px o:Pos}{op:Operator}{sub:Bool}(ho:Z3 X op (ipI λi j=>if sub then i-j else i+j))(hN:X.N[k]?=some x)(hv:xK X.env.scope x)(hi:SX X c b pb)(he:SX X c e p)(ha:∀A iv f,augStore b A iv f=(do holding [f,A,iv] (setItem A iv f);release [f,A,iv] [];pure .next):=by intros;rfl)(hd:(x==("__debug__":Str))=false:=by decide)(E:(x==("__classdict__":Str))=false:=by decide):SS X c n (.AugAssign (.Subscript (.Name x px) b o) op e pos) (.Jd k pb sub p):=by
 obtain⟨ti,G,I⟩:=hi.cV;obtain⟨te,J,L⟩:=he.cV;refine fW (K6 (eV hN hv hd E) G FZ J ho set_list ha) ?_;rintro D σ H⟨F,ρ,fl,ac,g,e,kk⟩;rw[HH.X15]at e;obtain⟨x0,ae,r,Y⟩:=aa e;clear e;obtain⟨e0,Jg⟩:=aF r;clear r;subst Jg;obtain⟨dk,ρ1,e1,Z⟩:=aa Y;clear Y;obtain⟨l,ρ2,h,eC⟩:=aa Z;clear Z;obtain⟨B,M⟩:=aF h;clear h;subst M;obtain⟨ra,af,s,eD⟩:=aa eC;clear eC;obtain⟨e3,O⟩:=aF s;clear s;subst O;obtain⟨db,ag,e4,t⟩:=aa eD;clear eD;obtain⟨Q,NQ,m,_⟩:=Bh g e0;refine⟨.ref Q,m,I g e1 λvi F1 H1 s1 pi=>?_⟩;split at t
 . rename_i u v bb ds kz q;split at t
   . rename_i j hj;cases t;obtain⟨C,f3,f5⟩:=bZ e3;have U:C=kz:=by cases f3;rfl
     subst U;have h:pk ρ1 k=some (.lst l):=by
      unfold Ef at B;split at B;.rename_i z;cases B;exact z
      .cases B
     obtain⟨o',y,po⟩:=s1.gs.pk h;rw[m]at y;cases y;obtain⟨ad,xs,hr,hL,rs⟩:=po.lst s1.gs.sub;cases hr;obtain⟨j0,h1,h2⟩:=Gf f5;obtain⟨w,h3,h4⟩:=rs.get h2;have W:GR xs C=some w:=by unfold GR;rw[rs.length,h1];exact h3
     have hw:w=.int u:=by rw[Rep]at h4;exact h4
     subst hw;refine⟨Q,xs,C,.int u,rfl,pi.int,hL,W,L s1.gs e4 λvb F2 H2 s2 pb=>⟨u,v,rfl,pb.int,?_⟩⟩;obtain⟨ah,zs,z1,z2,z3,z4⟩:=s2.gs.rC k _ ds q rfl;rw[m]at z1;cases z1;refine⟨Q,zs,C,j,rfl,pi.int,z2,by rw[z4.length];exact hj,?_⟩;exact kk F2 σ _ ((s1.trans s2).trans (s2.gs.mut q m (z4.set (bW _) j)))
   .cases t
 .cases t
end
section
variable{X:Cx}{c:Call}{n:Nat}{a b e:Expr}{pa pb p:P}{pos:Pos}
theorem Mm{neg:Bool}{o:Op}{op:CmpOp}(h:(op=.In/\neg=false)\/(op=.NotIn/\neg=true))(j:rA o=vO neg)(l:X.A.units+8<cLine)(m:SX X c a pa)(y:SX X c b pb)(B:behindInMarks op b=false):ST X c (.Compare a [op] [b] pos) (.bin o pa pb):=by obtain⟨C,E,h1,G,I⟩:=m.jD y;refine wW (Bq (KQ h l) h1 G B) λσ H Q q=>mV (t:=nQ (rD X.K (vO neg)) C E) (λQ z=>?_) q;obtain⟨F,ρ,r,J,g,e,k⟩:=z;rw[HH.E3]at e;obtain⟨i,ρ1,L,f⟩:=aa e;have M:=aF f;clear f;obtain⟨f,N⟩:=M;subst N;rw[j]at f;refine I g L λv u O H' s U W=>⟨O,i.1,i.2,r,s.gs.sub,U,W,f,λw F2 Y x Z=>?_⟩;exact k w F2 Y (s.trans (x.stp s.gs)) (.later s (Z.pB s.gs))
theorem PJ(f:X.A.units+8<cLine)(g:SX X c a pa)(h:SX X c b pb)(i:behindInMarks .In b=false):ST X c (.Compare a [.In] [b] pos) (.bin .din pa pb):=Mm (.inl ⟨rfl,rfl⟩) rfl f g h i
theorem R4{i:Nat}{x:Str}{h:Pos}{pk:P}{neg:Bool}{op:CmpOp}(f:(op=.In/\neg=false)\/(op=.NotIn/\neg=true))(j:X.A.units+8<cLine)(k:X.N[i]?=some x)(l:xK X.env.scope x)(m:SX X c a pk)(o:behindInMarks op (.Name x h)=false)(hd:(x==("__debug__":Str))=false:=by decide)(g:(x==("__classdict__":Str))=false:=by decide):ST X c (.Compare a [op] [.Name x h] pos) (.OJ i pk neg):=wW (QQ (Pk f j k l m hd g) o) λσ H Q q=>mV (λ_ z=>z) q
end
end HH
end
section
namespace L2
open PySem PySem.Spec PyProof.Rows
end L2
namespace HH
open PySem L2 PySem.Spec PyProof.Rows
noncomputable def Z1(o:Obj):Bool:=match o.cls with|.type n=>n=="list"|_=>false
def Nu(K:PySem.W.Frag):Prop:=(K.filter λp=>Z1 p.2).map (·.1)=[]
theorem mem_lookup{f g:Type}[BEq f][LawfulBEq f]{a:f}{b:g}:∀{l:List (f×g)},l.lookup a=some b->(a,b)∈l
 |[],h=>by cases h|(c,d)::l,h=>by
   rw[lookup_cons]at h;split at h;.rename_i e;have:=eq_of_beq e;cases h;subst this;simp
   .exact mem_cons_of_mem _ (mem_lookup h)
theorem Nu.no{K:PySem.W.Frag}(h:Nu K){a:Addr}{o:Obj}(e:K.lookup a=some o)(c:o.cls=.type "list"):False:=by have b:a∈(K.filter λp=>Z1 p.2).map (·.1):=mem_map.mpr ⟨(a,o),List.mem_filter.mpr ⟨mem_lookup e,by unfold Z1;rw[c];rfl⟩,rfl⟩;rw[show(K.filter λp=>Z1 p.2).map (·.1)=[]from h]at b;cases b
noncomputable def Zn:Option HO->Option HO|some (.lst _)=>none|some (.cG _ (.lst _))=>none|o=>o
noncomputable def lf(F:Hp):Hp:=λb=>Zn (F b)
section
variable{K:PySem.W.Frag}{F F1 H H1:Hp}
theorem vB{o:Option HO}{u:HO}(h:Zn o=some u):o=some u/\(∀xs,u≠.lst xs)/\∀a xs,u≠.cG a (.lst xs):=by
 unfold Zn at h;split at h;.cases h
 .cases h
 .rename_i h1 b;subst h;exact⟨rfl,λxs z=>h1 xs (by rw[z]),λa xs z=>b a xs (by rw[z])⟩
theorem yP:aC (lf F) F:=λb o e=>(vB e).1
theorem Bj{b:Addr}(h:F b=none):lf F b=none:=by unfold lf;rw[h];rfl
theorem Qv{b:Addr}{xs:List V}(h:Rd F b (.tup xs)):Rd (lf F) b (.tup xs):=by
 rcases h with h|⟨o,h⟩;.exact .inl (by unfold lf;rw[h];rfl)
 .exact .inr ⟨o,by unfold lf;rw[h];rfl⟩
theorem aA.of{a:Hp}:∀{ds:List D}{vs:List V},(∀d∈ds,∀v,Rep K F v d->Rep K a v d)->aA K F vs ds->aA K a vs ds|[],_,_,h=>by rw[h.dO];exact .nil|d::ds,_,k,h=>by obtain⟨v,r,rfl,h1,b⟩:=h.bN;exact .cons (k d (by simp) v h1) (aA.of (λd' hd=>k d' (by simp[hd])) b)
theorem Rep.lf:∀(k:Nat){d:D}{v:V},HR k d=true->Rep K F v d->Rep K (lf F) v d:=by intro k;induction k with
 |zero=>intro d v h r;cases d<;>first|(rw[Rep]at r ⊢;exact r)|(cases h;done)
 |succ k b=>
   intro d v h r
   cases d with|tup ds=>
     rw[Rep]at r ⊢;obtain⟨a,xs,rfl,h1,c⟩:=r;have h':ds.all (HR k)=true:=h;refine⟨a,xs,rfl,?_,aA.of (λd hd v=>b (all_eq_true.mp h' d hd)) c⟩;rcases h1 with h1|h1;.exact .inl (Qv h1)
     .exact .inr h1|non=>rw[Rep]at r ⊢;exact r|bl _=>rw[Rep]at r ⊢;exact r|int _=>rw[Rep]at r ⊢;exact r|str _=>rw[Rep]at r ⊢;exact r|lst _=>cases h|cX _=>cases h|dv _ _=>cases h
theorem aA.ints{a:Hp}{ds:List D}{vs:List V}(h:ds.all cR=true)(r:aA K F vs ds):aA K a vs ds:=aA.of (λd hd v r=>by have:=all_eq_true.mp h d hd;cases d<;>first|(cases this;done)|(rw[Rep]at r ⊢;exact r)) r
theorem jd{ds:List D}{σ:L2.St}{b:Addr}:¬ Own (ds.map (Sl.val false)) σ b:=λ⟨i,⟨s,o,e,a⟩,_⟩=>by obtain⟨d,_,rfl⟩:=mem_map.mp (mem_of_getElem? e);cases a
theorem Hw{i:Hp}{Jk:List D}{j l:L2.St}{c:List Sl}{v:V}{z:Int}{ds es:List D}(w:Nu K)(s:az K (lf i) (Jk.map (Sl.val false)) j H F1 c l H1)(h:Rep K F1 v (.tup [.int z,.lst ds,.tup es])):∃t a ys m,v=.ref t/\dN K F1 t [.int z,.ref a,m]/\Rd F1 a (.lst ys)/\H a=none/\aA K F1 ys ds/\Rep K F1 m (.tup es):=by
 rw[Rep]at h;obtain⟨t,xs,rfl,h1,e⟩:=h;obtain⟨x,r,rfl,f,e⟩:=e.bN;obtain⟨A,r,rfl,p,e⟩:=e.bN;obtain⟨B,r,rfl,C,e⟩:=e.bN;rw[e.dO]at h1;have f:x=.int z:=by rw[Rep]at f;exact f
 subst f;obtain⟨a,ys,rfl,b,E⟩:∃a ys,A=.ref a/\dg K F1 a ys/\aA K F1 ys ds:=by rw[Rep]at p;exact p
 refine⟨t,a,ys,B,rfl,h1,?_⟩;rcases b with b|⟨o,G,n,I,J,_⟩
 . refine⟨b,?_,E,C⟩;have L:F1 a≠none:=by rcases b with b|⟨o,b⟩<;>rw[b]<;>simp
   have M:lf i a=none:=by cases q:lf i a with|none=>rfl|some u=>
      have g:=s.cu a u q;obtain⟨_,N,O⟩:=vB q;rcases b with b|⟨o,b⟩;.rw[b]at g;cases g;exact absurd rfl (N ys)
      .rw[b]at g;cases g;exact absurd rfl (O o ys)
   rcases s.uV a M L with y|y;.exact absurd y jd
   .cases q:H a with|none=>rfl|some u=>
       rw[q]at y;have k:=s.keep a u q jd
       cases u with|tup xs=>
         rcases b with b|⟨o,b⟩;.rw[s.gs.sub a _ b]at k;cases k
         .rw[s.gs.sub a _ b]at k;cases k|_=>cases y
 .exact(w.no I J).elim
noncomputable def uni(F F1:Hp):Hp:=λb=>match F b with|some o=>some o|none=>lf F1 b
theorem uN:aC F (uni F F1):=λb o e=>by unfold uni;rw[e]
theorem QG(h:aC F H1)(h1:aC F1 H1):aC (lf F1) (uni F F1):=λb o e=>by unfold uni;cases q:F b with|none=>exact e|some u=>have:=h b u q;rw[h1 b o (yP b o e)]at this;cases this;rfl
theorem Ff{ρ:List Sl}{σ k l:L2.St}{Jk:List D}{c:List Sl}(g:GS K F ρ σ H)(s:az K (lf F) (Jk.map (Sl.val false)) k H F1 c l H1):az K F ρ σ H (uni F F1) ρ σ H1:=by
 have kp:∀b o,H b=some o->H1 b=some o:=λb o e=>s.keep b o e jd;have m:aC F H1:=λb o e=>kp b o (g.sub b o e);have gr:∀b,F b=none->uni F F1 b≠none->nt (H b)=none:=λb n f=>by
  have w:lf F1 b≠none:=by unfold uni at f;rw[n]at f;exact f
  have h1:F1 b≠none:=λz=>w (Bj z);rcases s.uV b (Bj n) h1 with y|y;.exact absurd y jd
  .exact y
 refine⟨⟨λb o e=>?_,g.len,λi b d e=>?_,λi t ds e x=>?_,g.dis⟩,uN,λb n f=>.inr (gr b n f),λb o e _=>kp b o e,λ_ h=>.inl h,rfl,λi t h _=>⟨rfl,t,h,.refl t⟩⟩
 . unfold uni at e;split at e;.rename_i u q;cases e;exact m b _ q
   .exact s.gs.sub b o (yP b o e)
 .obtain⟨v,p,j⟩:=g.val i b d e;exact⟨v,p,j.mono uN⟩
 .obtain⟨a,xs,p,j,A,r⟩:=g.own i t ds e x;refine⟨a,xs,p,kp _ _ j,?_,r.mono uN⟩;cases q:uni F F1 a with|none=>rfl|some o=>have:=gr a A (by rw[q];simp);rw[j]at this;exact(yo r this).elim
theorem tE{k F4 f:Hp}{ρ:List Sl}{σ g j:L2.St}{l:Hp}{Jk:List D}{c:List Sl}(t:az K k ρ σ l F ρ σ H)(s:az K F1 (Jk.map (Sl.val false)) g H F4 c j f):az K k ρ σ l F ρ σ f:=by have kp:∀b o,H b=some o->f b=some o:=λb o e=>s.keep b o e jd;refine t.trans ⟨⟨λb o e=>kp b o (t.gs.sub b o e),t.gs.len,t.gs.val,λi u ds e m=>?_,t.gs.dis⟩,.refl _,λb n p=>absurd n p,λb o e _=>kp b o e,λ_ h=>.inl h,rfl,λi u h _=>⟨rfl,u,h,.refl u⟩⟩;obtain⟨a,xs,q,r,v,w⟩:=t.gs.own i u ds e m;exact⟨a,xs,q,kp _ _ r,v,w⟩
end
end HH
namespace L2
open PySem PySem.Spec PyProof.Rows
theorem Inv.acy{X:Cx}{f:List (Addr×Obj)}{σ:St}{H:Hp}{s:Shared}{a:Addr}{o:Obj}{ys:List V}(I:Inv X f σ H s)(e:H a=some (.cG o (.lst ys)))(h0:∀o u,X.H₀ a≠some (.cG o u)):Inv X f σ (upd H a (.lst ys)) s:=by
 have ne:∀{b:Addr}{u:HO},H b=some u->(∀m r,u≠.cG m r)->b≠a:=λ{b u}h k z=>by rw[z,e]at h;cases h;exact k _ _ rfl
 have nn:∀{b:Addr},H b=none->b≠a:=λ{b}h z=>by rw[z,e]at h;cases h
 refine⟨I.ok,I.os,I.bare,⟨I.base.keep,I.base.slot,λb i h n t=>?_,I.base.there,λb xs h=>?_,λb i u h=>?_,λb ps h=>?_⟩,I.loc,I.cell,?_,λx c hc=>?_,λp w=>?_,λb u h=>?_,I.len⟩;.have:=I.base.free b i h n t;rw[ao (nn this)];exact this
 .have:=I.base.tups b xs h;rw[ao (ne this (by intro _ _ z;cases z))];exact this
 . have:=I.base.qR b i u h;have g:b≠a:=by rintro rfl;exact h0 _ _ h
   rw[ao g];exact this
 .obtain⟨more,j⟩:=I.base.uU b ps h;exact⟨more,by rw[ao (ne j (by intro _ _ z;cases z))];exact j⟩
 .rw[ao (nn I.free)];exact I.free
 .rw[ao (nn (I.ik x c hc))];exact I.ik x c hc
 .obtain⟨y,l,A⟩:=I.pin p w;exact⟨y,by rw[ao (nn l)];exact l,A⟩
 . by_cases g:b=a;.subst g;rw[aD]at h;cases h;obtain⟨_,q⟩:=I.hok b _ e;exact q
   .rw[ao g]at h;exact(I.hok b u h).stay (λc v _ q=>q) (λc q=>by rw[ao (ne q (by intro _ _ z;cases z))];exact q) λc xs q=>by rw[ao (ne q (by intro _ _ z;cases z))];exact q
theorem Km{X:Cx}{st:Stmt}{t:TS}(h:PS X st t):PS X st (λD σ H=>t D σ H\/∃a o ys,H a=some (.cG o (.lst ys))/\(∀o u,X.H₀ a≠some (.cG o u))/\t D σ (upd H a (.lst ys))):=λb s σ H D I q=>q.elim (h b s σ H D I) λ⟨a,o,ys,e,h0,q⟩=>h b s σ _ D (I.acy e h0) q
end L2
end
section
namespace HH
open PySem L2 PySem.Spec PyProof.Rows
variable{H:Hp}
def FW(K:PySem.W.Frag):List V->Hp->VK->Prop:=λxs H Q=>∃p ys,xs=[.ref p]/\(dg K H p ys\/dN K H p ys)/\∀l,H l=none->Q (.ref l) (upd H l (.lst ys))
theorem zQ{K:PySem.W.Frag}{F:Hp}{ds:List D}{vs:List V}(sub:aC F H)(r:aA K F vs ds):GS K F (ds.map (Sl.val false)) (vs.map some) H:=by
 refine⟨sub,by simp[r.length],λi b d e=>?_,λi s o e f=>?_,λi j b h _=>(jd ⟨i,h⟩).elim⟩;.rw[getElem?_map]at e;obtain⟨d',c,a⟩:=map_some e;cases a;obtain⟨v,h1,g⟩:=r.get c;exact⟨v,by rw[getElem?_map,h1];rfl,g⟩
 .rw[getElem?_map]at e;obtain⟨d',c,a⟩:=map_some e;subst a;cases f
theorem Rd.same{F:Hp}{a:Addr}{u:HO}(s:aC F H)(h:Rd F a u):Rd H a u:=by
 rcases h with h|⟨o,h⟩;.exact .inl (s _ _ h)
 .exact .inr ⟨o,s _ _ h⟩
theorem dN.upd{K:PySem.W.Frag}{H:Hp}{a t:Addr}{xs ys:List V}{o:HO}(h:dN K H t xs)(b:H a=some (.lst ys)):dN K (upd H a o) t xs:=by
 rcases h with(h|⟨c,h⟩)|h
 . have:t≠a:=by rintro rfl;rw[b]at h;cases h
   exact .inl (.inl (by rw[ao this];exact h))
 . have:t≠a:=by rintro rfl;rw[b]at h;cases h
   exact .inl (.inr ⟨c,by rw[ao this];exact h⟩)
 .exact .inr h
theorem dN.abJ{K:PySem.W.Frag}{a t:Addr}{xs ys:List V}{o:HO}{b:Obj}(h:dN K H t xs)(c:H a=some (.cG b (.lst ys))):dN K (L2.upd H a o) t xs:=by
 rcases h with(h|⟨b,h⟩)|h
 . have:t≠a:=by rintro rfl;rw[c]at h;cases h
   exact .inl (.inl (by rw[ao this];exact h))
 . have:t≠a:=by rintro rfl;rw[c]at h;cases h
   exact .inl (.inr ⟨b,by rw[ao this];exact h⟩)
 .exact .inr h
section
variable{X:Cx}{c:Call}{st1 st2 st3 XS MJ:Stmt}{rest:List Stmt}{u:TS}{x y f g a n1 n2:Nat}
theorem Mu(nl:Nu X.K)(aw:n1=1)(ax:n2=2)(p1:PS X st1 (xu (vM (De X.K n1 (c f)) [] E0 (cI (dD a) jY)) (fj x)))(p2:PS X st2 (RL (Qy (tB (vM (De X.K n2 (c g)) [] E0 (cI (dD a) (cI (dD x) jY))))) (Qe (tC (.bl false))) G6))(p3:PS X st3 (xu (Lq (cI (nQ (gV X.K) (dD x) (tC (.int 0))) (cI (Q0 (FW X.K) (cI (nQ (gV X.K) (dD x) (tC (.int 1))) jY)) (cI (nQ (gV X.K) (dD x) (tC (.int 2))) jY)))) (fj y)))(p4:PS X XS (kE (T4 X.K "list" jP (nQ (gV X.K) (dD x) (tC (.int 1))) (cI (tC (.int 7)) jY))))(p5:PS X MJ (kE (Gj X.K "list" jy (nQ (gV X.K) (dD x) (tC (.int 1))))))(ay:x≠y)(O:sH X rest u):sH X (st1::st2::st3::XS::MJ::rest) (λD σ H=>∃F ρ fl J,GS X.K F ρ σ H/\tY c x y f g a ρ=.ok fl J/\∀F' Q H',az X.K F ρ σ H F' J Q H'->match fl with|.next=>u D Q H'|.ret r=>∀v,cz X.K F' J Q H' ρ σ H v r->D.rt v H'|_=>False):=by
 subst aw;subst ax;rintro ac s σ H D I⟨F,ρ,fl,J,G,e,k⟩;have XX:∀b,H b=none->∀o u,X.H₀ b≠some (.cG o u):=λb hb o u z=>by rw[I.base.qR b o u z]at hb;cases hb
 refine dM p1 (dM p2 (dM p3 (dM (Km p4) (dM p5 O)))) ac s σ H D I ?_;unfold tY at e;split at e
 . rename_i b d ha;split at e
   . rename_i hc;obtain⟨ρ1,bp,e1,e⟩:=aa e;have zz:=aF e1;clear e1;obtain⟨e1,aE⟩:=zz;subst aE;split at e
     . rename_i z ds es bq aI;split at e
       . rename_i U;obtain⟨v0,ae,af⟩:=G.val a b d ha;obtain⟨sx,W,ag,rfl⟩:=yV e1;have aS:x<σ.length:=by rw[<-G.len];exact(dU W).1
         have aT:GS X.K (lf F) ([d].map (Sl.val false)) ([v0].map some) H:=zQ (yP.trans G.sub) (.cons (Rep.lf 3 hc.1 af) .nil);refine⟨v0,ae,rfl,lf F,[.val false d],_,_,aT,aI,λv F1 br H1 s1 rr=>?_⟩;have rr:Rep X.K F1 v (.tup [.int z,.lst ds,.tup es]):=rr;obtain⟨t,j,ys,B,rfl,ht,ah,h,ai,a8⟩:=Hw (Jk:=[d]) nl s1 rr;have Yb:=Ff (Jk:=[d]) G s1;have sv:(σ.set x (some (.ref t)))[a]?=some (some v0):=by rw[getElem?_set_ne (Ne.symm hc.2)];exact ae
         have sx:(σ.set x (some (.ref t)))[x]?=some (some (.ref t)):=getElem?_set_self aS;have a9:GS X.K F1 ([d,.tup [.int z,.lst ds,.tup es]].map (Sl.val false)) ([v0,.ref t].map some) H1:=zQ s1.gs.sub (.cons ((Rep.lf 3 hc.1 af).mono s1.cu) (.cons rr .nil));suffices main:∃(bb:Bool)(A:List Sl),c g [.val false d,.val false (.tup [.int z,.lst ds,.tup es])]=.ok (.val (.bl bb)) A/\(∀F4 C m,az X.K F1 ([d,.tup [.int z,.lst ds,.tup es]].map (Sl.val false)) ([v0,.ref t].map some) H1 F4 A C m->if(!bb)=true then D.rt (.bl false) m else Hb (xu (Lq (cI (nQ (gV X.K) (dD x) (tC (.int 0))) (cI (Q0 (FW X.K) (cI (nQ (gV X.K) (dD x) (tC (.int 1))) jY)) (cI (nQ (gV X.K) (dD x) (tC (.int 2))) jY)))) (fj y)) (Hb (λD σ H=>kE (T4 X.K "list" jP (nQ (gV X.K) (dD x) (tC (.int 1))) (cI (tC (.int 7)) jY)) D σ H\/∃a o ys,H a=some (.cG o (.lst ys))/\(∀o u,X.H₀ a≠some (.cG o u))/\kE (T4 X.K "list" jP (nQ (gV X.K) (dD x) (tC (.int 1))) (cI (tC (.int 7)) jY)) D σ (upd H a (.lst ys))) (Hb (kE (Gj X.K "list" jy (nQ (gV X.K) (dD x) (tC (.int 1))))) u)) D (σ.set x (some (.ref t))) m)by obtain⟨bb,A,E,go⟩:=main;refine⟨v0,sv,.ref t,sx,rfl,F1,[.val false d,.val false (.tup [.int z,.lst ds,.tup es])],_,_,a9,E,λw F4 C m s4 L=>?_⟩;have L:Rep X.K F4 w (.bl bb):=L;rw[Rep]at L;subst L;refine⟨bb,rfl,?_⟩;have:=go F4 C m s4;cases bb with|true=>exact this|false=>exact this
         split at e
         . rename_i A E;refine⟨true,A,E,λF4 C m s4=>?_⟩;rw[if_neg (by simp)];obtain⟨ρ2,bt,e2,e⟩:=aa e;have zz:=aF e2;clear e2;obtain⟨e2,ba⟩:=zz;subst ba;cases e;have Ea:=tE (Jk:=[d,.tup [.int z,.lst ds,.tup es]]) Yb s4;have kp:∀b o,H1 b=some o->m b=some o:=λb o q=>s4.keep b o q (jd (ds:=[d,.tup [.int z,.lst ds,.tup es]]));have sm:aC F1 m:=λb o q=>kp b o (s1.gs.sub b o q);have Ti:Rd m j (.lst ys):=Rd.same sm ah;have qY:dN X.K m t [.int z,.ref j,B]:=aC.eZ sm ht;have am:m j≠none:=by rcases Ti with q|⟨o,q⟩<;>rw[q]<;>simp
           have bo:ys.length<1000:=by rw[ai.length];exact U.2.2
           have bi:F j=none:=by cases q:F j with|none=>rfl|some o=>rw[G.sub j o q]at h;cases h
           have bm:uni F F1 j=none:=by unfold uni;rw[bi];show Zn (F1 j)=none;rcases ah with q|⟨o,q⟩<;>rw[q]<;>rfl
           have Tj:¬ Own ρ σ j:=λ⟨i,⟨sl,oc,q1,q2⟩,q3⟩=>by obtain⟨b',o',w1,w2,_⟩:=G.own i sl oc q1 q2;rw[q3]at w1;cases w1;rw[h]at w2;cases w2
           have ap:∀o,((σ.set x (some (.ref t))).set y o)[x]?=some (some (.ref t)):=λo=>by rw[fZ ay];exact sx
           have bn:Rep X.K (uni F F1) B (.tup es):=(Rep.lf 1 (d:=.tup es) (by show es.all (HR 0)=true;refine all_eq_true.mpr λq hq=>?_;have:=all_eq_true.mp U.2.1 q hq;cases q<;>first|rfl|(cases this;done)) a8).mono (QG (λb o q=>s1.keep b o (G.sub b o q) (jd (ds:=[d]))) s1.gs.sub);refine⟨.ref t,sx,t,_,0,_,rfl,rfl,qY,rfl,.ref t,sx,t,_,1,_,rfl,rfl,qY,rfl,j,ys,rfl,.inl (.inl Ti),λl hl=>?_⟩;have Y:aC m (upd m l (.lst ys)):=aC.bF hl;refine⟨.ref t,sx,t,_,2,_,rfl,rfl,aC.eZ Y qY,rfl,(by decide:3<=sizeLine),λp hp=>?_⟩;have hpl:p≠l:=by rintro rfl;rw[aD]at hp;cases hp
           have Z:m p=none:=by rw[ao hpl]at hp;exact hp
           have u2:∀b,m b=none->uni F F1 b=none:=λb q=>by cases w:uni F F1 b with|none=>rfl|some o=>rw[Ea.gs.sub b o w]at q;cases q
           have N:j≠l:=by rintro rfl;exact am hl
           have Yc:j≠p:=by rintro rfl;exact am Z
           have ar:aC (uni F F1) (upd (upd (uni F F1) l (.lst ys)) p (.tup [.int z,.ref l,B])):=(aC.bF (u2 l hl)).trans (aC.bF (by rw[ao hpl];exact u2 p Z));have ext:Ext (uni F F1) m (upd (upd (uni F F1) l (.lst ys)) p (.tup [.int z,.ref l,B])) (upd (upd m l (.lst ys)) p (.tup [.int z,.ref l,B])):=by
            refine⟨Y.trans (aC.bF hp),ar,λb o q=>?_,λb n n'=>?_⟩
            . by_cases c1:b=p;.subst c1;rw[aD]at q ⊢;exact q
              . rw[ao c1]at q ⊢;by_cases c2:b=l;.subst c2;rw[aD]at q ⊢;exact q
                .rw[ao c2]at q ⊢;exact Ea.gs.sub b o q
            . by_cases c1:b=p;.subst c1;exact gB Z
              . rw[ao c1]at n';by_cases c2:b=l;.subst c2;exact gB hl
                .rw[ao c2]at n';exact absurd n n'
           have M3:=Ea.trans (ext.stp Ea.gs);have rk:Rep X.K (upd (upd (uni F F1) l (.lst ys)) p (.tup [.int z,.ref l,B])) (.ref p) (.tup [.int z,.lst ds,.tup es]):=by rw[Rep];refine⟨p,_,rfl,dN.of aD,.cons (by rw[Rep]) (.cons ?_ (.cons (bn.mono ar) .nil))⟩;rw[Rep];exact⟨l,ys,rfl,dg.of (by rw[ao (Ne.symm hpl),aD]),ai.ints U.1⟩
           have f3:upd (upd (uni F F1) l (.lst ys)) p (.tup [.int z,.ref l,B]) j=none:=by rw[ao Yc,ao N];exact bm
           have av:dN X.K (upd (upd m l (.lst ys)) p (.tup [.int z,.ref l,B])) t [.int z,.ref j,B]:=aC.eZ (Y.trans (aC.bF hp)) qY;have h4:upd (upd m l (.lst ys)) p (.tup [.int z,.ref l,B]) j=m j:=by rw[ao Yc,ao N]
           generalize upd (upd m l (.lst ys)) p (.tup [.int z,.ref l,B])=H4 at*;generalize upd (upd (uni F F1) l (.lst ys)) p (.tup [.int z,.ref l,B])=F3 at*;have fin:∀M,az X.K F ρ σ H F3 ρ σ M->u D ((σ.set x (some (.ref t))).set y (some (.ref p))) M:=λM q=>k _ _ _ ((q.tG (x:=x) (s:=.aP) (o:=some (.ref t)) rfl (λs0 q=>by rw[W]at q;cases q;exact ag)).put (v:=.ref p) (r:=.val (.tup [.int z,.lst ds,.tup es])) rk e2);have go:∀M,M j=some (.lst ys)->az X.K F ρ σ H F3 ρ σ M->dN X.K M t [.int z,.ref j,B]->kE (T4 X.K "list" jP (nQ (gV X.K) (dD x) (tC (.int 1))) (cI (tC (.int 7)) jY)) {D with nx:=Hb (kE (Gj X.K "list" jy (nQ (gV X.K) (dD x) (tC (.int 1))))) u D} ((σ.set x (some (.ref t))).set y (some (.ref p))) M:=λM q1 q2 q3=>by refine⟨.ref t,ap _,t,_,1,_,rfl,rfl,q3,rfl,.inl ⟨rfl,ys,dg.of q1⟩,j,ys,.int 7,rfl,rfl,q1,(by have:sizeLine=16777216:=rfl;omega),?_⟩;refine⟨.ref t,ap _,t,_,1,_,rfl,rfl,(HH.dN.upd q3 q1),rfl,.inl ⟨rfl,_,dg.of aD⟩,j,_,rfl,rfl,aD,?_⟩;exact fin _ ((q2.wN h f3 Tj).wN h f3 Tj)
           rcases Ti with q|⟨o,q⟩;.exact .inl (go H4 (by rw[h4];exact q) M3 av)
           .exact .inr ⟨j,o,ys,by rw[h4];exact q,XX j h,go _ aD (M3.wN h f3 Tj) (HH.dN.abJ av (by rw[h4];exact q))⟩
         .rename_i A E;refine⟨false,A,E,λF4 C m s4=>?_⟩;rw[if_pos (by simp)];cases e;have Ea:=tE (Jk:=[d,.tup [.int z,.lst ds,.tup es]]) Yb s4;have M3:=Ea.tG (x:=x) (s:=.aP) (o:=some (.ref t)) rfl (λs0 q=>by rw[W]at q;cases q;exact ag);exact k _ _ _ M3 (.bl false) (show Rep X.K _ _ _ from fc _)
         .cases e
       .cases e
     .cases e
   .cases e
 .cases e
end
theorem Lz{c:Call}{x y f g a:Nat}{ρ b:List Sl}{fl:Fl}(e:tY c x y f g a ρ=.ok fl b):fl=.next\/∃r,fl=.ret r:=by
 unfold tY at e;split at e
 . split at e
   . obtain⟨ρ1,h,j,e⟩:=aa e;split at e
     . split at e
       . split at e;.obtain⟨ρ2,i,k,e⟩:=aa e;cases e;exact .inl rfl
         .cases e;exact .inr ⟨_,rfl⟩
         .cases e
       .cases e
     .cases e
   .cases e
 .cases e
section
variable{X:Cx}{c:Call}{n:Nat}{st1 st2 st3 XS MJ:Stmt}{rest:List Stmt}{ss:List S}{x y f g a n1 n2:Nat}
theorem Pb(s:Nu X.K)(i:n1=1)(j:n2=2)(t:PS X st1 (xu (vM (De X.K n1 (c f)) [] E0 (cI (dD a) jY)) (fj x)))(u:PS X st2 (RL (Qy (tB (vM (De X.K n2 (c g)) [] E0 (cI (dD a) (cI (dD x) jY))))) (Qe (tC (.bl false))) G6))(w:PS X st3 (xu (Lq (cI (nQ (gV X.K) (dD x) (tC (.int 0))) (cI (Q0 (FW X.K) (cI (nQ (gV X.K) (dD x) (tC (.int 1))) jY)) (cI (nQ (gV X.K) (dD x) (tC (.int 2))) jY)))) (fj y)))(A:PS X XS (kE (T4 X.K "list" jP (nQ (gV X.K) (dD x) (tC (.int 1))) (cI (tC (.int 7)) jY))))(B:PS X MJ (kE (Gj X.K "list" jy (nQ (gV X.K) (dD x) (tC (.int 1))))))(l:x≠y)(b:SB X c n rest ss):SB X c n (st1::st2::st3::XS::MJ::rest) (.Vi x y f g a::ss):=by
 refine kZ (Mu s i j t u w A B l b) ?_;rintro D σ H⟨F,ρ,fl,m,p,e,k⟩;rw[NQ]at e;obtain⟨f1,ρ1,h,e⟩:=aa e;rw[HH.X22]at h;rcases Lz h with rfl|⟨r,rfl⟩;.refine⟨F,ρ,.next,ρ1,p,h,λF1 C I s1=>⟨F1,ρ1,fl,m,s1.gs,e,λF2 o E s2=>?_⟩⟩;have q:=k F2 o E (s1.trans s2);cases fl with|next=>exact q|brk=>exact q|cont=>exact q|ret r=>exact λv G=>q v (G.later s1)
 .cases e;exact⟨F,ρ,.ret r,_,p,h,k⟩
variable{k:Nat}{nx ny na fn gn ln:Str}{q1 q2 q3 q4 q5 q6 q7 q8 q9 q10 q11 q12 q13 q14 q15 q16 q17 q18 q19 q20 q21 q22 q23 q24 q25 q26 Yd Ye Yg q30 q31 Yh q33 Yi Yj Yk q37:Pos}{j1 j2 j3 j4 j5 j6 j7 j8}
theorem JF(Z:Nu X.K)(Cf:aV X.prog X.w X.K X.mg X.base k c f fn 1)(Cg:aV X.prog X.w X.K X.mg X.base k c g gn 2)(hr:iU k X.A)(O:X.N.Nodup)(Q:X.N[x]?=some nx)(lx:Loc X.env.scope nx)(vx:xK X.env.scope nx)(hy:X.N[y]?=some ny)(ly:Loc X.env.scope ny)(ha:X.N[a]?=some na)(va:xK X.env.scope na)(Yl:ln="list")(r:Gl X ln)(s:X.mg ln=none)(t:x≠y)(b:SB X c n rest ss)(u:Gl X fn:=by rfl)(v:Gl X gn:=by rfl)(B:(fn==("__debug__":Str))=false:=by rfl)(C:(gn==("__debug__":Str))=false:=by rfl)(G:(nx==("__debug__":Str))=false:=by rfl)(I:(nx==("__classdict__":Str))=false:=by rfl)(J:(na==("__debug__":Str))=false:=by rfl)(L:(na==("__classdict__":Str))=false:=by rfl)(s1:swapsWith (.Call (.Name fn q2) [.Name na q3] [] q4) (some (.Name nx q1)) q5.line X.env=pure false:=by rfl)(f1:X.fn nx=true\/X.env.scope.names.lookup nx=some .local:=by first|exact .inl rfl|exact .inr rfl|assumption)(s3:swapsWith (.Tuple [.Subscript (.Name nx q14) (.Constant (.int 0) j2 q15) q16,.Call (.Name ln q17) [.Subscript (.Name nx q18) (.Constant (.int 1) j3 q19) q20] [] q21,.Subscript (.Name nx q22) (.Constant (.int 2) j4 q23) q24] j5 q25) (some (.Name ny q13)) q26.line X.env=pure false:=by rfl)(f3:X.fn ny=true\/X.env.scope.names.lookup ny=some .local:=by first|exact .inl rfl|exact .inr rfl|assumption)(b4:attributeBase (.Subscript (.Name nx Yd) (.Constant (.int 1) j6 Ye) Yg) "append" X.env (eval (.Subscript (.Name nx Yd) (.Constant (.int 1) j6 Ye) Yg) X.env)=eval (.Subscript (.Name nx Yd) (.Constant (.int 1) j6 Ye) Yg) X.env:=by rfl)(w4:((backTo Yh (starEach [.Constant (.int 7) j7 q31] X.env)).all (λx=>!x.1)&&(backToKw Yh (keywordEach [] X.env)).all (λx=>x.1.isSome)&&decide ([(.Constant (.int 7) j7 q31:Expr)].length+([]:List Keyword).length+(if([]:List Keyword).isEmpty then 0 else 1)<30))=true:=by rfl)(l4:(q30.endLine==Yh.line)=true:=by rfl)(s4:swapsWith (.Call (.Attribute (.Subscript (.Name nx Yd) (.Constant (.int 1) j6 Ye) Yg) "append" q30) [.Constant (.int 7) j7 q31] [] Yh) none q33.line X.env=pure false:=by rfl)(b5:attributeBase (.Subscript (.Name nx Yi) (.Constant (.int 1) j8 Yj) Yk) "reverse" X.env (eval (.Subscript (.Name nx Yi) (.Constant (.int 1) j8 Yj) Yk) X.env)=eval (.Subscript (.Name nx Yi) (.Constant (.int 1) j8 Yj) Yk) X.env:=by rfl){l m:Pos}(l5:(q37.endLine==l.line)=true:=by rfl)(s5:swapsWith (.Call (.Attribute (.Subscript (.Name nx Yi) (.Constant (.int 1) j8 Yj) Yk) "reverse" q37) [] [] l) none m.line X.env=pure false:=by rfl){M:Pos}:SB X c n (.Assign [.Name nx q1] (.Call (.Name fn q2) [.Name na q3] [] q4) q5::.If (.UnaryOp .Not (.Call (.Name gn q6) [.Name na q7,.Name nx q8] [] q9) q10) [.Return (some (.Constant (.bool false) j1 q11)) q12] [] M::.Assign [.Name ny q13] (.Tuple [.Subscript (.Name nx q14) (.Constant (.int 0) j2 q15) q16,.Call (.Name ln q17) [.Subscript (.Name nx q18) (.Constant (.int 1) j3 q19) q20] [] q21,.Subscript (.Name nx q22) (.Constant (.int 2) j4 q23) q24] j5 q25) q26::.Expr (.Call (.Attribute (.Subscript (.Name nx Yd) (.Constant (.int 1) j6 Ye) Yg) "append" q30) [.Constant (.int 7) j7 q31] [] Yh) q33::.Expr (.Call (.Attribute (.Subscript (.Name nx Yi) (.Constant (.int 1) j8 Yj) Yk) "reverse" q37) [] [] l) m::rest) (.Vi x y f g a::ss):=by subst Yl;obtain⟨fa,fd,qs,c1,c2,c3,c4,c5⟩:=Cf.ex;obtain⟨ga,gd,rs,d1,d2,d3,d4,d5⟩:=Cg.ex;have U:∀{q:Pos},PE X (.Name nx q) (dD x):=λ{q}=>eV Q vx G I;have W:∀{q:Pos},PE X (.Name na q) (dD a):=λ{q}=>eV ha va J L;have o:∀{q Y p:Pos}{i:Int}{j},PE X (.Subscript (.Name nx q) (.Constant (.int i) j Y) p) (nQ (gV X.K) (dD x) (tC (.int i))):=λ{q Y p i j}=>Hs GP U o6 (by intro _ _;rfl);have st:∀{e:Expr}{es:List Expr},starEach (e::es) X.env=(false,eval e X.env)::starEach es X.env->starEach (e::es) X.env=(false,eval e X.env)::starEach es X.env:=λh=>h;refine Pb Z c5 d5 (uc O Q lx (uI (E:=E0) c1 hr u c2 c3 c4 .nil Ft (aX W cH (aJ rfl)) B (aJ rfl) rfl) s1 f1) (GC (Ey (Ij (uI (E:=E0) d1 hr v d2 d3 d4 .nil Ft (aX W (aX U cH (aJ rfl)) (aJ rfl)) C (aJ rfl) rfl))) (Kf (zj Ng)) ue) (uc O hy ly (HB (aX o (aX (gW lW r s (by decide+kernel) (aX o cH (aJ rfl)) (he:=aJ rfl)) (aX o cH (aJ rfl)) (aJ rfl)) (aJ rfl))) s3 f3) (oV (Gr plainAttrs_list PySem.F.slot_list_append PySem.F.type_list_append jQ o (aX o6 cH (aJ rfl)) b4 w4 l4 (aJ rfl)) s4) (oV (Qu plainAttrs_list PySem.F.slot_list_reverse PySem.F.type_list_reverse yM o b5 l5) s5) t b
end
end HH
end
section
namespace HH
open PySem
variable{b:Bool}
def oA(l:List Nat):Prop:=∀i j(a:i<l.length)(c:j<l.length),i<j->l[i]<l[j]
theorem gU{l:List Nat}:oA l↔l.Pairwise (·<·):=by rw[List.pairwise_iff_getElem];exact Iff.rfl
theorem qO{xs:Array Nat}{j:Nat}(r:oA xs.toList):∀(f lo a:Nat),a-lo<=f->lo<=a->a<=xs.size->(∀k(h:k<xs.size),k<lo->xs[k]<j)->(∀k(h:k<xs.size),a<=k->j<=xs[k])->∃i,SetTable.below.go xs j f lo a=i/\i<=xs.size/\(∀k(h:k<xs.size),k<i->xs[k]<j)/\(∀k(h:k<xs.size),i<=k->j<=xs[k])
 |0,lo,a,h1,p,o,g,l=>⟨lo,rfl,by omega,g,λk h m=>l k h (by omega)⟩|f+1,lo,a,h1,p,o,g,l=>by
   unfold SetTable.below.go;by_cases c:lo<a
   . rw[if_pos c];have n:(lo+a)/2<xs.size:=by omega
     have e:xs.getD ((lo+a)/2) j=xs[(lo+a)/2]:=by simp[Array.getD,n]
     dsimp only;rw[e];by_cases d:xs[(lo+a)/2]<j
     . rw[if_pos d];refine qO r f _ _ (by omega) (by omega) o (λk h m=>?_) l;by_cases q:k=(lo+a)/2;.subst q;exact d
       .have:=r k ((lo+a)/2) (by simpa using h) (by simpa using n) (by omega);simp only[getElem_toList]at this;omega
     . rw[if_neg d];refine qO r f _ _ (by omega) (by omega) (by omega) g (λk h m=>?_);by_cases q:k=(lo+a)/2;.subst q;omega
       .have:=r ((lo+a)/2) k (by simpa using n) (by simpa using h) (by omega);simp only[getElem_toList]at this;omega
   .rw[if_neg c];exact⟨lo,rfl,by omega,g,λk h m=>l k h (by omega)⟩
theorem below_at{xs:Array Nat}{j:Nat}(r:oA xs.toList):SetTable.below xs j<=xs.size/\(∀k(h:k<xs.size),k<SetTable.below xs j->xs[k]<j)/\(∀k(h:k<xs.size),SetTable.below xs j<=k->j<=xs[k]):=by obtain⟨i,e,q⟩:=qO (j:=j) r xs.size 0 xs.size (by omega) (by omega) (by omega) (λk h a=>by omega) (λk h a=>by omega);rw[show SetTable.below xs j=i from e];exact q
theorem Mh{xs:Array Nat}{j:Nat}(r:oA xs.toList)(n:xs[SetTable.below xs j]?≠some j):oA (SetTable.insertAt xs (SetTable.below xs j) j).toList:=by
 obtain⟨h1,l,h⟩:=below_at (j:=j) r;rw[SetTable.toList_insertAt,gU];rw[gU]at r;have f:=r;rw[<-List.take_append_drop (SetTable.below xs j) xs.toList,List.pairwise_append]at f;rw[List.pairwise_append];have hd:∀x∈xs.toList.drop (SetTable.below xs j),j<x:=λx m=>by
  obtain⟨k,g,rfl⟩:=List.mem_iff_getElem.mp m;rw[List.getElem_drop];have c:SetTable.below xs j+k<xs.size:=by simp at g;omega
  have q:=h (SetTable.below xs j+k) c (by omega);simp only[getElem_toList];refine Nat.lt_of_le_of_ne q λe=>n ?_;by_cases z:k=0;.subst z;rw[Array.getElem?_eq_getElem (by omega)];simpa using e.symm
  . have lt:SetTable.below xs j<xs.size:=by omega
    have o:=(gU.mpr r) (SetTable.below xs j) (SetTable.below xs j+k) (by simpa using lt) (by simpa using c) (by omega);have:=h _ lt (by omega);simp only[getElem_toList]at o;omega
 refine⟨f.1,List.pairwise_cons.mpr ⟨hd,f.2.1⟩,λa p b hb=>?_⟩;have i:a<j:=by obtain⟨k,g,rfl⟩:=List.mem_iff_getElem.mp p;rw[List.getElem_take];simp at g;have:=l k (by omega) (by omega);simpa using this
 rcases mem_cons.mp hb with rfl|hb;.exact i
 .exact lt_trans i (hd b hb)
def Dr(b:Bool)(t:SetTable):Prop:=t.led=b/\t.dummies=#[]/\oA t.place.toList
theorem xX(n:Nat):oA (Array.range n).toList:=by rw[gU];simpa using List.pairwise_lt_range
theorem lV{t:SetTable}(g:Dr b t)(n:Nat):Dr b (t.standIn n):=⟨g.1,rfl,xX n⟩
theorem Wr{t:SetTable}(g:Dr b t)(n:Nat):Dr b (t.orStandIn n):=by
 unfold SetTable.orStandIn;split;.exact g
 .exact lV g n
theorem Hr{t:SetTable}(g:Dr b t):Dr b {t with plain:=false}:=g
theorem Bw(j:Nat):SetTable.has #[] j=false:=by simp[SetTable.has]
theorem vd{t:SetTable}{hs:Nat->Int}{h:Int}(hd:t.dummies=#[]):∀(f:Nat)(p:SetTable.Probe)(j:Nat)(o:Option Nat),p.dummy=none->SetTable.probe.go t hs h f p=some (.empty j o)->o=none/\t.slot j=.empty
 |0,p,j,o,e,q=>by simp[SetTable.probe.go]at q|f+1,p,j,o,e,q=>by
   unfold SetTable.probe.go at q;split at q;.rename_i hs;cases q;exact⟨e,hs⟩
   .rename_i a;unfold SetTable.slot at a;rw[hd,Bw]at a;dsimp only at a;split at a<;>simp at a
   . split at q;.cases q
     .exact vd hd f _ j o (by unfold SetTable.advance;split<;>exact e) q
theorem Rv{t:SetTable}(g:Dr b t)(es:Array (Int×Value))(h:Int)(x:Value):Dr b (layNew t es h x).2.1:=by unfold layNew;cases hf:t.freeSlot h with|none=>exact lV g _|some sd=>
   obtain⟨slot,i⟩:=sd;have:t.slot slot=.empty:=by
    unfold SetTable.freeSlot at hf;split at hf;.rename_i j d a;obtain⟨c,f⟩:=vd g.2.1 _ _ j d rfl a;subst c;cases hf;exact f
    .cases hf
   dsimp only;refine Wr (t:=(t.put slot).1) ⟨g.1,?_,?_⟩ _;.show(if SetTable.has t.dummies slot then _ else t.dummies)=#[];rw[g.2.1,Bw];rfl
   .refine Mh g.2.2 λe=>?_;unfold SetTable.slot at this;dsimp only at this;rw[e]at this;simp at this
theorem HJ{t:SetTable}(g:Dr b t)(es:Array (Int×Value))(n:Nat):Dr b (relayAll t es n).2.1:=by
 unfold relayAll;split
 . rename_i t' f hr;dsimp only;split;.unfold SetTable.relaid SetTable.laid at hr;cases hc:SetTable.layClean (SetTable.sizeAbove n-1) (es.map (·.1))with|none=>rw[hc]at hr;cases hr|some owner=>rw[hc]at hr;cases hr;refine⟨g.1,rfl,?_⟩;rw[gU];dsimp only;rw[pairwise_map,List.pairwise_filterMap];refine List.pairwise_lt_range.imp λ{a b}h=>?_;intro x c y e;cases ha:owner.getD a none with|none=>rw[ha]at c;cases c|some u=>cases hb:owner.getD b none with|none=>rw[hb]at e;cases e|some v=>rw[ha]at c;rw[hb]at e;cases c;cases e;exact h
   .exact lV g _
 .exact lV g _
theorem sW{a:Type}{nx:Nat->Nat}:∀(f k:Nat)(l:List a)(out:Array a),l.length=f->(pickOrder.go nx f k l out).toList.Perm (out.toList++l)
 |0,k,l,out,h=>by rw[List.length_eq_zero_iff.mp h];simp[pickOrder.go]|f+1,k,l,out,h=>by
   unfold pickOrder.go;have c:nx k%l.length<l.length:=Nat.mod_lt _ (by omega);rw[getElem?_eq_getElem c];refine(sW f (k+1) _ _ (by rw[List.length_eraseIdx];simp[c];omega)).trans ?_;rw[Array.toList_push,append_assoc];refine List.Perm.append_left _ ?_;rw[List.eraseIdx_eq_take_drop_succ];have e:l=l.take (nx k%l.length)++l[nx k%l.length]::l.drop (nx k%l.length+1):=by rw[List.getElem_cons_drop,List.take_append_drop]
   conv=>rhs;rw[e]
   rw[List.singleton_append];exact List.perm_middle.symm
theorem lC{a:Type}(nx:Nat->Nat)(xs:Array a):(pickOrder nx xs).toList.Perm xs.toList:=by have:=sW (nx:=nx) xs.size 0 xs.toList #[] (by simp);simpa[pickOrder]using this
end HH
end
section
namespace HH
open PySem PyProof.Rows PySem.Spec
variable{ns:List Int}{h:Heap}{Q:Value->Shared->Prop}{n c:Nat}{os:List Nat}{ot:Obj}
inductive iY(prog:Program)(w:World)(b:Bool)(h:Heap)(a:Addr)(ks:List Int):Prop where|mk(o:Obj)(es:Array (Int×Value))(ep:Nat)(t:SetTable)(is:List Int)(ho:h.get? a=some o)(hx:o.ExactSet)(hd:o.data=.set es ep t)(g:Dr b t)(hf:t.fits es.size=true)(he:ElemsOf (intKind prog w) es.toList)(hi:IntsAre (es.toList.map (·.2)) is)(hp:is.Perm ks)
section
variable{prog:Program}{w:World}{b:Bool}{h h':Heap}{a:Addr}{ks:List Int}{A:Around}{E:Value->Shared->Prop}{s:Shared}
theorem iY.at'(x:iY prog w b h a ks)(k:∀o,h.get? a=some o->h'.get? a=some o):iY prog w b h' a ks:=by obtain⟨o,es,ep,t,e,ho,r1,f,g,i,j,l,m⟩:=x;exact⟨o,es,ep,t,e,k o ho,r1,f,g,i,j,l,m⟩
theorem ints_app:∀{e vs:List Value}{ns f:List Int},IntsAre e ns->IntsAre vs f->IntsAre (e++vs) (ns++f)|_,_,_,_,.nil,h=>h|_,_,_,_,.cons n t r,h=>.cons n t (ints_app r h)
theorem mL{j vs:List Value}(p:j.Perm vs):∀{ns:List Int},IntsAre vs ns->∃e,IntsAre j e/\e.Perm ns:=by induction p with
 |nil=>intro ns h;exact⟨ns,h,.refl _⟩|cons x p k=>intro ns h;cases h with|cons n t r=>obtain⟨e,h1,f⟩:=k r;exact⟨n::e,.cons n t h1,f.cons n⟩
 |swap x y l=>intro ns h;cases h with|cons n t r=>cases r with|cons m u r=>exact⟨m::n::_,.cons m u (.cons n t r),.swap ..⟩
 |trans p q g i=>intro ns h;obtain⟨e,h1,f⟩:=i h;obtain⟨o,v,B⟩:=g h1;exact⟨o,v,B.trans f⟩
theorem gR{e:List Value}(h:IntsAre e ns):e.length=ns.length:=by induction h with|nil=>rfl|cons n t r f=>simp[f]
theorem qH{k:Int}:∀{es:List (Int×Value)}{is:List Int},IntsAre (es.map (·.2)) is->((∃e∈es,(intKind prog w).is k e.2=true)↔k∈is)|[],_,.nil=>by simp|(l,v)::es,_,g=>by generalize i:((l,v)::es).map (·.2)=o at g;cases g with|nil=>cases i|cons n t r=>
     obtain⟨j,m⟩:=List.cons.inj i;dsimp only at j;subst j;subst m;rw[mem_cons,<-qH r];constructor
     . rintro⟨e,he,f⟩;rcases mem_cons.mp he with rfl|he;.exact .inl ((intKind prog w).inj _ _ _ f (intKind_is _ _ _ _))
       .exact .inr ⟨e,he,f⟩
     . rintro(rfl|⟨e,he,f⟩);.exact⟨_,.head _,intKind_is _ _ _ _⟩
       .exact⟨e,.tail _ he,f⟩
theorem wL{o:Obj}{es es':Array (Int×Value)}{ep:Nat}{t t':SetTable}{e:List Int}(ho:h.get? a=some o)(i:o.ExactSet)(hd:o.data=.set es ep t)(g:Dr b t')(k:t'.fits es'.size=true)(he:ElemsOf (intKind prog w) es'.toList)(l:IntsAre (es'.toList.map (·.2)) e)(m:e.Perm ks):∃f,(h.update a (Obj.putSet es' t')).get? a=some f/\f.ExactSet/\f.data=.set es' (ep+1) t'/\iY prog w b (h.update a (Obj.putSet es' t')) a ks:=by
 have j:(h.update a (Obj.putSet es' t')).get? a=some {o with data:=.set es' (ep+1) t'}:=by rw[<-putSet_of es' t' hd];exact get?_update_self (Obj.putSet es' t') ho (by rw[putSet_of es' t' hd];rfl)
 exact⟨_,j,i,rfl,⟨_,es',ep+1,t',e,j,i,rfl,g,k,he,l,m⟩⟩
theorem wU{g:Bool->Sem Unit}(B:∀(b:Bool)(i:Shared)(l:Unit->Shared->Prop),l () i->wpAny (model prog w) A (g b) l E i){o:Obj}{es e:Array (Int×Value)}{ep:Nat}{t f:SetTable}{m:List Int}(ho:s.heap.get? a=some o)(C:o.ExactSet)(hd:o.data=.set es ep t)(p:Dr b f)(G:f.fits e.size=true)(he:ElemsOf (intKind prog w) e.toList)(r:IntsAre (e.toList.map (·.2)) m)(u:m.Perm ks)(hz:e.size<=sizeLine){H:Bool}{Q:Option Bool->Shared->Prop}(q:∀h',SameBut a s.heap h'->iY prog w b h' a ks->Q (some true) {s with heap:=h'}):wpAny (model prog w) A (storeSet a e f>>=λ_=>if(!H&&f.tooFull)=true then(g (relayAll f e (grown e.size)).2.2>>=λ_=>storeSet a (relayAll f e (grown e.size)).1 (relayAll f e (grown e.size)).2.1>>=λ_=>pure (some true))else pure (some true)) Q E s:=by
 refine wpAny_bind (wpAny_storeSet_of ho hd ?_ hz);obtain⟨O,v,I,x,J⟩:=wL (prog:=prog) (w:=w) ho C hd p G he r u;have y:=Heap.SameBut.update s.heap a (Obj.putSet e f);split;.have j:=relayAll_perm f e (grown e.size);have fr:=relayAll_fits f e (grown e.size);have k:=HJ p e (grown e.size);generalize relayAll f e (grown e.size)=R at j fr k;obtain⟨L,U,W⟩:=R;dsimp only at j fr k;refine wpAny_bind (B _ _ _ (wpAny_bind (wpAny_storeSet_of v x (wpAny_pure ?_) (by rw[<-length_toList,j.length_eq,length_toList];exact hz))));obtain⟨X,M,N⟩:=mL (j.map (·.2)) r;obtain⟨Y,_,_,_,f4⟩:=wL (prog:=prog) (w:=w) v I x k fr (he.perm j) M (N.trans u);exact q _ (y.trans (Heap.SameBut.update _ a _)) f4
 .exact wpAny_pure (q _ y J)
theorem FJ{k:Int}{g:Tok}{Q:Bool->Shared->Prop}(x:iY prog w b s.heap a ks)(hz:ks.length+1<scanBound)(q:∀r h',SameBut a s.heap h'->iY prog w b h' a (Ei ks k)->Q r {s with heap:=h'}):wpAny (model prog w) A (setAddHashed a (.int k g) ((intKind prog w).hash k)) Q E s:=by
 obtain⟨o,es,ep,t,is,ho,N,hd,X,O,he,G,H⟩:=id x;have hsz:es.size=ks.length:=by rw[<-H.length_eq,<-gR G,length_map,length_toList]
 unfold setAddHashed setAddHashedIn;refine wpAny_holding (wpAny_bind (wpAny_setState_of ho hd O ?_));dsimp only;rw[byScan_of (knd:=intKind prog w) rfl (by omega) he,if_pos rfl];unfold setAddByScan;refine wpAny_bind (wpAny_bind (wpAny_rule (wpAny_bind (wpAny_setScan_of (intKind_is _ _ _ _) ho hd O he ?_))));cases hr:es.toList.findIdx? (λe=>(intKind prog w).is k e.2)with|some j=>dsimp only;obtain⟨Y,Z,_⟩:=List.findIdx?_eq_some_iff_getElem.mp hr;have p:k∈ks:=H.mem_iff.mp ((qH (prog:=prog) (w:=w) G).mp ⟨_,getElem_mem Y,Z⟩);refine wpAny_pure (wpAny_pure ?_);have:=q false s.heap (Heap.SameBut.refl a s.heap) (by unfold Ei;rw[if_pos (by simpa using p)];exact x);cases s;exact this|none=>
   dsimp only;have p:k∉ks:=λp=>by obtain⟨e,e1,e2⟩:=(qH (prog:=prog) (w:=w) G).mpr (H.mem_iff.mpr p);have:=List.findIdx?_eq_none_iff.mp hr e e1;rw[e2]at this;cases this
   have e':Ei ks k=ks++[k]:=by unfold Ei;rw[if_neg (by simpa using p)]
   rw[e']at q;have l:=layNew_perm t es ((intKind prog w).hash k) (.int k g);have fr:=layNew_fits t es ((intKind prog w).hash k) (.int k g);have u:=Rv X es ((intKind prog w).hash k) (.int k g);generalize layNew t es ((intKind prog w).hash k) (.int k g)=L at l fr u;obtain⟨v,t1,wd,gv⟩:=L;dsimp only at l fr u ⊢;rw[Array.toList_push]at l;have I:∀(b:Bool)(f:Shared)(i:Unit->Shared->Prop),i () f->wpAny (model prog w) A (match b with|true=>rule "set.scan.the-table-gave-way"|false=>pure ()) i E f:=λb f i m=>by
    cases b;.exact wpAny_pure m
    .exact wpAny_rule m
   have B:ElemsOf (intKind prog w) v.toList:=(he.push (k:=k) (x:=.int k g) (intKind_is _ _ _ _) rfl).perm l;have J:IntsAre ((es.toList++[((intKind prog w).hash k,Value.int k g)]).map (·.2)) (is++[k]):=by rw[map_append];exact ints_app G (.cons k g .nil)
   obtain⟨js,U,j2⟩:=mL (l.map (·.2)) J;have C:v.size<=sizeLine:=by rw[<-length_toList,l.length_eq,length_append,length_toList,hsz];exact fits_of_scanBound (by simpa using hz)
   have W:js.Perm (ks++[k]):=j2.trans (H.append_right [k]);refine wpAny_bind (I _ _ _ ?_);split
   . refine wpAny_bind ?_;rw[hashByValue_scannable 8 rfl];refine wpAny_pure ?_;refine wU (λb f i m=>I b f i m) ho N hd (b:=b) ?_ ?_ B U W C λh' M y=>wpAny_pure (q true h' M y)
     . split;.exact u
       .exact Hr u
     . split;.exact fr
       .exact SetTable.fits_plain_off fr
   .refine wpAny_bind (wpAny_pure ?_);rw[if_pos rfl];exact wU (λb f i m=>I b f i m) ho N hd u fr B U W C λh' M y=>wpAny_pure (q true h' M y)
end
theorem zu:∀(ns ks:List Int),(ns.foldl Ei ks).length<=ks.length+ns.length
 |[],ks=>by simp|n::ns,ks=>by
   have h1:=zu ns (Ei ks n);have a:(Ei ks n).length<=ks.length+1:=by unfold Ei;split<;>simp
   rw[foldl_cons,length_cons];omega
noncomputable abbrev iR(w:World):Bool:=w.params.followText "set-order"
noncomputable abbrev fS(b:Bool):Obj:={cls:=.type "set",dict:=none,data:=.set #[] 0 (.fresh 0 0 b)}
section
variable{prog:Program}{w:World}{A:Around}{E:Value->Shared->Prop}{s:Shared}
theorem sJ{a:Addr}(e:h.get? a=some (fS (!iR w))):iY prog w (!iR w) h a []:=⟨_,#[],0,_,[],e,⟨rfl,rfl,rfl⟩,rfl,⟨rfl,rfl,λi j b=>by simp[SetTable.fresh]at b⟩,rfl,λe he=>by simp at he,.nil,.refl _⟩
theorem vz(a:Value){Q₁:Value->Shared->Prop}(h:Q₁ (.ref s.heap.objs.size) {s with heap:=s.heap.push (fS (!iR w))}):codeAny (model prog w) A (.call (.builtin "set.__new__") ⟨[.type "set",a],[]⟩) (wants Q₁ E) s:=by refine codeAny_of_tree ?_;show wpAny _ A.in1 (do checkBuiltinCall "set.__new__" ⟨[.type "set",a],[]⟩;again (.builtin "set.__new__" ⟨[.type "set",a],[]⟩)) _ _ s;refine wpAny_bind (wpAny_of_eq (PySem.F.newCall_set_1 a) (wpAny_pure ⟨plainId_quiet PySem.F.plain_set_new _,codeAny_builtin PySem.F.entry_set_new ?_⟩));rw[Around.under_plainId PySem.F.plain_set_new _];unfold Builtin.«set.__new__» Builtin.Frozenset.newClass;have b:=sub_set_self;obtain⟨e,g,d,f,os⟩:=s;dsimp only;wp_walk;refine wpAny_askSetting (wpAny_pure ?_);dsimp only;simp only[newObj];exact wpAny_bind (wpAny_alloc (wpAny_pure (wpAny_pure h)))
theorem wA{R:Result->Shared->Prop}{I:Addr}{O j:List Addr}{G:Array GenState->Array GenState->Prop}{P:Nat->Value->Prop}{St:Nat->Shared->Prop}{b:Bool}(W:WalksS prog w A.in1 I O j G ns.length P St)(S:Addr)(l:S∉O)(m:∀i v,P i v->∃t,v=.int (ns.getD i 0) t)(g:ns.length+1<scanBound):∀(k i:Nat)(s:Shared),ns.length-i=k->i<=ns.length->St i s->iY prog w b s.heap S (dW (ns.take i))->(∀ a,Moved (S::j) G s a->iY prog w b a.heap S (dW ns)->R (.ok (.ret .none)) a)->
   codeAny (model prog w) A (.builtin "set.update.loop" ⟨[.ref S,.ref I],[]⟩) R s:=by have p:S∉j:=λh=>l (W.sub _ h);have sub:∀b∈j,b∈S::j:=λb g=>.tail _ g;intro k;induction k with|zero=>
   intro i s X Y hst B C;have H:i=ns.length:=by omega
   subst H;refine codeAny_builtin PyProof.Rows.F.entry_set_update_loop ?_;rw[Around.under_plainId PyProof.Rows.F.plain_set_update_loop _];show wpAny _ A.in1 (pyNext (.ref I)>>=_) _ _ s;refine wpAny_bind (W.done s _ _ hst λa q=>?_);show wpAny _ A.in1 (ret Value.none) _ _ a;rw[List.take_length]at B;exact wpAny_pure (C a (q.mono sub) (B.at' λo e=>q.heap S o p e))|succ k Z=>
   intro i s X Y hst B C;have lt:i<ns.length:=by omega
   refine codeAny_builtin PyProof.Rows.F.entry_set_update_loop ?_;rw[Around.under_plainId PyProof.Rows.F.plain_set_update_loop _];show wpAny _ A.in1 (pyNext (.ref I)>>=_) _ _ s;refine wpAny_bind (W.item i s _ _ lt hst λv a hP u q=>?_);obtain⟨t,rfl⟩:=m i v hP;have J:=B.at' λo e=>q.heap S o p e;show wpAny _ A.in1 (holding [Value.int (ns.getD i 0) t] (setAdd S (.int (ns.getD i 0) t))>>=_) _ _ a;refine wpAny_bind (wpAny_holding ?_);unfold setAdd;refine wpAny_holding (wpAny_bind ((intKind prog w).pyHash (k:=ns.getD i 0) (intKind_is _ _ _ _) ?_));have f:(dW (ns.take i)).length+1<scanBound:=by have:=zu (ns.take i) [];unfold dW;rw[length_take]at this;simp only[length_nil]at this;omega
   refine FJ (s:={a with toks:=a.toks+1}) J f λr h' U L=>?_;have M:iY prog w b h' S (dW (ns.take (i+1))):=by
    have e:ns.take (i+1)=ns.take i++[ns.getD i 0]:=by rw[List.take_add_one];simp[lt]
    unfold dW;rw[e,List.foldl_append];exact L
   refine wpAny_pure ⟨plainId_quiet PyProof.Rows.F.plain_set_update_loop _,Z (i+1) _ (by omega) lt (W.frame _ a _ _ u (le_succ _) λb g o e=>?_) M λN x y=>?_⟩;.rw[U.2 b (λh:b=S=>l (by rw[<-h];exact g))];exact e
   .refine C N (Moved.trans W.gtrans ((q.mono sub).then_heap (le_succ _) λb o g e=>?_) x) y;rw[U.2 b (λh:b=S=>g (by rw[h];exact .head _))];exact e
set_option maxHeartbeats 3200000 in
theorem Gx{l:Addr}{f:List Value}(hh:A.handled=none)(hl:s.heap.IsList l f.toArray)(hi:IntsAre f ns)(hb:ns.length+1<scanBound)(h:∀(h':Heap)(I:Nat),iY prog w (!iR w) h' s.heap.objs.size (dW ns)->(∀b o,s.heap.get? b=some o->h'.get? b=some o)->Q (.ref s.heap.objs.size) {s with heap:=h',toks:=I}):wpAny (model prog w) A (call (.type "set") [.ref l]) Q E s:=by
 obtain⟨c,tl,ac⟩:=PySem.F.called_set.mro;have L:=PySem.F.called_set.made;have ae:=PySem.F.called_set.sub;refine wpAny_call (codeAny_of_tree ?_);show wpAny _ _ (callAny (.type "set") _) _ _ _;refine wpAny_pure ⟨Code.quiet_builtin _ (by decide+kernel),codeAny_builtin PySem.F.entry_type_call ?_⟩;rw[Around.under_plain (weight_type_call_type "set" [.ref l] []) rfl];have h1:=PySem.F.called_set.notType;have h2:=PySem.F.called_set.canCreate;have ai:=PySem.F.typeCall_set_1 (.ref l);repeat(any_goals(first|assumption|wp_step))
 refine codeAny_mono (vz (.ref l) (E:=E) (Q₁:=λobj j=>obj=.ref s.heap.objs.size/\j={s with heap:=s.heap.push (fS (!iR w))}) ⟨rfl,rfl⟩) λr j hr=>?_;cases r with|error e=>exact hr|ok fl=>cases fl with
   |ret obj=>
     obtain⟨rfl,rfl⟩:=hr;have hS:(s.heap.push (fS (!iR w))).get? s.heap.objs.size=some (fS (!iR w)):=get?_push_size _ rfl;have hT:Shared.TypeIs {s with heap:=s.heap.push (fS (!iR w))} (.ref s.heap.objs.size) "set":=⟨_,hS,rfl⟩;have am:=PySem.F.called_set.init.lookup;have ap:=PySem.F.called_set.init.bind (.ref s.heap.objs.size);repeat(any_goals(first|assumption|wp_step))
     refine codeAny_mono (codeAny_call_builtin (R:=wants (λr k=>r=.none/\∃h' I,k={s with heap:=h',toks:=I}/\iY prog w (!iR w) h' s.heap.objs.size (dW ns)/\(∀b o,s.heap.get? b=some o->h'.get? b=some o)) E) PySem.F.called_set.init.plain PySem.F.entry_set_init (check_set_init_1 hT ?_)) λt k a=>?_
     . obtain⟨ol,u,x,nl,y⟩:=hl;obtain⟨af,m,M,g⟩:=ol;simp only at x y;subst x;subst y;have B:(s.heap.push (fS (!iR w))).get? l=some {cls:=.type "list",dict:=m,data:=.seq f.toArray nl,slots:=g}:=du u;have ag:=PySem.F.sub_list_set;have ah:=PySem.F.sub_list_frozenset;have ar:(Value.type "list"==Value.type "dict")=false:=by decide
       have C:(s.heap.push (fS (!iR w))).IsList l f.toArray:=⟨_,B,rfl,nl,rfl⟩;unfold Builtin.«set.__init__» noKeywords Builtin.Frozenset.updateFrom;generalize N:pyIter=PI;wp_walk;subst N;refine wpAny_pyIter_list C (wpAny_bind (wpAny_runValue ?_));have G:l<s.heap.objs.size:=lt_size u;have O:A.in1.in1.in1.handled=none:=by simp[hh]
       have hz:(s.heap.push (fS (!iR w))).objs.size=s.heap.objs.size+1:=size_push ..;have H:l≠(s.heap.push (fS (!iR w))).objs.size:=by rw[hz];exact ne_of_lt (lt_succ_of_lt G)
       have U:s.heap.objs.size∉[(s.heap.push (fS (!iR w))).objs.size,l]:=by rw[hz];simp only[mem_cons,not_mem_nil,or_false,not_or];exact⟨ne_of_lt (Nat.lt_succ_self _),ne_of_gt G⟩
       have Yl:f.toArray.size=ns.length:=by rw[size_toArray];exact gR hi
       have W:=(Walks.list (prog:=prog) (w:=w) O _ l H f.toArray).toS;rw[Yl]at W;refine wA (b:=!iR w) W s.heap.objs.size U (λi v hv=>IntsAre.int_at hi i v (by simpa using hv)) hb (ns.length-0) 0 _ (by omega) (vy) ⟨⟨_,get?_push_size _ rfl,rfl,rfl⟩,C.push _⟩ (sJ (du hS)) λs' J p=>?_;obtain⟨h',g',d',X,Y⟩:=s';have eg:g'=s.gens:=J.gens;have ed:d'=s.drawn:=J.drawn;have eo:Y=s.os:=J.os;subst eg;subst ed;subst eo;show wpAny _ _ _ _ _ _;refine wpAny_pure ?_;show wpAny _ _ (ret Value.none) _ _ _;refine wpAny_pure ⟨rfl,h',X,rfl,p,λb o e=>?_⟩;have:=lt_size e;exact J.heap b o (by rw[hz];simp only[mem_cons,not_mem_nil,or_false,not_or];exact⟨ne_of_lt this,ne_of_lt (lt_succ_of_lt this)⟩) (du (du e))
     .cases t with|error e=>exact a|ok q=>
         cases q with|ret r=>
           obtain⟨rfl,h',I,rfl,p,Z⟩:=a;repeat(any_goals(first|assumption|wp_step))
           exact h _ _ p Z|_=>exact a.elim
   |_=>exact hr.elim
end
section
variable{prog:Program}{w:World}{A:Around}{E:Value->Shared->Prop}{s:Shared}
set_option maxHeartbeats 3200000 in
theorem Dm{l:Addr}{f:List Value}(hh:A.handled=none)(hl:s.heap.IsTuple l f.toArray)(hi:IntsAre f ns)(hb:ns.length+1<scanBound)(h:∀(h':Heap)(I:Nat),iY prog w (!iR w) h' s.heap.objs.size (dW ns)->(∀b o,s.heap.get? b=some o->h'.get? b=some o)->Q (.ref s.heap.objs.size) {s with heap:=h',toks:=I}):wpAny (model prog w) A (call (.type "set") [.ref l]) Q E s:=by
 obtain⟨c,tl,ac⟩:=PySem.F.called_set.mro;have L:=PySem.F.called_set.made;have ae:=PySem.F.called_set.sub;refine wpAny_call (codeAny_of_tree ?_);show wpAny _ _ (callAny (.type "set") _) _ _ _;refine wpAny_pure ⟨Code.quiet_builtin _ (by decide+kernel),codeAny_builtin PySem.F.entry_type_call ?_⟩;rw[Around.under_plain (weight_type_call_type "set" [.ref l] []) rfl];have h1:=PySem.F.called_set.notType;have h2:=PySem.F.called_set.canCreate;have ai:=PySem.F.typeCall_set_1 (.ref l);repeat(any_goals(first|assumption|wp_step))
 refine codeAny_mono (vz (.ref l) (E:=E) (Q₁:=λobj j=>obj=.ref s.heap.objs.size/\j={s with heap:=s.heap.push (fS (!iR w))}) ⟨rfl,rfl⟩) λr j hr=>?_;cases r with|error e=>exact hr|ok fl=>cases fl with
   |ret obj=>
     obtain⟨rfl,rfl⟩:=hr;have hS:(s.heap.push (fS (!iR w))).get? s.heap.objs.size=some (fS (!iR w)):=get?_push_size _ rfl;have hT:Shared.TypeIs {s with heap:=s.heap.push (fS (!iR w))} (.ref s.heap.objs.size) "set":=⟨_,hS,rfl⟩;have am:=PySem.F.called_set.init.lookup;have ap:=PySem.F.called_set.init.bind (.ref s.heap.objs.size);repeat(any_goals(first|assumption|wp_step))
     refine codeAny_mono (codeAny_call_builtin (R:=wants (λr k=>r=.none/\∃h' I,k={s with heap:=h',toks:=I}/\iY prog w (!iR w) h' s.heap.objs.size (dW ns)/\(∀b o,s.heap.get? b=some o->h'.get? b=some o)) E) PySem.F.called_set.init.plain PySem.F.entry_set_init (check_set_init_1 hT ?_)) λt k a=>?_
     . obtain⟨ol,u,x,nl,y⟩:=hl;obtain⟨af,m,M,g⟩:=ol;simp only at x y;subst x;subst y;have B:(s.heap.push (fS (!iR w))).get? l=some {cls:=.type "tuple",dict:=m,data:=.seq f.toArray nl,slots:=g}:=du u;have ag:isSubtype (.type "tuple") (.type "set")=pure false:=by rw[isSubtype_type];kernel_rfl
       have ah:isSubtype (.type "tuple") (.type "frozenset")=pure false:=by rw[isSubtype_type];kernel_rfl
       have ar:(Value.type "tuple"==Value.type "dict")=false:=by decide
       have C:(s.heap.push (fS (!iR w))).IsTuple l f.toArray:=⟨_,B,rfl,nl,rfl⟩;unfold Builtin.«set.__init__» noKeywords Builtin.Frozenset.updateFrom;generalize N:pyIter=PI;wp_walk;subst N;refine wpAny_pyIter_tuple C (wpAny_bind (wpAny_runValue ?_));have G:l<s.heap.objs.size:=lt_size u;have O:A.in1.in1.in1.handled=none:=by simp[hh]
       have hz:(s.heap.push (fS (!iR w))).objs.size=s.heap.objs.size+1:=size_push ..;have H:l≠(s.heap.push (fS (!iR w))).objs.size:=by rw[hz];exact ne_of_lt (lt_succ_of_lt G)
       have U:s.heap.objs.size∉[(s.heap.push (fS (!iR w))).objs.size,l]:=by rw[hz];simp only[mem_cons,not_mem_nil,or_false,not_or];exact⟨ne_of_lt (Nat.lt_succ_self _),ne_of_gt G⟩
       have Yl:f.toArray.size=ns.length:=by rw[size_toArray];exact gR hi
       have W:=(Walks.tuple (prog:=prog) (w:=w) O _ l H f.toArray).toS;rw[Yl]at W;refine wA (b:=!iR w) W s.heap.objs.size U (λi v hv=>IntsAre.int_at hi i v (by simpa using hv)) hb (ns.length-0) 0 _ (by omega) (vy) ⟨⟨_,get?_push_size _ rfl,rfl,rfl⟩,C.at λo e=>du e⟩ (sJ (du hS)) λs' J p=>?_;obtain⟨h',g',d',X,Y⟩:=s';have eg:g'=s.gens:=J.gens;have ed:d'=s.drawn:=J.drawn;have eo:Y=s.os:=J.os;subst eg;subst ed;subst eo;show wpAny _ _ _ _ _ _;refine wpAny_pure ?_;show wpAny _ _ (ret Value.none) _ _ _;refine wpAny_pure ⟨rfl,h',X,rfl,p,λb o e=>?_⟩;have:=lt_size e;exact J.heap b o (by rw[hz];simp only[mem_cons,not_mem_nil,or_false,not_or];exact⟨ne_of_lt this,ne_of_lt (lt_succ_of_lt this)⟩) (du (du e))
     .cases t with|error e=>exact a|ok q=>
         cases q with|ret r=>
           obtain⟨rfl,h',I,rfl,p,Z⟩:=a;repeat(any_goals(first|assumption|wp_step))
           exact h _ _ p Z|_=>exact a.elim
   |_=>exact hr.elim
end
theorem aZ:Slot "set_iterator" "__next__" "set_iterator.__next__":=.of (owner:="set_iterator") (n:="__next__") (by rw[typeLookup_type,builtinLookup_eq_fast];kernel_rfl) (by decide+kernel) (by decide+kernel) (by decide+kernel) (by first|exact .inl (by decide+kernel)|exact .inr (by decide+kernel)) (by rw[isSubtype_type];kernel_rfl)
theorem dI:entryFor table "set_iterator.__next__"=some Builtin.«set_iterator.__next__»:=entryFor_of_tree (by kernel_rfl)
theorem sU:Manifest.owners.lookup (String.ofList ['r','o','t','a','r','e','t','i','_','t','e','s'].reverse)=some Manifest.sig_set_iterator:=by kernel_rfl
theorem dX(a:Value):argsOk "set_iterator.__next__" ⟨[a],[]⟩:=by unfold argsOk;rw[signature?_of (id:="set_iterator.__next__") (n:=['_','_','t','x','e','n','_','_']) (o:=['r','o','t','a','r','e','t','i','_','t','e','s']) (by kernel_rfl) sU];kernel_rfl
theorem ur:entryFor table "set.__iter__"=some Builtin.«frozenset.__iter__»:=entryFor_alias (id':="frozenset.__iter__") (by kernel_rfl) rfl (by decide+kernel) (by kernel_rfl)
theorem kI:Slot "set_iterator" "__iter__" "set_iterator.__iter__":=.of (owner:="set_iterator") (n:="__iter__") (by rw[typeLookup_type,builtinLookup_eq_fast];kernel_rfl) (by decide+kernel) (by decide+kernel) (by decide+kernel) (by first|exact .inl (by decide+kernel)|exact .inr (by decide+kernel)) (by rw[isSubtype_type];kernel_rfl)
theorem rE(a:Value):argsOk "set_iterator.__iter__" ⟨[a],[]⟩:=by unfold argsOk;rw[signature?_of (id:="set_iterator.__iter__") (n:=['_','_','r','e','t','i','_','_']) (o:=['r','o','t','a','r','e','t','i','_','t','e','s']) (by kernel_rfl) sU];kernel_rfl
theorem pG:entryFor table "set_iterator.__iter__"=some Builtin.«dict_keyiterator.__iter__»:=entryFor_alias (id':="dict_keyiterator.__iter__") (by kernel_rfl) rfl (by decide+kernel) (by kernel_rfl)
theorem uR:typeLookup (.type "set") "__len__"=pure (some (.builtin "set.__len__")):=by rw[typeLookup_type,builtinLookup_eq_fast];kernel_rfl
inductive fL(h:Heap)(a:Addr)(es:Array (Int×Value))(ep:Nat)(t:SetTable):Prop where|mk(o:Obj)(ho:h.get? a=some o)(hx:o.ExactSet)(hd:o.data=.set es ep t)(hf:t.fits es.size=true)
noncomputable def slotAt(t:SetTable):Nat->Int|0=>0|i+1=>(t.place.getD i 0:Int)+1
inductive u0(h:Heap)(J a:Addr)(f:Value)(i n ep:Nat):Prop where|mk(o:Obj)(ho:h.get? J=some o)(hc:o.cls=.type "set_iterator")(hd:o.data=.fields #[f,.int i 0,.ref a,.int n 0,.int ep 0])
section
variable{prog:Program}{w:World}{A:Around}{E:Value->Shared->Prop}{s:Shared}{a J:Addr}{es:Array (Int×Value)}{ep i:Nat}{t:SetTable}{f:Value}
theorem fL.at'{h':Heap}(x:fL h a es ep t)(k:∀o,h.get? a=some o->h'.get? a=some o):fL h' a es ep t:=by obtain⟨o,ho,r1,b,e⟩:=x;exact⟨o,k o ho,r1,b,e⟩
theorem u0.at'{h':Heap}(x:u0 h J a f i n ep)(k:∀o,h.get? J=some o->h'.get? J=some o):u0 h' J a f i n ep:=by obtain⟨o,ho,r1,b⟩:=x;exact⟨o,k o ho,r1,b⟩
theorem u0.ty(x:u0 s.heap J a f i n ep):s.TypeIs (.ref J) "set_iterator":=by obtain⟨o,ho,r1,b⟩:=x;exact⟨o,ho,r1⟩
theorem fL.ty(x:fL s.heap a es ep t):s.TypeIs (.ref a) "set":=by obtain⟨o,ho,r1,b⟩:=x;exact⟨o,ho,r1.1⟩
theorem fV{Q:(Array (Int×Value)×Nat×SetTable)->Shared->Prop}(r:fL s.heap a es ep t)(h:Q (es,ep,t) s):wpAny (model prog w) A (setState a) Q E s:=by obtain⟨o,ho,_,hd,b⟩:=r;exact wpAny_setState_of ho hd b h
theorem iG{Q:Array (Int×Value)->Shared->Prop}(r:fL s.heap a es ep t)(h:Q es s):wpAny (model prog w) A (setEntries a) Q E s:=by obtain⟨o,ho,_,hd,b⟩:=r;exact wpAny_setEntries_of ho hd b h
theorem aaT{b:Type}{m:Sem b}{Q e:b->Shared->Prop}{M:Model}(h:wpAny M A m Q E s)(g:∀a s,Q a s->e a s):wpAny M A m e E s:=wpAny_mono h g λ_ _ x=>x
theorem sO{Q:PySem.Fin->Shared->Prop}(x:u0 s.heap J a f i es.size ep)(r:fL s.heap a es ep t){slot:Int}{j:Tok}(k:f=.int slot j)(h:wpAny (model prog w) A (setNext a slot.toNat i ep) (λo b=>(∀ x nx,o=some (x,nx)->wpAny (model prog w) A (setField (.ref J) 0 (rawInt nx)>>=λ_=>setField (.ref J) 1 (rawInt ((i:Int)+1))>>=λ_=>ret x) Q E b)/\(o=none->wpAny (model prog w) A (setField (.ref J) 2 .none>>=λ_=>newExc (.type "StopIteration") []>>=λe=>raiseNew e) Q E b)) E s):wpAny (model prog w) A (Builtin.«set_iterator.__next__» ⟨[.ref J],[]⟩) Q E s:=by obtain⟨o,ho,hc,hd⟩:=id x;subst k;unfold Builtin.«set_iterator.__next__»;refine wpAny_bind (wpAny_pure (wpAny_bind (wpAny_fieldsOf ho hd (wpAny_bind (iG r ?_)))));dsimp only;rw[if_neg (by simp),toNat_natCast,toNat_natCast];refine wpAny_bind (aaT h λo b g=>?_);cases o with|none=>exact g.2 rfl|some p=>obtain⟨y,nx⟩:=p;exact g.1 y nx rfl
theorem qG{Q:PySem.Fin->Shared->Prop}(x:u0 s.heap J a f i es.size ep)(r:fL s.heap a es ep t){T:Addr}(b:f=.ref T)(h1:s.heap.get? T=some ot)(g:ot.data=.seq (os.map λ(i:Nat)=>rawInt (i:Int)).toArray c)(h:(∀ j,os[i]?=some j->wpAny (model prog w) A (setNextDrawn a j ep) (λx k=>wpAny (model prog w) A (setField (.ref J) 1 (rawInt ((i:Int)+1))>>=λ_=>ret x) Q E k) E s)/\(os[i]?=none->wpAny (model prog w) A (setField (.ref J) 0 (rawInt 0)>>=λ_=>setField (.ref J) 2 .none>>=λ_=>newExc (.type "StopIteration") []>>=λe=>raiseNew e) Q E s)):wpAny (model prog w) A (Builtin.«set_iterator.__next__» ⟨[.ref J],[]⟩) Q E s:=by
 obtain⟨o,ho,hc,hd⟩:=id x;subst b;unfold Builtin.«set_iterator.__next__»;refine wpAny_bind (wpAny_pure (wpAny_bind (wpAny_fieldsOf ho hd (wpAny_bind (iG r ?_)))));dsimp only;rw[if_neg (by simp),toNat_natCast,toNat_natCast];refine wpAny_bind (wpAny_seqItems h1 g ?_);have e:(os.map λ(i:Nat)=>rawInt (i:Int)).toArray[i]?=os[i]?.map λ(j:Nat)=>rawInt (j:Int):=by simp
 dsimp only;rw[e];cases q:os[i]?with|none=>exact h.2 q|some j=>simp only[Option.map_some,rawInt,toNat_natCast];exact wpAny_bind (h.1 j q)
theorem qN{Q:PySem.Fin->Shared->Prop}{E:Value->Shared->Prop}(g:A.handled=none)(h:∀h' e,(∀b o,s.heap.get? b=some o->h'.get? b=some o)->(h'.get? e).map (·.cls)=some (.type "StopIteration")->E (.ref e) {s with heap:=h'}):wpAny (model prog w) A (newExc (.type "StopIteration") []>>=λe=>(raiseNew e:Sem PySem.Fin)) Q E s:=by refine wpAny_bind ?_;simp only[newExc,newTuple];refine wpAny_bind (wpAny_newObj_type ?_ (by size_fits));refine wpAny_bind (m:=firstArgMember _ _) (wpAny_of_eq (a:=Value.none) (by first|rfl|(simp only[firstArgMember];rfl)) (wpAny_newObj_type ?_ (by size_fits)));simp only[raiseNew];refine wpAny_bind (wpAny_handled ?_);rw[g];refine wpAny_bind (wpAny_pure (wpAny_throw (h _ _ (λb o e=>du (du e)) ?_)));rw[get?_push_size _ rfl];rfl
theorem Gk(ht:iR w=true){Q:Option (Value×Nat)->Shared->Prop}(r:fL s.heap a es ep t){slot:Nat}(h:Q (((pickOrder (w.params.setOrder a ep) es)[i]?).map λe=>(e.2,slot)) s):wpAny (model prog w) A (setNext a slot i ep) Q E s:=by unfold setNext;refine wpAny_bind (fV r ?_);unfold setsByText;refine wpAny_bind (wpAny_bind (wpAny_askSetting (wpAny_pure ?_)));dsimp only;rw[if_pos (show(model prog w).w.params.followText "set-order"=true from ht),if_neg (by simp)];unfold setWalk;refine wpAny_bind (wpAny_bind (fV r ?_));unfold setsByText;refine wpAny_bind (wpAny_bind (wpAny_askSetting (wpAny_pure ?_)));dsimp only;rw[if_pos (show(model prog w).w.params.followText "set-order"=true from ht)];refine wpAny_bind (wpAny_askSetting (wpAny_pure (wpAny_pure ?_)));exact h
theorem Eu(ht:iR w=false)(b:t.led=true)(e:(!t.plain&&decide (es.size>1))=false){Q:Option (Value×Nat)->Shared->Prop}(r:fL s.heap a es ep t){slot:Nat}(h:Q (match es[SetTable.below t.place slot]?,t.place[SetTable.below t.place slot]?with|some (_,x),some j=>some (x,j+1)|_,_=>none) s):wpAny (model prog w) A (setNext a slot i ep) Q E s:=by unfold setNext;refine wpAny_bind (fV r ?_);unfold setsByText;refine wpAny_bind (wpAny_bind (wpAny_askSetting (wpAny_pure ?_)));dsimp only;rw[if_neg (by rw[show(model prog w).w.params.followText "set-order"=false from ht];simp)];show wpAny _ _ (if(!t.plain&&decide (es.size>1))=true then _ else _) _ _ _;rw[if_neg (by rw[e];simp)];refine wpAny_bind ?_;show wpAny _ _ (if(!t.led&&!es.isEmpty)=true then _ else _) _ _ _;rw[if_neg (by rw[b];simp)];exact wpAny_pure (wpAny_pure h)
theorem R8{j:Nat}{e:Int×Value}(r:fL s.heap a es ep t)(he:es[j]?=some e)(h:Q e.2 s):wpAny (model prog w) A (setNextDrawn a j ep) Q E s:=by unfold setNextDrawn;refine wpAny_bind (fV r ?_);dsimp only;rw[if_neg (by simp),he];exact wpAny_pure h
theorem oH{v:Value}{j n:Nat}{o:Obj}{vs:Array Value}(ho:h.get? J=some o)(hc:o.cls=.type "set_iterator")(hd:o.data=.fields vs):∃b,(h.update J (Obj.mapFields (·.setIfInBounds j v))).get? J=some b/\b.cls=.type "set_iterator"/\b.data=.fields (vs.setIfInBounds j v):=⟨_,get?_update_self _ ho (Obj.isFreed_of_fields (Obj.data_mapFields hd _)),(Obj.cls_mapFields ..).trans hc,by rw[Obj.data_mapFields hd]⟩
theorem vJ{slot:Int}{nx:Nat}{v:Value}{Q:Option Value->Shared->Prop}(x:u0 s.heap J a (.int slot 0) i es.size ep)(r:fL s.heap a es ep t)(k:∀(A:Around)(E:Value->Shared->Prop)(Q:Option (Value×Nat)->Shared->Prop),Q (some (v,nx)) s->wpAny (model prog w) A (setNext a slot.toNat i ep) Q E s)(q:∀h',u0 h' J a (.int (nx:Int) 0) (i+1) es.size ep->SameBut J s.heap h'->Q (some v) {s with heap:=h'}):wpAny (model prog w) A (pyNext (.ref J)) Q E s:=by
 unfold pyNext;refine wpAny_bind (wpAny_attempt (wpAny_callSpecial?_slot (name:=Str.ofString "__next__") x.ty aZ (wpAny_call_entry aZ x.ty dI ?bd (dX _))));refine sO x r rfl (k _ _ _ ⟨λy C e=>?_,λe=>by cases e⟩);cases e;obtain⟨o,ho,hc,hd⟩:=x;obtain⟨G,b,l,g⟩:=oH (n:=0) (v:=rawInt (nx:Int)) (j:=0) ho hc hd;obtain⟨m,p,u,B⟩:=oH (n:=0) (v:=rawInt ((i:Int)+1)) (j:=1) b l g;refine wpAny_bind (wpAny_setField ho hd (by simp) (wpAny_bind (wpAny_setField b g (by simp) (wpAny_pure ⟨_,rfl,wpAny_pure (q _ ⟨m,p,u,?_⟩ ?_)⟩))));.rw[B];simp[rawInt]
 .exact(Heap.SameBut.update _ J _).trans (Heap.SameBut.update _ J _)
theorem zY{slot:Int}{Q:Option Value->Shared->Prop}(g:A.handled=none)(x:u0 s.heap J a (.int slot 0) i es.size ep)(r:fL s.heap a es ep t)(j:∀(A:Around)(E:Value->Shared->Prop)(Q:Option (Value×Nat)->Shared->Prop),Q none s->wpAny (model prog w) A (setNext a slot.toNat i ep) Q E s)(q:∀h',(∀b o,b≠J->s.heap.get? b=some o->h'.get? b=some o)->Q none {s with heap:=h'}):wpAny (model prog w) A (pyNext (.ref J)) Q E s:=by unfold pyNext;refine wpAny_bind (wpAny_attempt (wpAny_callSpecial?_slot (name:=Str.ofString "__next__") x.ty aZ (wpAny_call_entry aZ x.ty dI ?bd (dX _))));refine sO x r rfl (j _ _ _ ⟨λy p e=>(by cases e),λ_=>?_⟩);obtain⟨o,ho,hc,hd⟩:=x;refine wpAny_bind (wpAny_setField ho hd (by simp) (qN g λh' e k c=>?_));cases he:h'.get? e with|none=>rw[he]at c;cases c|some l=>rw[he]at c;refine wpAny_bind (wpAny_isInstance (T:="StopIteration") (b:=true) ⟨l,he,by simpa using c⟩ isSubtype_stop ?_);exact wpAny_pure (q _ λb o m e=>k b o ((get?_update_other _ _ (Ne.symm m)).trans e))
theorem Dv{T:Addr}{j:Nat}{v:Int×Value}{Q:Option Value->Shared->Prop}(x:u0 s.heap J a (.ref T) i es.size ep)(r:fL s.heap a es ep t)(h1:s.heap.get? T=some ot)(g:ot.data=.seq (os.map λ(i:Nat)=>rawInt (i:Int)).toArray c)(b:os[i]?=some j)(k:es[j]?=some v)(q:∀h',u0 h' J a (.ref T) (i+1) es.size ep->SameBut J s.heap h'->Q (some v.2) {s with heap:=h'}):wpAny (model prog w) A (pyNext (.ref J)) Q E s:=by unfold pyNext;refine wpAny_bind (wpAny_attempt (wpAny_callSpecial?_slot (name:=Str.ofString "__next__") x.ty aZ (wpAny_call_entry aZ x.ty dI ?bd (dX _))));refine qG x r rfl h1 g ⟨λy e=>?_,λe=>by rw[b]at e;cases e⟩;rw[b]at e;cases e;obtain⟨o,ho,hc,hd⟩:=x;obtain⟨l,m,p,u⟩:=oH (n:=0) (v:=rawInt ((i:Int)+1)) (j:=1) ho hc hd;refine R8 r k (wpAny_bind (wpAny_setField ho hd (by simp) (wpAny_pure ⟨_,rfl,wpAny_pure (q _ ⟨l,m,p,?_⟩ (Heap.SameBut.update _ J _))⟩)));rw[u];simp[rawInt]
theorem Gs{T:Addr}{Q:Option Value->Shared->Prop}(l:A.handled=none)(x:u0 s.heap J a (.ref T) i es.size ep)(r:fL s.heap a es ep t)(h1:s.heap.get? T=some ot)(m:ot.data=.seq (os.map λ(i:Nat)=>rawInt (i:Int)).toArray c)(p:os[i]?=none)(q:∀h',(∀b o,b≠J->s.heap.get? b=some o->h'.get? b=some o)->Q none {s with heap:=h'}):wpAny (model prog w) A (pyNext (.ref J)) Q E s:=by unfold pyNext;refine wpAny_bind (wpAny_attempt (wpAny_callSpecial?_slot (name:=Str.ofString "__next__") x.ty aZ (wpAny_call_entry aZ x.ty dI ?bd (dX _))));refine qG x r rfl h1 m ⟨λC e=>(by rw[p]at e;cases e),λ_=>?_⟩;obtain⟨o,ho,hc,hd⟩:=x;obtain⟨G,u,H,y⟩:=oH (n:=0) (v:=rawInt 0) (j:=0) ho hc hd;refine wpAny_bind (wpAny_setField ho hd (by simp) (wpAny_bind (wpAny_setField u y (by simp) (qN l λh' e k c=>?_))));cases he:h'.get? e with|none=>rw[he]at c;cases c|some B=>rw[he]at c;refine wpAny_bind (wpAny_isInstance (T:="StopIteration") (b:=true) ⟨B,he,by simpa using c⟩ isSubtype_stop ?_);exact wpAny_pure (q _ λb o g e=>k b o ((get?_update_other _ _ (Ne.symm g)).trans ((get?_update_other _ _ (Ne.symm g)).trans e)))
theorem pY(x:u0 s.heap J a f i n ep)(h:Q (.ref J) s):wpAny (model prog w) A (pyIter (.ref J)) Q E s:=by refine wpAny_pyIter_slot x.ty kI (wpAny_call_entry kI x.ty pG ?_ (rE _));show wpAny _ _ (ret (.ref J)) _ _ s;exact wpAny_pure ⟨_,rfl,"set_iterator",_,x.ty,aZ.lookup,h⟩
theorem p7(g:oA t.place.toList)(v:i<=t.place.size):SetTable.below t.place (slotAt t i).toNat=i:=by
 obtain⟨h1,l,m⟩:=below_at (j:=(slotAt t i).toNat) g;have o:∀k(h:k<t.place.size),k<i->t.place[k]<(slotAt t i).toNat:=λk h p=>by cases i with|zero=>omega|succ i=>
    have b:i<t.place.size:=by omega
    have e:slotAt t (i+1)=(t.place[i]:Int)+1:=by simp[slotAt,Array.getD,b]
    rw[e];by_cases q:k=i;.subst q;omega
    .have:=g k i (by simpa using h) (by simpa using b) (by omega);simp only[getElem_toList]at this;omega
 have dn:∀k(h:k<t.place.size),i<=k->(slotAt t i).toNat<=t.place[k]:=λk h p=>by cases i with|zero=>simp[slotAt]|succ i=>
    have b:i<t.place.size:=by omega
    have e:slotAt t (i+1)=(t.place[i]:Int)+1:=by simp[slotAt,Array.getD,b]
    rw[e];have:=g i k (by simpa using b) (by simpa using h) (by omega);simp only[getElem_toList]at this;omega
 rcases Nat.lt_trichotomy (SetTable.below t.place (slotAt t i).toNat) i with c|c|c;.have r:=o _ (by omega) c;have u:=m _ (by omega) (cQ);omega
 .exact c
 . have b:i<t.place.size:=by omega
   have r:=dn i b (cQ);have u:=l i b c;omega
theorem Qt(r:A.handled=none)(ht:iR w=true)(l:a≠J):Walks prog w A J [J,a] [J] es.size (λi v=>((pickOrder (w.params.setOrder a ep) es).toList.map (·.2))[i]?=some v) (λi h=>u0 h J a (.int 0 0) i es.size ep/\fL h a es ep t)where
 sub:=λb g=>by simp at g;simp[g]
 frame:=λ_ _ _ st m=>⟨st.1.at' λo e=>m J (by simp) o e,st.2.at' λo e=>m a (by simp) o e⟩;item:=λi s Q E u st j=>by
  have hz:(pickOrder (w.params.setOrder a ep) es).size=es.size:=by rw[<-length_toList,(lC _ es).length_eq,length_toList]
  have e:(pickOrder (w.params.setOrder a ep) es)[i]?=some ((pickOrder (w.params.setOrder a ep) es)[i]'(by omega)):=Array.getElem?_eq_getElem _;refine vJ (nx:=0) (v:=((pickOrder (w.params.setOrder a ep) es)[i]'(by omega)).2) st.1 st.2 (λA E Q q=>Gk ht st.2 (by rw[e];exact q)) λh' x p=>?_;exact j _ h' s.toks (by rw[getElem?_map,getElem?_toList,e];rfl) ⟨x,st.2.at' λo e=>(p.2 a l).trans e⟩ λb o g e=>(p.2 b λz=>g (by simp[z])).trans e
 done:=λs Q E st j=>by
  have hz:(pickOrder (w.params.setOrder a ep) es).size=es.size:=by rw[<-length_toList,(lC _ es).length_eq,length_toList]
  refine zY r st.1 st.2 (λA E Q q=>Gk ht st.2 (by rw[Array.getElem?_eq_none (by omega)];exact q)) λh' k=>?_;exact j h' s.toks λb o g e=>k b o (λz=>g (by simp[z])) e
 self:=λ_ _ _ _ st j=>pY st.1 j
theorem RB(G:A.handled=none)(ht:iR w=false)(r:t.led=true)(u:(!t.plain&&decide (es.size>1))=false)(g:oA t.place.toList)(hz:t.place.size=es.size)(p:a≠J):Walks prog w A J [J,a] [J] es.size (λi v=>(es.toList.map (·.2))[i]?=some v) (λi h=>u0 h J a (.int (slotAt t i) 0) i es.size ep/\fL h a es ep t)where
 sub:=λb j=>by simp at j;simp[j]
 frame:=λ_ _ _ st y=>⟨st.1.at' λo e=>y J (by simp) o e,st.2.at' λo e=>y a (by simp) o e⟩;item:=λi s Q E B st l=>by
  have j:=p7 g (i:=i) (by omega);have m:i<t.place.size:=by omega
  refine vJ (nx:=t.place[i]+1) (v:=es[i].2) st.1 st.2 (λA E Q q=>Eu ht r u st.2 (by rw[j,Array.getElem?_eq_getElem B,Array.getElem?_eq_getElem m];exact q)) λh' x C=>?_;refine l _ h' s.toks (by simp[B]) ⟨?_,st.2.at' λo e=>(C.2 a p).trans e⟩ λb o j e=>(C.2 b λz=>j (by simp[z])).trans e;have e:slotAt t (i+1)=((t.place[i]+1:Nat):Int):=by simp[slotAt,Array.getD,m]
  rw[e];exact x
 done:=λs Q E st l=>by have j:=p7 g (i:=es.size) (by omega);refine zY G st.1 st.2 (λA E Q q=>Eu ht r u st.2 (by rw[j,Array.getElem?_eq_none (cQ)];exact q)) λh' k=>?_;exact l h' s.toks λb o j e=>k b o (λz=>j (by simp[z])) e
 self:=λ_ _ _ _ st l=>pY st.1 l
theorem Qj{T:Addr}(r:ot.data=.seq (os.map λ(i:Nat)=>rawInt (i:Int)).toArray c)(y:A.handled=none)(ho:os.Perm (List.range es.size))(m:a≠J)(B:T≠J):Walks prog w A J [J,a,T] [J] es.size (λi v=>(os.map λj=>(es.getD j (0,.none)).2)[i]?=some v) (λi h=>u0 h J a (.ref T) i es.size ep/\fL h a es ep t/\h.get? T=some ot)where
 sub:=λb g=>by simp at g;simp[g]
 frame:=λ_ _ _ st p=>⟨st.1.at' λo e=>p J (by simp) o e,st.2.1.at' λo e=>p a (by simp) o e,p T (by simp) _ st.2.2⟩;item:=λi s Q E G st l=>by
  have C:os.length=es.size:=by rw[ho.length_eq,length_range]
  have e:os[i]?=some (os[i]'(by omega)):=getElem?_eq_getElem _;have u:os[i]'(by omega)<es.size:=List.mem_range.mp (ho.mem_iff.mp (getElem_mem _));refine Dv st.1 st.2.1 st.2.2 r e (Array.getElem?_eq_getElem u) λh' x q=>?_;exact l _ h' s.toks (by rw[getElem?_map,e];simp[Array.getD,u]) ⟨x,st.2.1.at' λo e=>(q.2 a m).trans e,(q.2 T B).trans st.2.2⟩ λb o g e=>(q.2 b λz=>g (by simp[z])).trans e
 done:=λs Q E st l=>by
  have C:os.length=es.size:=by rw[ho.length_eq,length_range]
  refine Gs y st.1 st.2.1 st.2.2 r (List.getElem?_eq_none (by omega)) λh' k=>?_;exact l h' s.toks λb o g e=>k b o (λz=>g (by simp[z])) e
 self:=λ_ _ _ _ st l=>pY st.1 l
end
section
variable{prog:Program}{w:World}{A:Around}{E:Value->Shared->Prop}{s:Shared}{a J:Addr}{es:Array (Int×Value)}{ep i:Nat}{t:SetTable}{f:Value}
theorem zc{src:Source}{Q:Nat->Shared->Prop}(b:n≠0)(h:∀i d,i<n->Q i {s with drawn:=d}):wpAny (model prog w) A (choose src n) Q E s:=λ_ _ _=>⟨b,h _ _ (Nat.mod_lt _ (Nat.pos_of_ne_zero b))⟩
theorem v9{g:Type}:∀(n:Nat)(xs:List g){s:Shared}{Q:List g->Shared->Prop},xs.length=n->(∀l d,l.Perm xs->Q l {s with drawn:=d})->wpAny (model prog w) A (drawOrder n xs) Q E s
 |0,xs,s,Q,b,h=>by unfold drawOrder;refine wpAny_pure ?_;have:=h [] s.drawn (by rw[List.length_eq_zero_iff.mp b]);cases s;exact this|n+1,[],s,Q,b,h=>by cases b|n+1,x::xs,s,Q,b,h=>by
   unfold drawOrder;refine wpAny_bind (zc (by simp) λi d j=>?_);rw[getElem?_eq_getElem j];refine wpAny_bind (v9 n ((x::xs).eraseIdx i) (by rw[List.length_eraseIdx,if_pos j];simpa using b) λl d' p=>wpAny_pure ?_);refine h _ d' ((p.cons _).trans ?_);rw[List.eraseIdx_eq_take_drop_succ];have e:x::xs=(x::xs).take i++(x::xs)[i]::(x::xs).drop (i+1):=by rw[List.getElem_cons_drop,List.take_append_drop]
   conv=>rhs;rw[e]
   exact List.perm_middle.symm
inductive M6(prog:Program)(w:World)(h h':Heap)(a:Addr)(es:Array (Int×Value))(J:Addr):Prop where|mk(fp:List Addr)(its:List Value)(St:Nat->Heap->Prop)(hp:its.Perm (es.toList.map (·.2)))(k:∀b o,h.get? b=some o->h'.get? b=some o)(W:∀A:Around,A.handled=none->Walks prog w A J fp [J] es.size (λi v=>its[i]?=some v) St)(st:St 0 h')(hJ:h.objs.size<=J)(hf:∀b∈fp,b=a\/h.objs.size<=b)
theorem rZ{f:Value}(r:fL s.heap a es ep t)(q:u0 (s.heap.push {cls:=.type "set_iterator",data:=.fields #[f,.int 0 0,.ref a,.int es.size 0,.int ep 0]}) s.heap.objs.size a f 0 es.size ep->Q (.ref s.heap.objs.size) {s with heap:=s.heap.push {cls:=.type "set_iterator",data:=.fields #[f,.int 0 0,.ref a,.int es.size 0,.int ep 0]}}):wpAny (model prog w) A (setEpoch a>>=λep=>newFields "set_iterator" [f,rawInt 0,Value.ref a,rawInt (es.size:Int),rawInt (ep:Int)]>>=λr=>ret r) (λfin b=>∃v,fin=Fin.done (Flow.ret v)/\∃e r,b.TypeIs v e/\typeLookup (Value.type e) (Str.ofString "__next__")=pure (some r)/\Q v b) E s:=by obtain⟨o,ho,_,hd,g⟩:=id r;refine wpAny_bind (wpAny_setEpoch_of ho hd g (wpAny_bind ?_));unfold newFields;refine wpAny_newObj_type (wpAny_pure ⟨_,rfl,"set_iterator",_,⟨_,get?_push_size _ rfl,rfl⟩,aZ.lookup,?_⟩);exact q ⟨_,get?_push_size _ rfl,rfl,rfl⟩
theorem Hj(r:fL s.heap a es ep t)(y:t.led=!iR w)(g:oA t.place.toList)(hz:es.size<=sizeLine)(q:∀h' J d,M6 prog w s.heap h' a es J->Q (.ref J) {s with heap:=h',drawn:=d}):wpAny (model prog w) A (pyIter (.ref a)) Q E s:=by
 have k:a<s.heap.objs.size:=by obtain⟨o,ho,_⟩:=r;exact lt_size ho
 have u:t.place.size=es.size:=by obtain⟨o,ho,_,_,m⟩:=r;simp only[fits,and_eq_true,beq_iff_eq]at m;exact m.1
 refine wpAny_pyIter_slot r.ty PySem.F.slot_set_iter (wpAny_call_entry PySem.F.slot_set_iter r.ty ur ?bd (PySem.F.args_set_iter_1 _));unfold Builtin.«frozenset.__iter__» Builtin.Frozenset.slot0 Builtin.Frozenset.addrOf;refine wpAny_bind (wpAny_bind (wpAny_pure (wpAny_pure ?_)));unfold Builtin.Frozenset.sizeOf;refine wpAny_bind (wpAny_bind (iG r (wpAny_pure ?_)));unfold setDrawn;refine wpAny_bind (wpAny_bind (fV r ?_));unfold setsByText;refine wpAny_bind (wpAny_bind (wpAny_askSetting (wpAny_pure (wpAny_pure ?_))));show wpAny _ _ (if(!iR w&&(!t.plain&&decide (es.size>1)))=true then _ else _) _ _ _;by_cases c:(!iR w&&(!t.plain&&decide (es.size>1)))=true
 . rw[if_pos c];refine wpAny_bind (v9 es.size _ length_range λos d v=>wpAny_bind (wpAny_newTuple ?_ (by rw[length_map,v.length_eq,length_range];exact hz)));refine rZ (es:=es) (s:={s with heap:=_,drawn:=d}) (r.at' λo e=>du e) λx=>?_;refine q _ _ d ⟨_,_,_,?_,λb o e=>du (du e),λA p=>Qj (T:=s.heap.objs.size) (c:=0) rfl p v ?_ ?_,⟨x,(r.at' λo e=>du (du e)),du (get?_push_size _ rfl)⟩,?_,?_⟩;.have:=v.map λj=>(es.getD j (0,Value.none)).2;refine this.trans (.of_eq ?_);refine List.ext_getElem (by simp) λi h1 C=>?_;simp at h1;simp[Array.getD,h1]
   .rw[size_push];exact ne_of_lt (lt_succ_of_lt k)
   .rw[size_push];exact ne_of_lt (Nat.lt_succ_self _)
   .rw[size_push];exact le_succ _
   . intro b l;rw[size_push]at l;simp only[mem_cons,not_mem_nil,or_false]at l;rcases l with rfl|rfl|rfl;.exact .inr (le_succ _)
     .exact .inl rfl
     .exact .inr (cQ)
 . rw[if_neg c];refine wpAny_bind (wpAny_pure (rZ (es:=es) r λx=>?_));have kp:∀b o,s.heap.get? b=some o->(s.heap.push {cls:=.type "set_iterator",data:=.fields #[rawInt 0,.int 0 0,.ref a,.int es.size 0,.int ep 0]}).get? b=some o:=λb o e=>du e;have B:=q (s.heap.push {cls:=.type "set_iterator",data:=.fields #[rawInt 0,.int 0 0,.ref a,.int es.size 0,.int ep 0]}) s.heap.objs.size s.drawn;refine(show M6 prog w s.heap (s.heap.push {cls:=.type "set_iterator",data:=.fields #[rawInt 0,.int 0 0,.ref a,.int es.size 0,.int ep 0]}) a es s.heap.objs.size->_ from λz=>by have:=B z;cases s;exact this) ?_;have m:∀b∈[s.heap.objs.size,a],b=a\/s.heap.objs.size<=b:=λb l=>by
    simp only[mem_cons,not_mem_nil,or_false]at l;rcases l with rfl|rfl;.exact .inr (cQ)
    .exact .inl rfl
   cases ht:iR w with|true=>exact⟨_,_,_,(lC (w.params.setOrder a ep) es).map (·.2),kp,λA p=>Qt p ht (ne_of_lt k),⟨x,r.at' λo e=>kp a o e⟩,cQ,m⟩|false=>rw[ht]at c y;exact⟨_,_,_,.refl _,kp,λA p=>RB p ht y (by simpa using c) g u (ne_of_lt k),⟨x,r.at' λo e=>kp a o e⟩,cQ,m⟩
theorem Gw(g:s.TypeIs (.ref a) "set"){Q:Bool->Shared->Prop}(h:Q false s):wpAny (model prog w) A (listLengthHint (.ref a)) Q E s:=by unfold listLengthHint;refine wpAny_bind (wpAny_specialOf g uR ?_);generalize e:("set.__len__":String)=j;wp_delta;rw[show splitId j=some ("set","__len__")from by subst e;decide+kernel];subst e;refine wpAny_bind (wpAny_isInstance (T:="set") (b:=true) g (by rw[isSubtype_type];kernel_rfl) ?_);refine wpAny_ite_split (λz=>absurd z (by decide)) (λ_=>wpAny_ite_split (λ_=>wpAny_bind (wpAny_typeOf g (wpAny_pure h))) (λz=>absurd (by decide+kernel) z))
theorem yH{b:Array Value}{e:List Value}(h:ItemsOf (λi v=>e[i]?=some v) b e.length):b.toList=e:=by refine List.ext_getElem? λi=>?_;rw[getElem?_toList];cases q:b[i]?with|none=>rw[Array.getElem?_eq_none_iff,h.1]at q;rw[List.getElem?_eq_none q]|some v=>exact(h.2 i v q).symm
theorem yx{R:Result->Shared->Prop}(Z:A.handled=none)(r:fL s.heap a es ep t)(hl:t.led=!iR w)(g:oA t.place.toList)(hz:es.size<=sizeLine)(S:Addr)(C:S≠a)(res:Value)(p:Nat)(hS:s.heap.get? S=some {cls:=.type "list",data:=.seq #[] p})(hR:∀h' U d G B,(∀b o,b≠S->s.heap.get? b=some o->h'.get? b=some o)->h'.get? S=some {cls:=.type "list",dict:=none,data:=.seq G B,slots:=#[]}->G.toList.Perm (es.toList.map (·.2))->R (.ok (.ret res)) {s with heap:=h',toks:=U,drawn:=d}):wpAny (model prog w) A.in1 (listExtendWith (.ref S) (.ref a) res) (λfin u=>match fin with|.done f=>R (.ok f) u|.again B=>B.quiet=true/\codeAny (model prog w) A B R u) (λe u=>R (.error e) u) s:=by
 unfold listExtendWith;refine wpAny_bind (wpAny_typeOf (T:="set") r.ty ?_);have h1:listSameRef (.ref S) (.ref a)=false:=by simp[listSameRef,C]
 have h2:(Value.type "set"==Value.type "list")=false:=by decide
 have h3:(Value.type "set"==Value.type "tuple")=false:=by decide
 simp only[h1,h2,h3,Bool.or_false,false_eq_true,if_false];refine wpAny_bind (Hj r hl g hz λh' J d x=>?_);obtain⟨fp,X,St,hp,k,W,st,hJ,hf⟩:=x;have H:X.length=es.size:=by rw[hp.length_eq,length_map,length_toList]
 have I:=lt_size hS;have L:S∉fp:=λz=>by
  rcases hf S z with e|e;.exact C e
  .exact absurd I (Nat.not_lt.mpr e)
 have ac:S≠J:=λe=>absurd I (Nat.not_lt.mpr (e▸hJ));have M:∀(h1:Heap)(l U:Nat),St 0 h1->(∀b o,b≠S->s.heap.get? b=some o->h1.get? b=some o)->h1.get? S=some {cls:=.type "list",data:=.seq #[] l}->codeAny (model prog w) A (.builtin "list.extend.loop" ⟨[.ref S,.ref J,res],[]⟩) R {s with heap:=h1,toks:=U,drawn:=d}:=by
  intro h1 l U hst hk j;refine codeAny_extend_loopS (W A.in1 Z).toS hz S L res es.size 0 _ #[] l rfl (vy) hst j (ItemsOf.nil _) λu N B hm Y q=>?_;rw[Moved.eq_with hm];rw[<-H]at q;refine hR u.heap u.toks d N B (λb o v e=>hm.heap b o (λz=>?_) (hk b o v e)) Y (by rw[yH q];exact hp);rcases mem_cons.mp z with e'|z;.exact v e'
  .rw[mem_singleton.mp z]at e;exact absurd (lt_size e) (Nat.not_lt.mpr hJ)
 have j:=k S _ hS;refine wpAny_bind (wpAny_holding (Gw (s:={s with heap:=h',drawn:=d}) (by obtain⟨o,ho,hx,_⟩:=r;exact⟨o,k _ _ ho,hx.1⟩) ?_));refine wpAny_ite_split (λ_=>?_) (λ_=>wpAny_pure ⟨plainId_quiet PySem.F.plain_extend_loop _,M _ p _ st (λb o _ e=>k b o e) j⟩);refine wpAny_bind (wpAny_rule (wpAny_bind ?_));show wpAny _ _ (updateSeq S (·.push .none)>>=λ_=>updateSeq S (·.pop)) _ _ _;refine wpAny_bind (wpAny_updateSeq j rfl ?_);have m:=get?_update_self (Obj.mapSeq (·.push Value.none)) j rfl;refine wpAny_updateSeq (hz:=by seq_fits) m rfl ?_;have y:=get?_update_self (Obj.mapSeq (·.pop)) m rfl;refine wpAny_pure ⟨plainId_quiet PySem.F.plain_extend_loop _,M _ _ _ ((W A Z).frame 0 _ _ st λb v o e=>?_) (λb o v e=>?_) y⟩;.have O:b≠S:=λh=>L (h▸v);exact(get?_update_other _ _ (Ne.symm O)).trans ((get?_update_other _ _ (Ne.symm O)).trans e)
 .exact(get?_update_other _ _ (Ne.symm v)).trans ((get?_update_other _ _ (Ne.symm v)).trans (k b o e))
theorem xn{Q:List Value->Shared->Prop}(y:A.handled=none)(r:fL s.heap a es ep t)(B:t.led=!iR w)(g:oA t.place.toList)(hz:es.size<=sizeLine)(C:∀h' m d j,(∀b o,s.heap.get? b=some o->h'.get? b=some o)->s.heap.objs.size<h'.objs.size->j.Perm (es.toList.map (·.2))->Q j {s with heap:=h',toks:=m,drawn:=d}):wpAny (model prog w) A (collect (.ref a)) Q E s:=by
 have p:a<s.heap.objs.size:=by obtain⟨o,ho,_⟩:=r;exact lt_size ho
 unfold collect;refine wpAny_bind (wpAny_runValue (codeAny_builtin PySem.F.entry_proto_collect ?_));rw[Around.under_plainId PySem.F.plain_proto_collect _];show wpAny _ A.in1 (newList []>>=λl=>again (.builtin "list.__iadd__" ⟨[l,.ref a],[]⟩)) _ _ s;refine wpAny_bind (wpAny_newObj_type (wpAny_pure ⟨plainId_quiet PySem.F.plain_list_iadd _,codeAny_builtin PySem.F.entry_list_iadd ?_⟩));rw[Around.under_plainId PySem.F.plain_list_iadd _];show wpAny _ A.in1 (listExtendWith (.ref s.heap.objs.size) (.ref a) (.ref s.heap.objs.size)) _ _ _;refine yx (A:=A) (R:=λr u=>match r with
  |.ok (.ret v)=>wpAny (model prog w) A (match v with
   |.ref a=>do let o<-load a match o.data with|.seq xs _=>pure xs.toList|_=>unsupported "internal:collect"
   |_=>unsupported "internal:collect") Q E u|.ok _=>False|.error e=>E e u) (s:={s with heap:=s.heap.push {cls:=.type "list",data:=.seq #[]}}) y (r.at' λo e=>du e) B g hz s.heap.objs.size (ne_of_gt p) _ 0 (get?_push_size _ rfl) (λh' m d q H G x k=>?_);exact wpAny_bind (wpAny_load x (wpAny_pure (C h' m d q.toList (λb o e=>G b o (ne_of_lt (lt_size e)) (du e)) (lt_size x) k)))
end
end HH
end
section
namespace HH
open PySem L2 PySem.Spec PyProof.Rows PySem.Calls PySem.W
theorem R1{X:Cx}{a:List (Addr×Obj)}{σ:L2.St}{H:Hp}{s:Shared}(I:L2.Inv X a σ H s)(d:Drawn):L2.Inv X a σ H {s with drawn:=d}:=⟨I.ok,I.os,I.bare,I.base,I.loc,I.cell,I.free,I.ik,I.pin,I.hok,I.len⟩
def sI(X:Cx)(l:Addr)(ks:List Int):Heap->Prop:=λh=>iY X.prog X.w (!iR X.w) h l ks
def aaR(X:Cx):List V->Hp->VK->Prop:=λxs H Q=>∃p ns,xs=[.ref p]/\(dg X.K H p (map V.int ns)\/dN X.K H p (map V.int ns))/\ns.length<64/\∀l,H l=none->Q (.ref l) (upd H l (.ext (sI X l (dW ns))))
def ab1(X:Cx):List V->Hp->VK->Prop:=λxs H Q=>∃l ks,xs=[.ref l]/\H l=some (.ext (sI X l ks))/\ks.length<64/\∀q,H q=none->Q (.ref q) (upd H q (.lst (((n8 (ks.map D.int)).map cU).map V.int)))
section
variable{X:Cx}{c:Call}{a:Expr}{pa:P}{pos:Pos}
theorem Xl(hc:X.calm=true):dH X (.type "set") (aaR X):=by
 rintro h s σ H xs l Q I r⟨p,ns,rfl,hq,m,k⟩;obtain⟨u,rfl,i⟩:=r.one;cases i;rcases hq with hq|hq;.obtain⟨b,e,f,hz⟩:=I.list hq;refine Gx (I.ok.hd hc) f.isList (intsAre_of e) (by unfold scanBound;omega) λh' g hs kp=>?_;refine⟨.ref s.heap.objs.size,_,I.laid (t':=g) (o:=.ext (sI X s.heap.objs.size (dW ns))) (h':=h') kp (cQ) ⟨hs,?_,λh1 j z k=>iY.at' z k⟩,rfl,k _ (I.hok.fresh (cQ))⟩;obtain⟨o,_,_,_,_,ho,_⟩:=hs;exact⟨o,ho⟩
 .obtain⟨b,e,f,hz⟩:=I.tuple hq;refine Dm (I.ok.hd hc) f (intsAre_of e) (by unfold scanBound;omega) λh' g hs kp=>?_;refine⟨.ref s.heap.objs.size,_,I.laid (t':=g) (o:=.ext (sI X s.heap.objs.size (dW ns))) (h':=h') kp (cQ) ⟨hs,?_,λh1 j z k=>iY.at' z k⟩,rfl,k _ (I.hok.fresh (cQ))⟩;obtain⟨o,_,_,_,_,ho,_⟩:=hs;exact⟨o,ho⟩
theorem qg{ks:List Int}(h:ks.length<=16777216):sortable (ks.map D.int)=true:=by simp only[sortable,length_map,and_eq_true,or_eq_true,decide_eq_true_eq];refine⟨h,.inl ?_⟩;rw[all_eq_true];intro x b;obtain⟨i,_,rfl⟩:=mem_map.mp b;rfl
theorem Ge{b ks:List Int}(h:b.length<=16777216)(p:b.Perm ks):n8 (b.map D.int)=n8 (ks.map D.int):=by have e:=qg (ks:=ks) (by rw[<-p.length_eq];exact h);exact qI e ((jG _).trans (p.map D.int)) (lg _)
theorem Lg(hc:X.calm=true):dH X (.builtin "sorted") (ab1 X):=by
 rintro x s σ H xs us Q I r⟨l,ks,rfl,G,hn,k⟩;obtain⟨u,rfl,J⟩:=r.one;cases J;obtain⟨⟨o,es,ep,t,i,ho,L,hd,y,M,he,B,C⟩,_,_⟩:=(show bI X.prog X.w H s.heap l (.ext (sI X l ks))from I.hok l _ G);have j:es.size=ks.length:=by rw[<-C.length_eq,<-gR B,length_map,length_toList]
 refine Calls.call_function_entry kind_sorted plain_sorted entry_sorted (args_sorted1 _) ?_;unfold Builtin.«sorted»;refine wpAny_bind (m:=checkCount "sorted" 1 1 _) (wpAny_pure ?_);refine wpAny_bind (xn (A:=X.A.in1) (I.ok.hd hc) ⟨o,ho,L,hd,M⟩ y.1 y.2.2 (by rw[j,sizeLine_eq];omega) λh1 n d f kp hsz N=>?_);obtain⟨js,p,O⟩:=mL N B;have q:=O.trans C;have U:f.length=ks.length:=by rw[gR p,q.length_eq]
 refine wpAny_bind (wpAny_newList ?_ (by rw[sizeLine_eq];omega));have hsz:=le_of_lt hsz;generalize E:(h1.push {cls:=.type "list",data:=.seq f.toArray}:Heap)=h;have g:h.get? h1.objs.size=some (seqObj "list" f.toArray 0):=by rw[<-E];exact get?_push_size _ rfl
 have W:∀b o,s.heap.get? b=some o->h.get? b=some o:=λb o e=>by rw[<-E];exact du (kp b o e)
 have v:∀b o,s.heap.get? b=some o->b≠h1.objs.size:=λb o e=>ne_of_lt (lt_size (kp b o e));show wpAny _ _ _ _ _ {s with heap:=h,toks:=n,drawn:=d};refine wpAny_bind (wpAny_holding (wpAny_call_entry slot_list_sort ⟨_,g,rfl⟩ entry_list_sort ?body (args_list_sort _)));case body=>
  refine rN (s:={s with heap:=h,toks:=n,drawn:=d}) g p (by omega) λh' Y out i Z i1 p2 l2 e=>⟨_,rfl,wpAny_pure ⟨_,rfl,?_⟩⟩;have kk:∀b o,s.heap.get? b=some o->h'.get? b=some o:=λb o z=>Z b o (v b o z) (W b o z);have e2:i.map V.int=((n8 (ks.map D.int)).map cU).map V.int:=by rw[<-Ge (by rw[q.length_eq];omega) q,p2];simp[cU,Function.comp_def]
  refine⟨.ref h1.objs.size,_,R1 (I.laid (t':=n) (o:=.lst (i.map V.int)) (h':=h') kk hsz ⟨by rw[length_map,l2,<-gR p,sizeLine_eq];omega,out,Y,fC i1,e⟩) d,rfl,?_⟩;rw[e2];exact k _ (I.hok.fresh hsz)
theorem JQ{x y:Str}{p' p2 s:Pos}(A:x="sorted")(hy:y="set")(hc:X.calm=true)(hg:Gl X x)(hm:X.mg x=none)(B:Gl X y)(C:X.mg y=none)(ha:SX X c a pa)(hs:starEach [a] X.env=(false,eval a X.env)::starEach [] X.env:=by rfl):SX X c (.Call (.Name x p') [.Call (.Name y p2) [a] [] s] [] pos) (.blt .sset [pa]):=by
 subst A;subst hy;obtain⟨ta,h1,t⟩:=ha.cV;refine⟨dZ (eO (Lg hc) hg hm boot_sorted (aX (gW (Xl hc) B C (by decide+kernel) (aX h1 cH hs) (he:=hs)) cH)) ?_,λi h=>by cases h⟩;rintro σ H Q⟨F,ρ,r,ac,g,e,k⟩;rw[HH.E15]at e;obtain⟨d,ρ1,e1,f⟩:=aa e;have zz:=aF f;clear f;obtain⟨f,e3⟩:=zz;subst e3;refine t g e1 λv m j st O=>?_;obtain⟨ds,f,p,ys,rfl,hq,U⟩:∃ds:List D,(if ds.length<64/\ds.all cR=true then some (R.own (n8 ((dW (ds.map cU)).map D.int)))else none)=some r/\∃p ys,v=.ref p/\(dg X.K j p ys\/dN X.K j p ys)/\aA X.K m ys ds:=by cases d with|lst ds=>obtain⟨p,ys,h1,E,t⟩:=O.lst st.gs.sub;exact⟨ds,f,p,ys,h1,.inl E,t⟩|tup ds=>obtain⟨p,ys,h1,E,t,_⟩:=O.tup st.gs.sub;exact⟨ds,f,p,ys,h1,.inr E,t⟩|_=>cases f
 obtain⟨⟨hn,ho⟩,he⟩:=aU f;subst he;rw[all_ints ho]at U;have ey:=ie U;subst ey;have G:(dW (ds.map cU)).length<64:=by have:=zu (ds.map cU) [];unfold dW;simp only[length_nil,length_map]at this;omega
 refine⟨p,ds.map cU,rfl,hq,by rw[length_map];exact hn,λl I=>⟨l,dW (ds.map cU),rfl,aD ..,G,λq J=>?_⟩⟩;have L:Ext m j m (upd j l (.ext (sI X l (dW (ds.map cU))))):=⟨aC.bF I,.refl _,λb o e=>aC.bF I b o (st.gs.sub b o e),λ_ a b=>absurd a b⟩;refine vR (K:=X.K) (F:=m) L.sub (ds:=n8 ((dW (ds.map cU)).map D.int)) ?_ J λw F2 M u rn=>?_;.have W:n8 ((dW (ds.map cU)).map D.int)=((n8 ((dW (ds.map cU)).map D.int)).map cU).map D.int:=all_ints (by rw[all_eq_true];intro x A;obtain⟨i,_,rfl⟩:=mem_map.mp ((jG _).mem_iff.mp A);rfl);rw[W];have:=jN (K:=X.K) (F:=m) ((n8 ((dW (ds.map cU)).map D.int)).map cU);rw[<-W]at this ⊢;exact this
 . have x3:Ext m j F2 M:=⟨L.hs.trans u.hs,u.fs,u.sub,λb n n'=>by
    have:=u.gr b n n';by_cases Y:b=l;.subst Y;rw[I];rfl
    .rw[ao Y]at this;exact this⟩;have N:cg X.K F2 M j w (.own (n8 ((dW (ds.map cU)).map D.int))):=by obtain⟨b,xs,q1,q2,q3,q4,Z⟩:=rn;refine⟨b,xs,q1,q2,q3,q4,?_⟩;cases z:j b with|none=>rfl|some o=>rw[L.hs b o z]at Z;cases Z
   exact k w F2 M (st.trans (x3.stp st.gs)) (.later st (N.pB st.gs))
end
end HH
end
noncomputable section
set_option maxHeartbeats 4000000
namespace T
open PySem L2 PySem.Spec PyProof.Rows HH
local macro_rules|`(term|⇑$n)=>`(P.con (.int $n))
local macro_rules|`(term|↑$n)=>`(P.var $n)
local macro_rules|`(tactic|ac_rfl)=>`(tactic|first|exact Or.inl rfl|exact Or.inr (Or.inl rfl))
set_option hygiene false
local macro_rules|`(term|↥($a,$b,$d))=>`(m6 Pg w K mg base IK (k+1) f fd $a (De K $b (λargs=>enter c n $d args)))
local macro_rules|`(term|↥($a,$b,$d,0))=>`(aV Pg w K mg base k c $a $b $d)
set_option hygiene true
local macro_rules|`(term|⇑($x))=>`(λ_ _ _ _ _=>$x)
local macro_rules|`(term|nofun)=>`(⟨rfl,rfl,rfl,by decide+kernel,rfl,by decide+kernel,by decide+kernel⟩)
local macro_rules|`(tactic|exists$e)=>`(tactic|with_reducible refine$e)
local macro_rules|`(tactic|lia)=>`(tactic|with_reducible refine aQ ?_ ?_)
set_option hygiene false
local macro_rules|`(tactic|exists$i,$e)=>`(tactic|((with_reducible refine xV (i:=$i) ?_ ?_ ?_ ?_ ?_ ?_);exact nd;exact rfl;exact oi;rotate_left;rfl;exact oi;exact$e))
local macro_rules|`(tactic|exists$i,$e,0)=>`(tactic|((with_reducible refine J9 (i:=$i) ?_ ?_ ?_ ?_ ?_ ?_ ?_ ?_ ?_);exact PassesOwn.never;exact hc;exact nd;exact rfl;exact oi;exact$e;rotate_left;(· intro _;rfl);exact oi))
local macro_rules|`(tactic|exists$a,$b,0,0)=>`(tactic|(refine W4 $a $b rfl rfl λcdv A outer s H E hr=>?_;have nd:=($b).nd))
local macro_rules|`(tactic|exists(),$e)=>`(tactic|((with_reducible refine S9 ?_);exact$e))
set_option hygiene true
local macro_rules|`(term|‹$l›)=>`((show(($l):List Str).Nodup by decide+kernel))
theorem hc:true=true:=rfl
theorem oi{b:Type}{a:b}{p:Prop}:a=a\/p:=.inl rfl
theorem bJ{X:Cx}{c:Call}{a:Expr}{es:List Expr}{b:P}{ps:List P}(e:SX X c a b)(hr:SG X c es ps)(h:nst a=true):SG X c (a::es) (b::ps):=Kw e hr (aJ h)
theorem gD{X:Cx}{c:Call}{a:Expr}{es:List Expr}{b:P}{ps:List P}(e:SX X c a b)(hr:SA X c es ps)(h:nst a=true):SA X c (a::es) (b::ps):=Af e hr (aJ h)
variable{Pg:Program}{w:World}{K:PySem.W.Frag}{mg:Str->Option Value}{base:Heap}{f:Addr}{fd:FuncData}{k n:Nat}{c:Call}{cl:Nat->Addr}
noncomputable def top(i:Nat):Stmt:=PySem.Challenge.pw_hourhaul_k24_fullest_told.main.body.getD i (.Pass ⟨0,0,0,0⟩)
abbrev s0:Stmt:=top 1
noncomputable def b0:List S:=[.asg 2 (.idx (.idx ↑0 ⇑1) (.idx ↑1 ⇑0)),.ret (.Oz (.idx ↑1 ⇑1) (.tup [.idx ↑2 ⇑0,.idx ↑2 ⇑1]) (.tup [.idx ↑2 ⇑1,.idx ↑2 ⇑0]))]
def f0:Fd:=⟨2,3,b0⟩
theorem sc0:aK ["net","step","way"] ["net","step"] (aB s0):=nofun
include cl in
theorem d0(a:jO K "step_places" "step_places" s0 f fd):↥(["net","step"],2,f0):=by
 exists a,sc0,0,0;refine aQ ?_ ?_;.exists 2,aq (aq (sv 0) aj) (aq (sv 1) aj)
 lia;.exists(),ug (eX (aq (sv 1) aj)) (dq (gD (aq (sv 2) aj) (gD (aq (sv 2) aj) bG rfl) rfl)) (dq (gD (aq (sv 2) aj) (gD (aq (sv 2) aj) bG rfl) rfl))
 exact au
abbrev s1:Stmt:=top 2
noncomputable def b1:List S:=[.asg 2 (.idx (.idx (.idx ↑0 ⇑1) (.idx ↑1 ⇑0)) ⇑3),.ret (.Oz (.idx ↑1 ⇑1) ↑2 (.neg ↑2))]
def f1:Fd:=⟨2,3,b1⟩
theorem sc1:aK ["net","step","hours"] ["net","step"] (aB s1):=nofun
include cl in
theorem d1(a:jO K "step_hours" "step_hours" s1 f fd):↥(["net","step"],2,f1):=by
 exists a,sc1,0,0;refine aQ ?_ ?_;.exists 2,aq (aq (aq (sv 0) aj) (aq (sv 1) aj)) aj
 lia;.exists(),ug (eX (aq (sv 1) aj)) (sv 2) (uB (sv 2))
 exact au
abbrev s2:Stmt:=top 3
noncomputable def b2:List S:=[.asg 3 (.idx ↑1 (.idx ↑2 ⇑0)),.ret (.Oz (.idx ↑2 ⇑1) (.bin .sub (.idx (.idx (.idx ↑0 ⇑1) (.idx ↑2 ⇑0)) ⇑2) ↑3) ↑3)]
def f2:Fd:=⟨3,4,b2⟩
theorem sc2:aK ["net","stream","step","loads"] ["net","stream","step"] (aB s2):=nofun
include cl in
theorem d2(a:jO K "step_room" "step_room" s2 f fd):↥(["net","stream","step"],3,f2):=by
 exists a,sc2,0,0;refine aQ ?_ ?_;.exists 3,aq (sv 1) (aq (sv 2) aj)
 lia;.exists(),ug (eX (aq (sv 2) aj)) (aG dh (aq (aq (aq (sv 0) aj) (aq (sv 2) aj)) aj) (sv 3)) (sv 3)
 exact au
abbrev s3:Stmt:=top 4
noncomputable def b3:List S:=[.Je 2 (.xF ⇑0 (.idx ↑0 ⇑0)) 1 [5] true (.lst []),.DW (.xF ⇑0 (.blt .len [.idx ↑0 ⇑1])) [3] true [.DW (.tup [.tup [↑3,.con (.bl true)],.tup [↑3,.con (.bl false)]]) [4] true [.ifs (.cmp .gt (.call 2 [↑0,↑1,↑4]) ⇑0) [.Jf 2 (.idx (.call 0 [↑0,↑4]) ⇑0) ↑4] []]],.cG 2,.ret ↑2]
def f3:Fd:=⟨2,5,b3⟩
theorem sc3:aK ["net","stream","steps","number","step"] ["net","stream"] (aB s3):=nofun
include cl in
theorem d3(a:jO K "open_steps" "open_steps" s3 f fd)(cO:mg "len"=none)(bU:mg "range"=none)(b:↥(0,"step_places",2,0))(e:↥(2,"step_room",3,0)):↥(["net","stream"],2,f3):=by exists a,sc3,0,0;exact(by(refine J6 (i:=2) (N':=["net","stream","steps","number","step","place"]) (g:=fj 5) ?_ ?_ ?_ ?_ ?_ ?_ ?_ ?_ ?_ ?_ ?_ ?_ ?_ ?_);exact hc;exact nd;exact rfl;exact oi;exact KD rfl (by rfl);exact lX rfl (by rfl) bU (aq (sv 0) aj);exact ⇑(aR (i:=5) ‹["net","stream","steps","number","step","place"]› rfl (Or.inl rfl) (Or.inr rfl));exact fM (cQ);exact ⇑(iK);exact ⇑((gH bG));(· exists Hy ?_ ?_;(· exists Bv (g:=fj 3) ?_ ?_ ?_ ?_ ?_ ?_ ?_;exact PassesOwn.never;exact hc;(· exists Ir ?_ ?_ ?_ ?_ ?_;exact rfl;rfl;exact bU;exact iC rfl (by rfl) cO (aq (sv 0) aj);rfl);exact aR (i:=3) nd rfl oi oi;(· rw[mO];exact uD 3);(· exists qp ?_ ?_;(· exists Bv (g:=fj 4) ?_ ?_ ?_ ?_ ?_ ?_ ?_;exact PassesOwn.never;exact hc;exact Lk (dq (gD (dq (gD (sv 3) (gD gF bG rfl) rfl)) (gD (dq (gD (sv 3) (gD gF bG rfl) rfl)) bG rfl) rfl));exact aR (i:=4) nd rfl oi oi;(· rw[mO];exact uD 4);(· exists qp ?_ ?_;(· exists QF ?_ ?_ ?_;exact bQ pq (gh e hr (bJ (sv 0) (bJ (sv 1) (bJ (sv 4) aH rfl) rfl) rfl)) aj (bM _);(· exists qp ?_ ?_;(· exists Fw (k:=2) ?_ ?_ ?_ ?_ ?_ ?_ ?_ ?_ ?_ ?_ ?_ ?_;exact rfl;(· first|exact Or.inl rfl|exact Or.inr (Or.inl rfl));exact aq (gh b hr (bJ (sv 0) (bJ (sv 4) aH rfl) rfl)) aj;exact sv 4;(· intro _ _;rfl);rfl;rfl;rfl;rfl;rfl;rfl;rfl);exact oK);exact oK);exact oK);(· intro _;rfl));exact oK);(· intro _;rfl));(· exists KC ?_;(· lia;(· exists(),sv 2);exact au)));rfl;(· intro _;rfl);exact oi)
abbrev s4:Stmt:=top 5
noncomputable def b4:List S:=[.asg 3 (.call 3 [↑0,↑1]),.DX 4,.jH (.blt .keys [↑2]) [5] true [.gq 4 ↑5 (.tup [.bin .DQ ↑2 ↑5,⇑0,.con .non])],.asg 6 (.blt .Vg [↑2]),.whl (.cmp .gt (.blt .len [↑6]) ⇑0) [.DX 7,.jH ↑6 [5] true [.jH (.idx ↑3 ↑5) [8] true [.asg 9 (.idx (.call 0 [↑0,↑8]) ⇑1),.asg 10 (.tup [.bin .add (.idx (.OD 4 ↑5) ⇑0) (.call 1 [↑0,↑8]),.bin .add (.idx (.OD 4 ↑5) ⇑1) ⇑1]),.ifs (.or (.OJ 4 ↑9 true) (.cmp .lt ↑10 (.slice (.OD 4 ↑9) (.con .non) ⇑2))) [.gq 4 ↑9 (.bin .add ↑10 (.tup [↑8])),.gq 7 ↑9 (.con (.bl true))] []]],.asg 6 (.blt .Vg [.vw 7])],.ret ↑4]
def f4:Fd:=⟨3,11,b4⟩
theorem sc4:aK ["net","stream","begun","steps","come","place","row","changed","step","to","found"] ["net","stream","begun"] (aB s4):=nofun
include cl in
theorem d4(a:jO K "shortest_come" "shortest_come" s4 f fd)(cO:mg "len"=none)(cP:mg "list"=none)(b:↥(3,"open_steps",2,0))(e:↥(1,"step_hours",2,0))(g:↥(0,"step_places",2,0)):↥(["net","stream","begun"],3,f4):=by
 exists a,sc4,0,0;refine aQ ?_ ?_;.exists 3,gh b hr (bJ (sv 0) (bJ (sv 1) aH rfl) rfl)
 lia;.exact(BK (i:=4) nd rfl oi (by rfl) (Or.inl rfl))
 lia;.exists 5,Lj (sv 2),0;(· lia;exact uL (i:=4) (bh hr) rfl (by ac_rfl) (sv 5) (dq (gD (tQ (bh hr) (sv 2) (sv 5) (λ_ _=>rfl)) (gD aj (gD Ig bG rfl) rfl) rfl)) (by rfl);exact au)
 lia;.exists 6,Fj rfl hc (by rfl) cP (sv 2)
 lia;.exact(yf PassesOwn.never (bQ pq (iC rfl (by rfl) cO (sv 6)) aj (bM _)) (by lia;exact BK (i:=7) nd rfl oi (by rfl) (Or.inl rfl);(· lia;(· exists 5,eY (sv 6),0;(· lia;(· exists 8,eY (aq (sv 3) (sv 5)),0;(· lia;(· exists 9,aq (gh g hr (bJ (sv 0) (bJ (sv 8) aH rfl) rfl)) aj);(· lia;(· exists 10,dq (gD (aG bH (aq (yW (i:=4) (bh hr) rfl (by ac_rfl) (sv 5) (λ_ _=>rfl)) aj) (gh e hr (bJ (sv 0) (bJ (sv 8) aH rfl) rfl))) (gD (aG bH (aq (yW (i:=4) (bh hr) rfl (by ac_rfl) (sv 5) (λ_ _=>rfl)) aj) aj) bG rfl) rfl));(· lia;(· exists dR ?_ ?_ ?_;exact SW.st (qw (R4 (i:=4) (Or.inr ⟨rfl,rfl⟩) (bh hr) rfl (by ac_rfl) (sv 9) (by with_unfolding_all rfl)) (mX (bQ (zg (bh hr)) (sv 10) (v7 (yW (i:=4) (bh hr) rfl (by ac_rfl) (sv 9) (λ_ _=>rfl)) Av (Ba aj)) (bM _))));(· lia;exact uL (i:=4) (bh hr) rfl (by ac_rfl) (sv 9) (aG bH (sv 10) (dq (gD (sv 8) bG rfl))) (by rfl);(· lia;exact uL (i:=7) (bh hr) rfl (by ac_rfl) (sv 9) gF (by rfl);exact au));exact au);exact au))));exact au));(· lia;(· exists 6,Fj rfl hc (by rfl) cP (Vx (i:=7) rfl (by ac_rfl)));exact au))))
 lia;.exists(),sv 4
 exact au
abbrev s5:Stmt:=top 6
noncomputable def b5:List S:=[.asg 3 (.lst []),.asg 4 ↑2,.whl (.cmp .MK (.idx (.bin .DQ ↑1 ↑4) ⇑2) (.con .non)) [.asg 5 (.idx (.bin .DQ ↑1 ↑4) ⇑2),.app 3 ↑5,.asg 4 (.idx (.call 0 [↑0,↑5]) ⇑0)],.ret (.blt .rvT [↑3])]
def f5:Fd:=⟨3,6,b5⟩
theorem sc5:aK ["net","come","place","steps","here","step"] ["net","come","place"] (aB s5):=nofun
include cl in
theorem d5(a:jO K "steps_to" "steps_to" s5 f fd)(lG:mg "reversed"=none)(bO:mg "tuple"=none)(b:↥(0,"step_places",2,0)):↥(["net","come","place"],3,f5):=by
 exists a,sc5,0,0;refine aQ ?_ ?_;.exists 3,gH bG
 lia;.exists 4,sv 2
 lia;.exact(yf PassesOwn.never (bQ Ka (aq (tQ (bh hr) (sv 1) (sv 4) (λ_ _=>rfl)) aj) Ig (bM _)) (by lia;(· exists 5,aq (tQ (bh hr) (sv 1) (sv 4) (λ_ _=>rfl)) aj);(· lia;exact jA (k:=3) rfl (by ac_rfl) (sv 5);(· lia;(· exists 4,aq (gh b hr (bJ (sv 0) (bJ (sv 5) aH rfl) rfl)) aj);exact au))))
 lia;.exists(),zA rfl rfl hc (by rfl) bO (by rfl) lG (sv 3)
 exact au
abbrev s6:Stmt:=top 7
noncomputable def b6:List S:=[.asg 3 (.blt .list [↑0]),.jH ↑1 [4,5] false [.Jd 3 ↑4 false (.Oz ↑5 ↑2 (.neg ↑2))],.ret ↑3]
def f6:Fd:=⟨3,6,b6⟩
theorem sc6:aK ["stream","steps","loads","changed","number","forth"] ["stream","steps","loads"] (aB s6):=nofun
include cl in
theorem d6(a:jO K "stream_with" "stream_with" s6 f fd)(cP:mg "list"=none):↥(["stream","steps","loads"],3,f6):=by
 exists a,sc6,0,0;refine aQ ?_ ?_;.exists 3,Bm rfl (by rfl) cP (sv 0)
 lia;.exact(uJ PassesOwn.never hc (eY (sv 1)) (mW hc (bL (aR (i:=4) nd rfl oi oi) (bL (aR (i:=5) nd rfl oi oi) jK))) (uy rfl (di _ _ (di _ _ oF 5) 4)) (by lia;exact JX (k:=3) (sub:=false) Kl rfl (by ac_rfl) (sv 4) (ug (eX (sv 5)) (sv 2) (uB (sv 2)));exact au))
 lia;.exists(),sv 3
 exact au
abbrev s7:Stmt:=top 8
noncomputable def b7:List S:=[.asg 1 (.bin .sub (.idx ↑0 ⇑0) ⇑1),.asg 2 (.bin .mul (.lst [⇑0]) (.blt .len [.idx ↑0 ⇑1])),.asg 3 (.lst []),.asg 4 (.call 4 [↑0,↑2,.xG 0 0]),.whl (.bin .din ↑1 ↑4) [.asg 5 (.call 5 [↑0,↑4,↑1]),.asg 6 (.blt .Jc [.comp ↑5 1 [7] true none (.call 2 [↑0,↑2,↑7])]),.app 3 (.tup [↑5,↑6]),.asg 2 (.call 6 [↑2,↑5,↑6]),.asg 4 (.call 4 [↑0,↑2,.xG 0 0])],.ret ↑3]
def f7:Fd:=⟨1,7,b7⟩
theorem sc7:aK ["net","end","stream","chains","come","steps","loads"] ["net"] (aB s7):=nofun
include cl in
theorem d7(b:jO K "chains_to_end" "chains_to_end" s7 f fd)(cO:mg "len"=none)(Jm:mg "min"=none)(a:↥(4,"shortest_come",3,0))(e:↥(2,"step_room",3,0))(g:↥(5,"steps_to",3,0))(h:↥(6,"stream_with",3,0)):↥(["net"],1,f7):=by
 exists b,sc7,0,0;refine aQ ?_ ?_;.exists 1,aG dh (aq (sv 0) aj) aj
 lia;.exists xV (i:=2) ?_ ?_ ?_ ?_ ?_ ?_;exact nd;exact rfl;exact Or.inr rfl;rotate_left;rfl;exact oi;exact aG jM (gH (gD aj bG rfl)) (iC rfl (by rfl) cO (aq (sv 0) aj))
 lia;.exists 3,gH bG
 lia;.exists 4,gh a hr (bJ (sv 0) (bJ (sv 2) (bJ tX aH rfl) rfl) rfl)
 lia;.exact(yf PassesOwn.never (PJ (bh hr) (sv 1) (sv 4) (by with_unfolding_all rfl)) (by lia;(· exists 5,gh g hr (bJ (sv 0) (bJ (sv 4) (bJ (sv 1) aH rfl) rfl) rfl));(· lia;(· exists 6,J1 rfl hc (by rfl) Jm (gC (N':=["net","end","stream","chains","come","steps","loads","step"]) hc (KD rfl (by rfl)) (eY (sv 5)) ⇑(aR (i:=7) ‹["net","end","stream","chains","come","steps","loads","step"]› rfl (Or.inl rfl) (Or.inr rfl)) (fM (cQ)) ⇑(iK) ⇑((gh e hr (bJ (sv 0) (bJ (sv 2) (bJ (sv 7) aH rfl) rfl) rfl)))));(· lia;exact jA (k:=3) rfl (by ac_rfl) (dq (gD (sv 5) (gD (sv 6) bG rfl) rfl));(· lia;(· exists xV (i:=2) ?_ ?_ ?_ ?_ ?_ ?_;exact nd;exact rfl;exact Or.inr rfl;rotate_left;rfl;exact oi;exact gh h hr (bJ (sv 2) (bJ (sv 5) (bJ (sv 6) aH rfl) rfl) rfl));(· lia;(· exists 4,gh a hr (bJ (sv 0) (bJ (sv 2) (bJ tX aH rfl) rfl) rfl));exact au))))))
 lia;.exists(),sv 3
 exact au
abbrev s8:Stmt:=top 10
noncomputable def b8:List S:=[.ret (.comp (.Vh (.idx ↑0 ⇑1)) 2 [2,3] false (some (.cmp .eq (.idx ↑3 ⇑0) ↑1)) ↑2)]
def f8:Fd:=⟨2,2,b8⟩
theorem sc8:aK ["net","place"] ["net","place"] (aB s8):=nofun
include cl in
theorem d8(a:jO K "ways_out" "ways_out" s8 f fd)(dC:mg "enumerate"=none):↥(["net","place"],2,f8):=by
 exists a,sc8,0,0;refine aQ ?_ ?_;.exists(),gC (N':=["net","place","number","way"]) hc (KD rfl (by rfl)) (Fo rfl (by rfl) dC (aq (sv 0) aj)) ⇑(mW hc (bL (aR (i:=2) ‹["net","place","number","way"]› rfl (Or.inl rfl) (Or.inr rfl)) (bL (aR (i:=3) ‹["net","place","number","way"]› rfl (Or.inl rfl) (Or.inr rfl)) jK))) (zP rfl (mj (show 2<=2 by decide) (mj (show 2<=3 by decide) zZ))) ⇑(Am (bQ (jx (bh hr)) (aq (sv 3) aj) (sv 1) (bM _))) ⇑((sv 2))
 exact au
abbrev s9:Stmt:=top 11
noncomputable def b9:List S:=[.ret (.comp (.Vh (.idx ↑0 ⇑1)) 2 [2,3] false (some (.cmp .eq (.idx ↑3 ⇑1) ↑1)) ↑2)]
def f9:Fd:=⟨2,2,b9⟩
theorem sc9:aK ["net","place"] ["net","place"] (aB s9):=nofun
include cl in
theorem d9(a:jO K "ways_in" "ways_in" s9 f fd)(dC:mg "enumerate"=none):↥(["net","place"],2,f9):=by
 exists a,sc9,0,0;refine aQ ?_ ?_;.exists(),gC (N':=["net","place","number","way"]) hc (KD rfl (by rfl)) (Fo rfl (by rfl) dC (aq (sv 0) aj)) ⇑(mW hc (bL (aR (i:=2) ‹["net","place","number","way"]› rfl (Or.inl rfl) (Or.inr rfl)) (bL (aR (i:=3) ‹["net","place","number","way"]› rfl (Or.inl rfl) (Or.inr rfl)) jK))) (zP rfl (mj (show 2<=2 by decide) (mj (show 2<=3 by decide) zZ))) ⇑(Am (bQ (jx (bh hr)) (aq (sv 3) aj) (sv 1) (bM _))) ⇑((sv 2))
 exact au
abbrev qX:Stmt:=top 13
noncomputable def b10:List S:=[.asg 3 (.blt .sum [.comp (.call 9 [↑0,↑2]) 1 [4] true none (.idx ↑1 ↑4)]),.ret (.bin .sub ↑3 (.blt .sum [.comp (.call 8 [↑0,↑2]) 1 [4] true none (.idx ↑1 ↑4)]))]
def U4:Fd:=⟨3,4,b10⟩
theorem abt:aK ["net","stream","place","come"] ["net","stream","place"] (aB qX):=nofun
include cl in
theorem d10(a:jO K "stays_at" "stays_at" qX f fd)(Ca:mg "sum"=none)(b:↥(9,"ways_in",2,0))(e:↥(8,"ways_out",2,0)):↥(["net","stream","place"],3,U4):=by
 exists a,abt,0,0;refine aQ ?_ ?_;.exists 3,Il rfl hc (by rfl) Ca (gC (N':=["net","stream","place","come","number"]) hc (KD rfl (by rfl)) (eY (gh b hr (bJ (sv 0) (bJ (sv 2) aH rfl) rfl))) ⇑(aR (i:=4) ‹["net","stream","place","come","number"]› rfl (Or.inl rfl) (Or.inr rfl)) (fM (cQ)) ⇑(iK) ⇑((aq (sv 1) (sv 4))))
 lia;.exists(),aG dh (sv 3) (Il rfl hc (by rfl) Ca (gC (N':=["net","stream","place","come","number"]) hc (KD rfl (by rfl)) (eY (gh e hr (bJ (sv 0) (bJ (sv 2) aH rfl) rfl))) ⇑(aR (i:=4) ‹["net","stream","place","come","number"]› rfl (Or.inl rfl) (Or.inr rfl)) (fM (cQ)) ⇑(iK) ⇑((aq (sv 1) (sv 4)))))
 exact au
abbrev Yu:Stmt:=top 14
noncomputable def b11:List S:=[.ret (.neg (.call 10 [↑0,↑1,⇑0]))]
def f11:Fd:=⟨2,2,b11⟩
theorem abi:aK ["net","stream"] ["net","stream"] (aB Yu):=nofun
include cl in
theorem d11(a:jO K "stream_rate" "stream_rate" Yu f fd)(b:↥(10,"stays_at",3,0)):↥(["net","stream"],2,f11):=by
 exists a,abi,0,0;refine aQ ?_ ?_;.exists(),uB (gh b hr (bJ (sv 0) (bJ (sv 1) (bJ aj aH rfl) rfl) rfl))
 exact au
abbrev s12:Stmt:=top 16
noncomputable def b12:List S:=[.ret (.tup [.idx ↑0 ⇑0,.blt .tuple [.comp (.idx ↑0 ⇑1) 1 [1] true none (.tup [.idx ↑1 ⇑0,.idx ↑1 ⇑1,.idx ↑1 ⇑2,⇑0])]])]
def Zk:Fd:=⟨1,1,b12⟩
theorem aaV:aK ["net"] ["net"] (aB s12):=nofun
include cl in
theorem d12(a:jO K "hourless_net" "hourless_net" s12 f fd)(bO:mg "tuple"=none):↥(["net"],1,Zk):=by
 exists a,aaV,0,0;refine aQ ?_ ?_;.exists(),dq (gD (aq (sv 0) aj) (gD (pO rfl (by rfl) bO (gC (N':=["net","way"]) hc (KD rfl (by rfl)) (eY (aq (sv 0) aj)) ⇑(aR (i:=1) ‹["net","way"]› rfl (Or.inl rfl) (Or.inr rfl)) (fM (cQ)) ⇑(iK) ⇑((dq (gD (aq (sv 1) aj) (gD (aq (sv 1) aj) (gD (aq (sv 1) aj) (gD aj bG rfl) rfl) rfl) rfl))))) bG rfl) rfl)
 exact au
abbrev s13:Stmt:=top 17
noncomputable def b13:List S:=[.asg 1 (.call 12 [↑0]),.asg 2 (.bin .mul (.lst [⇑0]) (.blt .len [.idx ↑0 ⇑1])),.jH (.call 7 [↑1]) [3,4] false [.asg 2 (.call 6 [↑2,↑3,↑4])],.asg 5 (.blt .tuple [.blt .nD [.call 4 [↑1,↑2,.xG 0 0]]]),.ret (.tup [.call 11 [↑0,↑2],↑2,↑5])]
def Zh:Fd:=⟨1,6,b13⟩
theorem abj:aK ["net","hourless","stream","steps","loads","side"] ["net"] (aB s13):=nofun
include cl in
theorem d13(a:jO K "fullest_stream" "fullest_stream" s13 f fd)(cO:mg "len"=none)(il:mg "sorted"=none)(bO:mg "tuple"=none)(b:↥(7,"chains_to_end",1,0))(e:↥(12,"hourless_net",1,0))(g:↥(4,"shortest_come",3,0))(h:↥(11,"stream_rate",2,0))(j:↥(6,"stream_with",3,0)):↥(["net"],1,Zh):=by
 exists a,abj,0,0;refine aQ ?_ ?_;.exists 1,gh e hr (bJ (sv 0) aH rfl)
 lia;.exists 2,aG jM (gH (gD aj bG rfl)) (iC rfl (by rfl) cO (aq (sv 0) aj))
 lia;.exact(uJ PassesOwn.never hc (eY (gh b hr (bJ (sv 1) aH rfl))) (mW hc (bL (aR (i:=3) nd rfl oi oi) (bL (aR (i:=4) nd rfl oi oi) jK))) (uy rfl (di _ _ (di _ _ oF 4) 3)) (by lia;(· exists 2,gh j hr (bJ (sv 2) (bJ (sv 3) (bJ (sv 4) aH rfl) rfl) rfl));exact au))
 lia;.exists 5,pO rfl (by rfl) bO (Dt rfl hc (by rfl) il (gh g hr (bJ (sv 1) (bJ (sv 2) (bJ tX aH rfl) rfl) rfl)))
 lia;.exists(),dq (gD (gh h hr (bJ (sv 0) (bJ (sv 2) aH rfl) rfl)) (gD (sv 2) (gD (sv 5) bG rfl) rfl) rfl)
 exact au
abbrev s14:Stmt:=top 19
noncomputable def b14:List S:=[.ret (.lst [.blt .max2 [⇑0,.bin .sub ↑0 (.bin .pow ⇑10 ⇑18)],.bin .mod ↑0 (.bin .pow ⇑10 ⇑18),⇑0])]
def ZC:Fd:=⟨1,1,b14⟩
theorem aax:aK ["cell"] ["cell"] (aB s14):=nofun
include cl in
theorem d14(a:jO K "_law_pool" "_law_pool" s14 f fd)(Jo:mg "max"=none):↥(["cell"],1,ZC):=by
 exists a,aax,0,0;refine aQ ?_ ?_;.exists(),gH (gD (JL rfl hc (by rfl) Jo (gD aj (gD (aG dh (sv 0) (aG jW aj aj)) bG rfl) rfl)) (gD (aG gA (sv 0) (aG jW aj aj)) (gD aj bG rfl) rfl) rfl)
 exact au
abbrev s15:Stmt:=top 20
noncomputable def b15:List S:=[.ifs (.cmp .gt (.idx ↑0 ⇑0) ⇑0) [.asg 2 (.bin .mod (.idx ↑0 ⇑0) ↑1),.DR 0 ⇑0 (.bin .fdiv (.idx ↑0 ⇑0) ↑1),.ret ↑2] [],.DR 0 ⇑2 (.bin .add (.idx ↑0 ⇑2) ⇑1),.asg 3 (.bin .mod (.bin .add (.idx ↑0 ⇑1) (.bin .mul ⇑7919 (.idx ↑0 ⇑2))) ⇑1000000007),.asg 4 (.bin .mod (.bin .mul (.bin .add ↑3 ⇑11) (.bin .add ↑3 ⇑48271)) ⇑998244353),.ret (.bin .mod (.bin .fdiv (.bin .mod (.bin .mul ↑4 ↑4) ⇑2147483647) ⇑8) ↑1)]
def Yr:Fd:=⟨2,5,b15⟩
theorem abw:aK ["pool","base","digit","near","stir"] ["pool","base"] (aB s15):=nofun
include cl in
theorem d15(a:jO K "_law_next" "_law_next" s15 f fd):↥(["pool","base"],2,Yr):=by
 exists a,abw,0,0;refine aQ ?_ ?_;.exists dR ?_ ?_ ?_;exact bQ pq (aq (sv 0) aj) aj (bM _);(· lia;(· exists 2,aG gA (aq (sv 0) aj) (sv 1));(· lia;exact uE (k:=0) rfl (by ac_rfl) aj (aG vQ (aq (sv 0) aj) (sv 1));(· lia;(· exists(),sv 2);exact au)));exact au
 lia;.exact(uE (k:=0) rfl (by ac_rfl) aj (aG bH (aq (sv 0) aj) aj))
 lia;.exists 3,aG gA (aG bH (aq (sv 0) aj) (aG jM aj (aq (sv 0) aj))) aj
 lia;.exists 4,aG gA (aG jM (aG bH (sv 3) aj) (aG bH (sv 3) aj)) aj
 lia;.exists(),aG gA (aG vQ (aG gA (aG jM (sv 4) (sv 4)) aj) aj) (sv 1)
 exact au
abbrev s16:Stmt:=top 21
noncomputable def b16:List S:=[.ifs (.cmp .gt (.idx ↑0 ⇑0) ⇑0) [.ret (.call 15 [↑0,↑1])] [],.asg 2 ⇑0,.jH (.xF ⇑0 ⇑4) [3] true [.asg 2 (.bin .add (.bin .mul ↑2 (.bin .pow ⇑10 ⇑7)) (.call 15 [↑0,.bin .pow ⇑10 ⇑7]))],.ret (.bin .mod ↑2 ↑1)]
def Yt:Fd:=⟨2,4,b16⟩
theorem abD:aK ["pool","base","found","k"] ["pool","base"] (aB s16):=nofun
include cl in
theorem d16(b:jO K "_law_wide" "_law_wide" s16 f fd)(bU:mg "range"=none)(a:↥(15,"_law_next",2,0)):↥(["pool","base"],2,Yt):=by
 exists b,abD,0,0;refine aQ ?_ ?_;.exists dR ?_ ?_ ?_;exact bQ pq (aq (sv 0) aj) aj (bM _);(· lia;(· exists(),gh a hr (bJ (sv 0) (bJ (sv 1) aH rfl) rfl));exact au);exact au
 lia;.exists 2,aj
 lia;.exists 3,lX rfl (by rfl) bU aj,0;(· lia;(· exists 2,aG bH (aG jM (sv 2) (aG jW aj aj)) (gh a hr (bJ (sv 0) (bJ (aG jW aj aj) aH rfl) rfl)));exact au)
 lia;.exists(),aG gA (sv 2) (sv 1)
 exact au
abbrev s17:Stmt:=top 22
noncomputable def b17:List S:=[.ifs (.cmp .eq (.call 15 [↑0,⇑3]) ⇑0) [.asg 4 (.call 15 [↑0,↑1]),.asg 5 (.bin .mod (.bin .add (.bin .add ↑4 ⇑1) (.call 15 [↑0,.bin .sub ↑1 ⇑1])) ↑1)] [.asg 4 (.call 15 [↑0,.bin .sub ↑1 ⇑1]),.asg 5 (.bin .add (.bin .add ↑4 ⇑1) (.call 15 [↑0,.bin .sub (.bin .sub ↑1 ⇑1) ↑4]))],.ret (.tup [↑4,↑5,.call 16 [↑0,.bin .add ↑2 ⇑1],.bin .add ⇑1 (.call 16 [↑0,↑3])])]
def YT:Fd:=⟨4,6,b17⟩
theorem acb:aK ["pool","many","most","longest","start","to"] ["pool","many","most","longest"] (aB s17):=nofun
include cl in
theorem d17(e:jO K "_law_way" "_law_way" s17 f fd)(a:↥(15,"_law_next",2,0))(b:↥(16,"_law_wide",2,0)):↥(["pool","many","most","longest"],4,YT):=by
 exists e,acb,0,0;refine aQ ?_ ?_;.exists dR ?_ ?_ ?_;exact bQ (jx (bh hr)) (gh a hr (bJ (sv 0) (bJ aj aH rfl) rfl)) aj (bM _);(· lia;(· exists 4,gh a hr (bJ (sv 0) (bJ (sv 1) aH rfl) rfl));(· lia;(· exists 5,aG gA (aG bH (aG bH (sv 4) aj) (gh a hr (bJ (sv 0) (bJ (aG dh (sv 1) aj) aH rfl) rfl))) (sv 1));exact au));(· lia;(· exists 4,gh a hr (bJ (sv 0) (bJ (aG dh (sv 1) aj) aH rfl) rfl));(· lia;(· exists 5,aG bH (aG bH (sv 4) aj) (gh a hr (bJ (sv 0) (bJ (aG dh (aG dh (sv 1) aj) (sv 4)) aH rfl) rfl)));exact au))
 lia;.exists(),dq (gD (sv 4) (gD (sv 5) (gD (gh b hr (bJ (sv 0) (bJ (aG bH (sv 2) aj) aH rfl) rfl)) (gD (aG bH aj (gh b hr (bJ (sv 0) (bJ (sv 3) aH rfl) rfl))) bG rfl) rfl) rfl) rfl)
 exact au
abbrev s18:Stmt:=top 23
noncomputable def b18:List S:=[.asg 3 (.bin .add ⇑2 (.call 15 [↑0,.bin .sub ↑1 ⇑1])),.asg 4 (.idx (.lst [⇑1,⇑3,⇑9,.bin .pow ⇑10 ⇑9]) (.call 15 [↑0,⇑4])),.asg 5 (.idx (.lst [⇑1,⇑2,⇑4,.bin .pow ⇑10 ⇑6]) (.call 15 [↑0,⇑4])),.asg 6 (.lst []),.jH (.xF ⇑0 (.call 15 [↑0,.bin .add ↑2 ⇑1])) [7] true [.app 6 (.call 17 [↑0,↑3,↑4,↑5]),.ifs (.cmp .eq (.call 15 [↑0,⇑6]) ⇑0) [.DR 6 ↑7 (.idx ↑6 (.call 15 [↑0,.bin .add ↑7 ⇑1]))] []],.ret (.tup [↑3,.blt .tuple [↑6]])]
def Zo:Fd:=⟨3,8,b18⟩
theorem abp:aK ["pool","places","count","many","most","longest","ways","k"] ["pool","places","count"] (aB s18):=nofun
include cl in
theorem d18(b:jO K "_law_net" "_law_net" s18 f fd)(bU:mg "range"=none)(bO:mg "tuple"=none)(a:↥(15,"_law_next",2,0))(e:↥(17,"_law_way",4,0)):↥(["pool","places","count"],3,Zo):=by
 exists b,abp,0,0;refine aQ ?_ ?_;.exists 3,aG bH aj (gh a hr (bJ (sv 0) (bJ (aG dh (sv 1) aj) aH rfl) rfl))
 lia;.exists 4,aq (gH (uo [1,3,9] rfl (gD (aG jW aj aj) bG rfl))) (gh a hr (bJ (sv 0) (bJ aj aH rfl) rfl))
 lia;.exists 5,aq (gH (uo [1,2,4] rfl (gD (aG jW aj aj) bG rfl))) (gh a hr (bJ (sv 0) (bJ aj aH rfl) rfl))
 lia;.exists 6,gH bG
 lia;.exists 7,lX rfl (by rfl) bU (gh a hr (bJ (sv 0) (bJ (aG bH (sv 2) aj) aH rfl) rfl)),0;(· lia;exact jA (k:=6) rfl (by ac_rfl) (gh e hr (bJ (sv 0) (bJ (sv 3) (bJ (sv 4) (bJ (sv 5) aH rfl) rfl) rfl) rfl));(· lia;(· exists dR ?_ ?_ ?_;exact bQ (jx (bh hr)) (gh a hr (bJ (sv 0) (bJ aj aH rfl) rfl)) aj (bM _);(· lia;exact uE (k:=6) rfl (by ac_rfl) (sv 7) (aq (sv 6) (gh a hr (bJ (sv 0) (bJ (aG bH (sv 7) aj) aH rfl) rfl)));exact au);exact au);exact au))
 lia;.exists(),dq (gD (sv 3) (gD (pO rfl (by rfl) bO (sv 6)) bG rfl) rfl)
 exact au
abbrev s19:Stmt:=top 24
noncomputable def b19:List S:=[.asg 3 ⇑0,.jH (.xF ⇑0 (.blt .len [.idx ↑0 ⇑1])) [4] true [.unp [5,6,7,8] (.idx (.idx ↑0 ⇑1) ↑4),.ifs (.cmp .eq ↑5 ↑2) [.asg 3 (.bin .add ↑3 (.idx ↑1 ↑4))] [],.ifs (.cmp .eq ↑6 ↑2) [.asg 3 (.bin .sub ↑3 (.idx ↑1 ↑4))] []],.ret ↑3]
def YC:Fd:=⟨3,9,b19⟩
theorem aaD:aK ["net","stream","place","found","k","start","to","room","hours"] ["net","stream","place"] (aB s19):=nofun
include cl in
theorem d19(a:jO K "_law_over" "_law_over" s19 f fd)(cO:mg "len"=none)(bU:mg "range"=none):↥(["net","stream","place"],3,YC):=by
 exists a,aaD,0,0;refine aQ ?_ ?_;.exists 3,aj
 lia;.exists 4,lX rfl (by rfl) bU (iC rfl (by rfl) cO (aq (sv 0) aj)),0;(· lia;exact Q6 (aq (aq (sv 0) aj) (sv 4)) (mW hc (bL (aR (i:=5) nd rfl oi oi) (bL (aR (i:=6) nd rfl oi oi) (bL (aR (i:=7) nd rfl oi oi) (bL (aR (i:=8) nd rfl oi oi) jK))))) (uy rfl (di _ _ (di _ _ (di _ _ (di _ _ oF 8) 7) 6) 5));(· lia;(· exists dR ?_ ?_ ?_;exact bQ (jx (bh hr)) (sv 5) (sv 2) (bM _);(· lia;(· exists 3,aG bH (sv 3) (aq (sv 1) (sv 4)));exact au);exact au);(· lia;(· exists dR ?_ ?_ ?_;exact bQ (jx (bh hr)) (sv 6) (sv 2) (bM _);(· lia;(· exists 3,aG dh (sv 3) (aq (sv 1) (sv 4)));exact au);exact au);exact au)))
 lia;.exists(),sv 3
 exact au
abbrev s20:Stmt:=top 25
noncomputable def b20:List S:=[.ifs (.cmp .ne (.blt .len [↑1]) (.blt .len [.idx ↑0 ⇑1])) [.ret (.con (.bl false))] [],.jH (.xF ⇑0 (.blt .len [↑1])) [2] true [.ifs (.or (.cmp .lt (.idx ↑1 ↑2) ⇑0) (.cmp .gt (.idx ↑1 ↑2) (.idx (.idx (.idx ↑0 ⇑1) ↑2) ⇑2))) [.ret (.con (.bl false))] []],.jH (.xF ⇑1 (.bin .sub (.idx ↑0 ⇑0) ⇑1)) [3] true [.ifs (.cmp .ne (.call 19 [↑0,↑1,↑3]) ⇑0) [.ret (.con (.bl false))] []],.ret (.cmp .ge (.call 19 [↑0,↑1,⇑0]) ⇑0)]
def ZZ:Fd:=⟨2,4,b20⟩
theorem aaS:aK ["net","stream","k","place"] ["net","stream"] (aB s20):=nofun
include cl in
theorem d20(b:jO K "_law_is_stream" "_law_is_stream" s20 f fd)(cO:mg "len"=none)(bU:mg "range"=none)(a:↥(19,"_law_over",3,0)):↥(["net","stream"],2,ZZ):=by
 exists b,aaS,0,0;refine aQ ?_ ?_;.exists dR ?_ ?_ ?_;exact bQ (m5 (bh hr)) (iC rfl (by rfl) cO (sv 1)) (iC rfl (by rfl) cO (aq (sv 0) aj)) (bM _);(· lia;(· exists(),gF);exact au);exact au
 lia;.exists 2,lX rfl (by rfl) bU (iC rfl (by rfl) cO (sv 1)),0;(· lia;(· exists dR ?_ ?_ ?_;exact SW.st (qw (bQ (zg (bh hr)) (aq (sv 1) (sv 2)) aj (bM _)) (mX (bQ pq (aq (sv 1) (sv 2)) (aq (aq (aq (sv 0) aj) (sv 2)) aj) (bM _))));(· lia;(· exists(),gF);exact au);exact au);exact au)
 lia;.exists 3,Lr rfl (by rfl) bU aj (aG dh (aq (sv 0) aj) aj),0;(· lia;(· exists dR ?_ ?_ ?_;exact bQ (m5 (bh hr)) (gh a hr (bJ (sv 0) (bJ (sv 1) (bJ (sv 3) aH rfl) rfl) rfl)) aj (bM _);(· lia;(· exists(),gF);exact au);exact au);exact au)
 lia;.exists(),uv Rb (gh a hr (bJ (sv 0) (bJ (sv 1) (bJ aj aH rfl) rfl) rfl)) aj (bM _)
 exact au
abbrev s21:Stmt:=top 26
noncomputable def b21:List S:=[.ret (.and (.inst [.int] ↑0) (.not (.inst [.bool] ↑0)))]
def Zr:Fd:=⟨1,1,b21⟩
theorem aau:aK ["thing"] ["thing"] (aB s21):=nofun
include cl in
theorem d21(a:jO K "_law_whole" "_law_whole" s21 f fd)(zM:mg "bool"=none)(Jp:mg "int"=none)(bf:mg "isinstance"=none):↥(["thing"],1,Zr):=by
 exists a,aau,0,0;refine aQ ?_ ?_;.exists(),El (jb .int rfl (by rfl) bf (sv 0) (by rfl) Jp (by kernel_rfl) (by decide) (by rfl)) (Bk (R9 (jb .bool rfl (by rfl) bf (sv 0) (by rfl) zM (by kernel_rfl) (by decide) (by rfl))))
 exact au
abbrev s22:Stmt:=top 27
noncomputable def b22:List S:=[.asg 2 ⇑0,.jH (.idx ↑0 ⇑1) [3,4,5,6] false [.ifs (.and (.cmp .inn ↑3 ↑1) (.cmp .BX ↑4 ↑1)) [.asg 2 (.bin .add ↑2 ↑5)] []],.ret ↑2]
def Yv:Fd:=⟨2,7,b22⟩
theorem aat:aK ["net","side","found","start","to","room","hours"] ["net","side"] (aB s22):=nofun
include cl in
theorem d22(a:jO K "_law_side_room" "_law_side_room" s22 f fd):↥(["net","side"],2,Yv):=by
 exists a,aat,0,0;refine aQ ?_ ?_;.exists 2,aj
 lia;.exact(uJ PassesOwn.never hc (eY (aq (sv 0) aj)) (mW hc (bL (aR (i:=3) nd rfl oi oi) (bL (aR (i:=4) nd rfl oi oi) (bL (aR (i:=5) nd rfl oi oi) (bL (aR (i:=6) nd rfl oi oi) jK))))) (uy rfl (di _ _ (di _ _ (di _ _ (di _ _ oF 6) 5) 4) 3)) (by lia;(· exists dR ?_ ?_ ?_;exact SW.st (S6 (bQ Ku (sv 3) (sv 1) (by with_unfolding_all rfl)) (Ks (bQ Cu (sv 4) (sv 1) (by with_unfolding_all rfl))));(· lia;(· exists 2,aG bH (sv 2) (sv 5));exact au);exact au);exact au))
 lia;.exists(),sv 2
 exact au
abbrev s23:Stmt:=top 28
noncomputable def b23:List S:=[.ifs (.or (.not (.inst [.tuple] ↑1)) (.not (.blt .all [.comp ↑1 1 [2] true none (.call 21 [↑2])]))) [.ret (.con (.bl false))] [],.ifs (.or (.cmp .ne (.blt .list [↑1]) (.blt .sset [↑1])) (.cmp .ne (.slice ↑1 (.con .non) ⇑1) (.tup [⇑0]))) [.ret (.con (.bl false))] [],.ret (.cmp .lt (.idx ↑1 (.neg ⇑1)) (.bin .sub (.idx ↑0 ⇑0) ⇑1))]
def YH:Fd:=⟨2,2,b23⟩
theorem abq:aK ["net","side"] ["net","side"] (aB s23):=nofun
include cl in
theorem d23(a:jO K "_law_is_side" "_law_is_side" s23 f fd)(tL:mg "all"=none)(bf:mg "isinstance"=none)(cP:mg "list"=none)(Jq:mg "set"=none)(il:mg "sorted"=none)(bO:mg "tuple"=none)(b:↥(21,"_law_whole",1,0)):↥(["net","side"],2,YH):=by
 exists a,abq,0,0;refine aQ ?_ ?_;.exists dR ?_ ?_ ?_;exact SW.st (qw (jc (eX (jb .tuple rfl (by rfl) bf (sv 1) (by rfl) bO (by kernel_rfl) (by decide) (by rfl)))) (mX (jc (eX (Hn rfl hc (by rfl) tL (gC (N':=["net","side","place"]) hc (KD rfl (by rfl)) (eY (sv 1)) ⇑(aR (i:=2) ‹["net","side","place"]› rfl (Or.inl rfl) (Or.inr rfl)) (fM (cQ)) ⇑(iK) ⇑((gh b hr (bJ (sv 2) aH rfl)))))))));(· lia;(· exists(),gF);exact au);exact au
 lia;.exists dR ?_ ?_ ?_;exact SW.st (qw (bQ (m5 (bh hr)) (Bm rfl (by rfl) cP (sv 1)) (JQ rfl rfl hc (by rfl) il (by rfl) Jq (sv 1)) (bM _)) (mX (bQ (m5 (bh hr)) (v7 (sv 1) Av (Ba aj)) (dq (gD aj bG rfl)) (bM _))));(· lia;(· exists(),gF);exact au);exact au
 lia;.exists(),uv (zg (bh hr)) (aq (sv 1) (uB aj)) (aG dh (aq (sv 0) aj) aj) (bM _)
 exact au
abbrev s24:Stmt:=top 29
noncomputable def b24:List S:=[.ifs (.or (.not (.inst [.tuple] ↑1)) (.or (.cmp .ne (.blt .len [↑1]) ⇑3) (.not (.call 21 [.idx ↑1 ⇑0])))) [.ret (.con (.bl false))] [],.ifs (.not (.inst [.list] (.idx ↑1 ⇑1))) [.ret (.con (.bl false))] [],.ifs (.or (.not (.blt .all [.comp (.idx ↑1 ⇑1) 1 [2] true none (.call 21 [↑2])])) (.not (.call 20 [↑0,.idx ↑1 ⇑1]))) [.ret (.con (.bl false))] [],.ifs (.not (.call 23 [↑0,.idx ↑1 ⇑2])) [.ret (.con (.bl false))] [],.ret (.and (.cmp .eq (.call 19 [↑0,.idx ↑1 ⇑1,⇑0]) (.idx ↑1 ⇑0)) (.cmp .eq (.call 22 [↑0,.idx ↑1 ⇑2]) (.idx ↑1 ⇑0)))]
def ZX:Fd:=⟨2,2,b24⟩
theorem acA:aK ["net","told"] ["net","told"] (aB s24):=nofun
include cl in
theorem d24(b:jO K "_law_shown" "_law_shown" s24 f fd)(tL:mg "all"=none)(bf:mg "isinstance"=none)(cO:mg "len"=none)(cP:mg "list"=none)(bO:mg "tuple"=none)(e:↥(23,"_law_is_side",2,0))(g:↥(20,"_law_is_stream",2,0))(h:↥(19,"_law_over",3,0))(j:↥(22,"_law_side_room",2,0))(a:↥(21,"_law_whole",1,0)):↥(["net","told"],2,ZX):=by
 exists b,acA,0,0;refine aQ ?_ ?_;.exists dR ?_ ?_ ?_;exact SW.st (qw (jc (eX (jb .tuple rfl (by rfl) bf (sv 1) (by rfl) bO (by kernel_rfl) (by decide) (by rfl)))) (qw (bQ (m5 (bh hr)) (iC rfl (by rfl) cO (sv 1)) aj (bM _)) (mX (jc (eX (gh a hr (bJ (aq (sv 1) aj) aH rfl)))))));(· lia;(· exists(),gF);exact au);exact au
 lia;.exists dR ?_ ?_ ?_;exact jc (eX (jb .list rfl (by rfl) bf (aq (sv 1) aj) (by rfl) cP (by kernel_rfl) (by decide) (by rfl)));(· lia;(· exists(),gF);exact au);exact au
 lia;.exists dR ?_ ?_ ?_;exact SW.st (qw (jc (eX (Hn rfl hc (by rfl) tL (gC (N':=["net","told","one"]) hc (KD rfl (by rfl)) (eY (aq (sv 1) aj)) ⇑(aR (i:=2) ‹["net","told","one"]› rfl (Or.inl rfl) (Or.inr rfl)) (fM (cQ)) ⇑(iK) ⇑((gh a hr (bJ (sv 2) aH rfl))))))) (mX (jc (eX (gh g hr (bJ (sv 0) (bJ (aq (sv 1) aj) aH rfl) rfl))))));(· lia;(· exists(),gF);exact au);exact au
 lia;.exists dR ?_ ?_ ?_;exact jc (eX (gh e hr (bJ (sv 0) (bJ (aq (sv 1) aj) aH rfl) rfl)));(· lia;(· exists(),gF);exact au);exact au
 lia;.exists(),El (uv (jx (bh hr)) (gh h hr (bJ (sv 0) (bJ (aq (sv 1) aj) (bJ aj aH rfl) rfl) rfl)) (aq (sv 1) aj) (bM _)) (Bk (uv (jx (bh hr)) (gh j hr (bJ (sv 0) (bJ (aq (sv 1) aj) aH rfl) rfl)) (aq (sv 1) aj) (bM _)))
 exact au
abbrev s25:Stmt:=top 30
noncomputable def b25:List S:=[.jH (.bin .add (.lst [⇑0]) ↑0) [1] true [.asg 2 (.call 14 [↑1]),.asg 3 (.call 18 [↑2,⇑6,⇑12]),.Vi 4 5 13 24 3,.ifs (.cmp .ne (.call 13 [↑3]) ↑5) [.ret (.con (.bl false))] []],.ret (.con (.bl true))]
def Y4:Fd:=⟨1,6,b25⟩
theorem ab4:aK ["script","cell","pool","net","told","kept"] ["script"] (aB s25):=nofun
include cl in
theorem d25(e:jO K "law" "law" s25 f fd)(cP:mg "list"=none)(g:↥(18,"_law_net",3,0))(h:↥(14,"_law_pool",1,0))(i:↥(24,"_law_shown",2,0))(b:↥(13,"fullest_stream",1,0))(NL:Nu K):↥(["script"],1,Y4):=by
 exists e,ab4,0,0;refine aQ ?_ ?_;.exists 1,eY (aG bH (gH (gD aj bG rfl)) (sv 0)),0;(· lia;(· exists 2,gh h hr (bJ (sv 1) aH rfl));(· lia;(· exists 3,gh g hr (bJ (sv 2) (bJ aj (bJ aj aH rfl) rfl) rfl));exact JF (x:=4) (y:=5) (a:=3) NL b i hr nd rfl (.inl rfl) (by ac_rfl) rfl (.inl rfl) rfl (by ac_rfl) rfl (by rfl) cP (show 4≠5 by decide) (by lia;(· exists dR ?_ ?_ ?_;exact bQ (m5 (bh hr)) (gh b hr (bJ (sv 3) aH rfl)) (sv 5) (bM _);(· lia;(· exists(),gF);exact au);exact au);exact au)))
 lia;.exists(),gF
 exact au
end T
end
noncomputable section
namespace T
open PySem L2 PySem.Spec PyProof.Rows HH
def Γ:Tab:=λi=>[f0,f1,f2,f3,f4,f5,f6,f7,f8,f9,U4,f11,Zk,Zh,ZC,Yr,Yt,YT,Zo,YC,ZZ,Zr,Yv,YH,ZX,Y4][i]?
end T
end
noncomputable section
namespace T
open HH
variable{w n j N k l:Nat}{m a b p g:Int}{Q:R->List Sl->Prop}{f:Bool}{ch:List Int}{F q:Int->Int}
local macro_rules|`(tactic|symm)=>`(tactic|first|apply ak|apply Cj)
abbrev big:Int:=1606938044258990275541962092341162602522202993782792835301376
theorem cj{x y z:Int}(h0:0<m)(c:m<big)(k:∀d x z:Int,0<=d->d<m->Q (.val (.int d)) [.own true [.int x,.int y,.int z],.val false (.int m)]):(run Γ w (n+1) 15 [.own true [.int x,.int y,.int z],.val false (.int m)]).sat Q:=by
 have e:m<1606938044258990275541962092341162602522202993782792835301376:=c;refine aN (d:=Yr) rfl rfl (by decide) ?_;symm;simp[Yr];constructor;.intro _;symm;simp[h0];apply ak;simp[h0,e,iT];apply ak;simp;exact k _ _ _ (Int.emod_nonneg _ (by omega)) (Int.emod_lt_of_pos _ h0)
 . intro _;symm;simp[iT];apply ak;simp;generalize o:(y+7919*(z+1))%1000000007=q;have r:0<=q/\q<1000000007:=by omega
   have h:-18446744073709551616<q+11/\q+11<18446744073709551616:=by omega
   symm;simp[h];generalize hs:(q+11)*(q+48271)%998244353=st;have i:-18446744073709551616<st/\st<18446744073709551616:=by omega
   symm;simp[i,h0];exact k _ _ _ (Int.emod_nonneg _ (by omega)) (Int.emod_lt_of_pos _ h0)
theorem Ii{x:Int}(k:∀a b c:Int,Q (.own [.int a,.int b,.int c]) [.val false (.int x)]):(run Γ w (n+1) 14 [.val false (.int x)]).sat Q:=by refine aN (d:=ZC) rfl rfl (by decide) ?_;symm;simp[ZC];exact k _ _ _
inductive JW(y m:Int)(_:Nat)(ρ:List Sl):Prop where|mk(x z f:Int)(s:Sl)(q0:ρ=[.own true [.int x,.int y,.int z],.val false (.int m),.val false (.int f),s])(q1:fr s=true)
theorem vC{x y z:Int}(h0:0<m)(h:m<big)(k:∀d x z:Int,0<=d->d<m->Q (.val (.int d)) [.own true [.int x,.int y,.int z],.val false (.int m)]):(run Γ w (n+2) 16 [.own true [.int x,.int y,.int z],.val false (.int m)]).sat Q:=by
 refine aN (d:=Yt) rfl rfl (by decide) ?_;symm;simp[Yt];constructor;.intro _;symm;simp;refine cj h0 h λd x z c e=>?_;simp;exact k _ _ _ c e
 . intro _;symm;simp;apply ak;simp;refine gQ (JW y m) ?_ ?_ ⟨x,z,0,.aP,rfl,rfl⟩;.rintro i _ o⟨x,z,f,s,rfl,hs⟩;simp[hs];apply ak;simp;refine cj (by decide) (by decide) λd x z c e=>?_;simp;exact⟨_,_,_,_,rfl,rfl⟩
   .rintro _⟨x,z,f,s,rfl,hs⟩;symm;simp[h0];exact k _ _ _ (Int.emod_nonneg _ (by omega)) (Int.emod_lt_of_pos _ h0)
structure Wy where(s t r h:Int)
variable{ws:List Wy}{v:Wy}
def Wy.d(w:Wy):D:=.tup [.int w.s,.int w.t,.int w.r,.int w.h]
structure Wy.Ok(m:Int)(w:Wy):Prop where
 s0:0<=w.s
 s1:w.s<m
 t0:0<=w.t
 t1:w.t<m
 ne:w.s≠w.t
 r0:0<=w.r
 r1:w.r<=1000000000
 h0:1<=w.h
 h1:w.h<=1000000
theorem other(h1:0<=a)(c:a<m)(i:0<=b)(o:b<m-1):0<=(a+1+b)%m/\(a+1+b)%m<m/\(a+1+b)%m≠a:=by
 by_cases h:a+1+b<m;.rw[Int.emod_eq_of_lt (by omega) h];omega
 . have e:(a+1+b)%m=a+1+b-m:=by rw[<-Int.sub_emod_right,Int.emod_eq_of_lt (by omega) (by omega)]
   rw[e];omega
def aL(m:Int)(ws:List Wy):D:=.tup [.int m,.tup (ws.map Wy.d)]
structure fu(m:Int)(ws:List Wy):Prop where
 m0:2<=m
 m1:m<=6
 len:ws.length<=12
 ok:∀w∈ws,w.Ok m
@[simp]theorem adK{m:Int}{ws:List Wy}:JS (aL m ws) (.int 0)=some (.val (.int m)):=rfl
@[simp]theorem adM{m:Int}{ws:List Wy}:JS (aL m ws) (.int 1)=some (.val (.tup (ws.map Wy.d))):=rfl
theorem Mx{x y z l:Int}(h0:2<=m)(E:m<=6)(G:1<=p)(H:p<=1000000000)(I:1<=l)(J:l<=1000000)(k:∀(v:Wy)(x z:Int),v.Ok m->Q (.val v.d) [.own true [.int x,.int y,.int z],.val false (.int m),.val false (.int p),.val false (.int l)]):(run Γ w (n+3) 17 [.own true [.int x,.int y,.int z],.val false (.int m),.val false (.int p),.val false (.int l)]).sat Q:=by
 refine aN (d:=YT) rfl rfl (by decide) ?_;refine fB (λρ=>∃x z s t,ρ=[.own true [.int x,.int y,.int z],.val false (.int m),.val false (.int p),.val false (.int l),.val false (.int s),.val false (.int t)]/\0<=s/\s<m/\0<=t/\t<m/\s≠t) ?_ ?_
 . simp[YT];refine cj (by decide) (by decide) λd x z _ _=>?_;simp;constructor;.intro _;symm;simp;refine cj (by omega) (by show _<(1606938044258990275541962092341162602522202993782792835301376:Int);omega) λa x z c e=>?_;simp;apply ak;simp;refine cj (by omega) (by show _<(1606938044258990275541962092341162602522202993782792835301376:Int);omega) λb x z i o=>?_;obtain⟨t0,t1,L⟩:=other c e i o;simp[show 0<m by omega];refine⟨_,_,_,_,⟨⟨rfl,rfl⟩,rfl,rfl⟩,?_⟩;omega
   .intro _;symm;simp;refine cj (by omega) (by show _<(1606938044258990275541962092341162602522202993782792835301376:Int);omega) λa x z c e=>?_;simp;apply ak;simp;refine cj (by omega) (by show _<(1606938044258990275541962092341162602522202993782792835301376:Int);omega) λb x z i o=>?_;simp;refine⟨_,_,_,_,⟨⟨rfl,rfl⟩,rfl,rfl⟩,?_⟩;omega
 rintro _⟨x,z,s,t,rfl,s0,s1,t0,t1,ne⟩;symm;simp;refine vC (by omega) (by show _<(1606938044258990275541962092341162602522202993782792835301376:Int);omega) λr x z u A=>?_;simp;refine vC (by omega) (by show _<(1606938044258990275541962092341162602522202993782792835301376:Int);omega) λh x z B C=>?_;simp;exact k ⟨s,t,r,1+h⟩ x z ⟨s0,s1,t0,t1,ne,u,by show r<=_;omega,by show 1<=1+h;omega,by show 1+h<=_;omega⟩
inductive JN(y m p l:Int)(i:Nat)(ρ:List Sl):Prop where|mk(x z:Int)(ws:List Wy)(s:Sl)(q0:ρ=[.own true [.int x,.int y,.int z],.val false (.int 6),.val false (.int 12),.val false (.int m),.val false (.int p),.val false (.int l),.own false (ws.map Wy.d),s])(q1:fr s=true)(q2:(∀w∈ws,w.Ok m))(q3:ws.length=i)
theorem M8{c d i lo e:Int}(h0:0<=i)(h1:i<4)(h:lo<=a/\a<=e/\lo<=b/\b<=e)(o:lo<=c/\c<=e/\lo<=d/\d<=e):∃r,at' [D.int a,D.int b,D.int c,D.int d] i=some (.int r)/\lo<=r/\r<=e:=by
 have:i=0\/i=1\/i=2\/i=3:=by omega
 rcases this with rfl|rfl|rfl|rfl;.exact⟨a,abx,by omega⟩
 .exact⟨b,aaO,by omega⟩
 .exact⟨c,abn,by omega⟩
 .exact⟨d,ace,by omega⟩
theorem Mg{x y z:Int}(k:∀(m:Int)(ws:List Wy)(x z:Int),fu m ws->Q (.val (aL m ws)) [.own true [.int x,.int y,.int z],.val false (.int 6),.val false (.int 12)]):(run Γ w (n+4) 18 [.own true [.int x,.int y,.int z],.val false (.int 6),.val false (.int 12)]).sat Q:=by
 refine aN (d:=Zo) rfl rfl (by decide) ?_;symm;simp[Zo];refine cj (by decide) (by decide) λd x z h o=>?_;simp;obtain⟨m,M,m0,m1⟩:∃m,m=2+d/\2<=m/\m<=6:=⟨_,rfl,by omega,by omega⟩;rw[<-M];symm;simp;refine cj (by decide) (by decide) λd x z h o=>?_;simp;obtain⟨p,e,O,U⟩:∃r,at' [D.int 1,D.int 3,D.int 9,D.int 1000000000] d=some (.int r)/\1<=r/\r<=1000000000:=M8 h o (by omega) (by omega);rw[e];simp;apply ak;simp;refine cj (by decide) (by decide) λd x z h o=>?_;simp;obtain⟨l,e,W,X⟩:∃r,at' [D.int 1,D.int 2,D.int 4,D.int 1000000] d=some (.int r)/\1<=r/\r<=1000000:=M8 h o (by omega) (by omega);rw[e];simp;apply ak;simp;apply ak;simp;refine cj (by decide) (by decide) λc x z A C=>?_;simp;refine⟨by omega,?_⟩;refine gQ (JN y m p l) ?_ ?_ ⟨x,z,[],.aP,rfl,rfl,by simp,rfl⟩
 . rintro i _ Z⟨x,z,ws,s,rfl,hs,J,L⟩;simp[hs];apply ak;simp;refine Mx m0 m1 O U W X λv x z Y=>?_;have E:ws.length<lim:=by show _<16777216;omega
   simp[E];have B:∀u∈ws++[v],u.Ok m:=λu t=>by
    rw[mem_append,mem_singleton]at t;rcases t with t|rfl;.exact J u t
    .exact Y
   rw[show ws.map Wy.d++[v.d]=(ws++[v]).map Wy.d by simp];have G:(ws++[v]).length=i+1:=by simp[L]
   generalize ws++[v]=H at*;symm;simp;refine cj (by decide) (by decide) λc x z A C=>?_;simp;constructor
   . intro _;symm;simp;refine cj (by omega) (by show _<(1606938044258990275541962092341162602522202993782792835301376:Int);omega) λc x z A C=>?_;simp;have I:c.toNat<H.length:=by omega
     rw[yJ A (by rw[length_map];omega),getElem?_map,getElem?_eq_getElem I];simp[Ss (show i<H.length by omega)];refine⟨x,z,H.set i H[c.toNat],.val false (.int i),by simp,rfl,λu t=>?_,by simpa using G⟩;rcases List.mem_or_eq_of_mem_set t with t|rfl;.exact B u t
     .exact B _ (getElem_mem I)
   .intro _;exact⟨x,z,H,_,rfl,rfl,B,G⟩
 .rintro _⟨x,z,ws,s,rfl,hs,J,L⟩;symm;simp;exact k m ws x z ⟨m0,m1,by omega,J⟩
def eU(j:Nat)(f:Bool):D:=.tup [.int j,.bl f]
def frm(v:Wy)(f:Bool):Int:=if f then v.s else v.t
def too(v:Wy)(f:Bool):Int:=if f then v.t else v.s
theorem lD(e:ws[j]?=some v)(k:Q (.val (.tup [.int (frm v f),.int (too v f)])) [.val false (aL m ws),.val false (eU j f)]):(run Γ w (n+1) 0 [.val false (aL m ws),.val false (eU j f)]).sat Q:=by refine aN (d:=f0) rfl rfl (by decide) ?_;symm;simp[f0,eU,dm e];apply ak;cases f with|true=>simp[Wy.d];exact k|false=>simp[Wy.d];exact k
def hsp(v:Wy)(f:Bool):Int:=if f then v.h else-v.h
theorem Dg(e:ws[j]?=some v)(k:Q (.val (.int (hsp v f))) [.val false (aL m ws),.val false (eU j f)]):(run Γ w (n+1) 1 [.val false (aL m ws),.val false (eU j f)]).sat Q:=by refine aN (d:=f1) rfl rfl (by decide) ?_;symm;simp[f1,eU,dm e,Wy.d];apply ak;cases f with|true=>simp;exact k|false=>simp;exact k
def UL(s:Sl)(fs:List Int):Prop:=s=.val false (.lst (fs.map D.int))\/∃b,s=.own b (fs.map D.int)
def nP(v:Wy)(g:Int)(f:Bool):Int:=if f then v.r-g else g
theorem rQ{s:Sl}{fs:List Int}(hs:UL s fs)(e:ws[j]?=some v)(c:fs[j]?=some g)(k:Q (.val (.int (nP v g f))) [.val false (aL m ws),s,.val false (eU j f)]):(run Γ w (n+1) 2 [.val false (aL m ws),s,.val false (eU j f)]).sat Q:=by refine aN (d:=f2) rfl rfl (by decide) ?_;symm;rcases hs with rfl|⟨b,rfl⟩;all_goals simp[f2,eU,dm c];apply ak;cases f with|true=>simp[dm e,Wy.d];exact k|false=>simp;exact k
@[simp]theorem Zb{c:Call}{n x k:Nat}{src i:P}{s:List Nat}{one:Bool}{ρ:List Sl}:ex c n (.Je x src k s one i) ρ=(srcOf (isVar src) (ev c src) ρ).bind λds e=>if ds.length<=lim then(gj s one (ev c i) ds [] (e++replicate k .aP)).bind λo h=>(lift (put (aY ρ (isVar src) (h.take e.length)) x (.hold o)) ρ).bind λr _=>.ok .next r else .stuck:=(rfl)
@[simp]theorem Zm{c:Call}{n:Nat}{src:P}{h:List Nat}{one:Bool}{body:List S}{ρ:List Sl}:ex c n (.DW src h one body) ρ=(ev c src ρ).bind λr e=>(lift (items r.d) e).bind λds e=>iH h one (gY c n body) ds e:=(rfl)
@[simp]theorem abu{c:Call}{n x:Nat}{ρ:List Sl}:ex c n (.cG x) ρ=match ρ[x]?with|some (.hold e)=>.ok .next (ρ.set x (.val false (.lst (e.map D.lst))))|_=>.stuck:=(rfl)
@[simp]theorem ZF{c:Call}{n x:Nat}{i e:P}{ρ:List Sl}:ex c n (.Jf x i e) ρ=(cV (isVar i) (ev c i) ρ).bind λk ρ=>(lift (uM ρ x k) ρ).bind λ_ ρ=>(ev c e ρ).bind λr ρ=>Ci ρ x ((iM ρ x).bind λh=>(iy k).bind λk=>jr h k λrow=>if row.length<lim then some (row++[r.d])else none):=(rfl)
@[simp]theorem YD{a:Sl}{l:List Sl}{x:Nat}:iM (a::l) x=match(a::l)[x]?with|some (.hold c)=>some c|_=>none:=rfl
@[simp]theorem T8{ρ:List Sl}{x:Nat}{c:List (List D)}:Ci ρ x (some c)=.ok .next (ρ.set x (.hold c)):=rfl
@[simp]theorem abo{a:Sl}{l:List Sl}{x:Nat}{k:Int}:uM (a::l) x (.int k)=match(a::l)[x]?with|some (.hold c)=>rowAt c k|_=>none:=by unfold uM iM;cases h:(a::l)[x]?with|none=>rfl|some s=>cases s<;>rfl
theorem pP{u:List Nat}{one:Bool}{i:Ev}(J:List Sl->Prop)(g:D->List D){Q:List (List D)->List Sl->Prop}:∀{ds:List D}{c:List (List D)}{ρ:List Sl},J ρ->(∀d,d∈ds->∀ρ,J ρ->∃ρ1,bY ρ u one d=some ρ1/\(i ρ1).sat λr o=>r=.own (g d)/\J o)->(∀ρ,J ρ->Q (c++ds.map g) ρ)->(gj u one i ds c ρ).sat Q|[],c,ρ,j,h,k=>by rw[Ip];simpa using k ρ j|d::r,c,ρ,j,h,k=>by obtain⟨ρ1,e,h1⟩:=h d (by simp) ρ j;rw[Ek,e];show((i ρ1).bind _).sat Q;rw[bT];refine h1.imp λx o⟨y,j3⟩=>?_;subst y;exact pP J g j3 (λd' s=>h d' (by simp[s])) λt A=>by simpa using k t A
@[simp]theorem abN{c:Call}{x:Nat}{k:P}{ρ:List Sl}:ev c (.OD x k) ρ=match ρ[x]?with
 |some (.cJ _)=>(cV (isVar k) (ev c k) ρ).bind λe ρ=>match ρ[x]?with|some (.cJ kvs)=>lift ((iy e).bind λk=>(lu kvs k).map .val) ρ|_=>.stuck
 |_=>.stuck:=(rfl)
def qW(kvs:List (Int×D))(k:Int):Bool:=(kvs.map (·.1)).contains k
def Jx(kvs:List (Int×D)):List Int:=kvs.map (·.1)
def dsV(kvs:List (Int×D)):List D:=kvs.map (·.2)
@[simp]theorem ab7{c:Call}{x:Nat}{k:P}{neg:Bool}{ρ:List Sl}:ev c (.OJ x k neg) ρ=(cV (isVar k) (ev c k) ρ).bind λe ρ=>match ρ[x]?with|some (.cJ kvs)=>lift ((iy e).map λk=>.val (.bl (if neg then !qW kvs k else qW kvs k))) ρ|_=>.stuck:=(rfl)
@[simp]theorem Zj{c:Call}{k e:Int}{ρ:List Sl}:ev c (.xG k e) ρ=.ok (.val (.dv [k] [.int e])) ρ:=(rfl)
@[simp]theorem ad3{c:Call}{x:Nat}{ρ:List Sl}:ev c (.vw x) ρ=match ρ[x]?with|some (.tH m)=>.ok (.val (.cX m)) (ρ.set x (.val false (.cX m)))|some (.cJ kvs)=>.ok (.val (.dv (Jx kvs) (dsV kvs))) (ρ.set x (.val false (.dv (Jx kvs) (dsV kvs))))|some (.own b ds)=>.ok (.val (.lst ds)) (ρ.set x (.val b (.lst ds)))|some (.val _ d)=>.ok (.val d) ρ|_=>.stuck:=(rfl)
@[simp]theorem Yw{c:Call}{n x:Nat}{ρ:List Sl}:ex c n (.DX x) ρ=match ρ[x]?with|some .aP=>.ok .next (ρ.set x (.cJ []))|some (.cJ _)=>.ok .next (ρ.set x (.cJ []))|some (.val false _)=>.ok .next (ρ.set x (.cJ []))|_=>.stuck:=(rfl)
@[simp]theorem Zg{c:Call}{n x:Nat}{k e:P}{ρ:List Sl}:ex c n (.gq x k e) ρ=(ev c e ρ).bind λr ρ=>match ρ[x]?with
 |some (.cJ _)=>(cV (isVar k) (ev c k) ρ).bind λh ρ=>match ρ[x]?,h with|some (.cJ kvs),.int k=>if kvs.length<lim then .ok .next (ρ.set x (.cJ (gq kvs k r.d)))else .stuck|_,_=>.stuck
 |_=>.stuck:=(rfl)
@[simp]theorem ZL{c:Call}{n x:Nat}{i e:P}{sub:Bool}{ρ:List Sl}:ex c n (.Jd x i sub e) ρ=(lift (Ef ρ x) ρ).bind λ_ ρ=>(cV (isVar i) (ev c i) ρ).bind λk ρ=>(lift (Ef ρ x) ρ).bind λl ρ=>(lift ((iy k).bind λi=>at' l i) ρ).bind λa ρ=>(cV (isVar e) (ev c e) ρ).bind λb ρ=>match a,b,ρ[x]?,k with
 |.int u,.int v,some (.own h ds),.int k=>match iT ds.length k with|some j=>.ok .next (ρ.set x (.own h (ds.set j (.int (if sub then u-v else u+v)))))|none=>.stuck
 |_,_,_,_=>.stuck:=(rfl)
@[simp]theorem Um{x:Nat}{k:P}:isVar (.OD x k)=none:=rfl
@[simp]theorem TV{x:Nat}{k:P}{b:Bool}:isVar (.OJ x k b)=none:=rfl
@[simp]theorem V9{x:Nat}:isVar (.vw x)=none:=rfl
@[simp]theorem Qx{k e:Int}:isVar (.xG k e)=none:=rfl
@[simp]theorem aaW{kvs:List (Int×D)}:fr (.cJ kvs)=false:=rfl
@[simp]theorem Y7{r:List (List D)}:fr (.hold r)=false:=rfl
@[simp]theorem WY:rA .DQ=Aj:=rfl
@[simp]theorem Z2:rA .din=vO false:=rfl
@[simp]theorem WN{ks:List Int}{ds:List D}{k:Int}:Aj (.dv ks ds) (.int k)=(lu (ks.zip ds) k).map .val:=rfl
@[simp]theorem Zf{ks:List Int}{ds:List D}{k:Int}:vO false (.int k) (.dv ks ds)=some (.val (.bl (ks.contains k))):=rfl
@[simp]theorem Ud{ks:List Int}{ds:List D}:blt .keys [.dv ks ds]=some (.val (.tup (ks.map D.int))):=rfl
@[simp]theorem ZD{ks:List Int}{ds:List D}:blt .Vg [.dv ks ds]=if ks.length<=16777216 then some (.own (ks.map D.int))else none:=rfl
@[simp]theorem Y5{ds:List D}:blt .rvT [.lst ds]=some (.val (.tup ds.reverse)):=rfl
@[simp]theorem QV{ks:List Int}{ds:List D}:blt .nD [.dv ks ds]=if ks.length<64 then some (.own (n8 (ks.map D.int)))else none:=rfl
@[simp]theorem UG{kvs:List (Int×D)}{x:Option Sl}:dB (.cJ kvs) x=.cJ kvs:=by cases x<;>rfl
@[simp]theorem PL{r:List (List D)}{x:Option Sl}:dB (.hold r) x=.hold r:=by cases x<;>rfl
structure HN(m:Int)(ws:List Wy):Prop where
 m0:2<=m
 m1:m<=6
 len:ws.length<=12
 ok:∀w∈ws,(0<=w.s/\w.s<m)/\(0<=w.t/\w.t<m)/\0<=w.h
theorem HN.of(h:fu m ws):HN m ws:=⟨h.m0,h.m1,h.len,λw c=>by have:=h.ok w c;exact⟨⟨this.s0,this.s1⟩,⟨this.t0,this.t1⟩,by have:=this.h0;omega⟩⟩
abbrev az:=Nat×Bool
variable{s:az}{x:Nat×(Option az×Int)}{o:Option az×Int}{K:az->Prop}{c:List az}{cs:List (List az×Int)}
def sD(s:az):D:=eU s.1 s.2
def jV(ws:List Wy)(fs:List Int)(p:Int)(s:az):Bool:=match ws[s.1]?,fs[s.1]?with|some v,some g=>decide (frm v s.2=p)&&decide (0<nP v g s.2)|_,_=>false
theorem lB{fs:List Int}(e:ws[s.1]?=some v)(h:fs[s.1]?=some g):jV ws fs p s=(decide (frm v s.2=p)&&decide (0<nP v g s.2)):=by unfold jV;rw[e,h]
def iZ(ws:List Wy)(fs:List Int)(M:Nat)(l:List az):List (List az):=(List.range M).map λ(p:Nat)=>l.filter (jV ws fs (p:Int))
def rD(l:List (List az)):List (List D):=l.map λr=>r.map sD
def gK(N:Nat):List az:=(List.range N).flatMap λj=>[(j,true),(j,false)]
theorem sy:gK (N+1)=(gK N++[(N,true)])++[(N,false)]:=by simp[gK,List.range_succ]
theorem wC:(gK N).length=2*N:=by induction N with|zero=>rfl|succ N e=>rw[sy];simp[e];omega
theorem SN(h:HN m ws)(e:ws[j]?=some v)(f:Bool):0<=frm v f/\frm v f<m:=by have:=h.ok v (mem_of_getElem? e);cases f<;>simp only[frm]<;>simp<;>omega
theorem Eo(h:HN m ws)(e:ws[j]?=some v)(f:Bool):0<=too v f/\too v f<m:=by have:=h.ok v (mem_of_getElem? e);cases f<;>simp only[too]<;>simp<;>omega
theorem Ik{fs:List Int}{M:Nat}{l:List az}(e:ws[s.1]?=some v)(i:fs[s.1]?=some g)(h:¬ 0<nP v g s.2):iZ ws fs M (l++[s])=iZ ws fs M l:=by unfold iZ;refine map_congr_left λp _=>?_;rw[List.filter_append];simp[lB e i,h]
theorem K4{fs:List Int}{l:List az}(e:ws[s.1]?=some v)(t:fs[s.1]?=some g)(h:0<nP v g s.2)(u:0<=frm v s.2/\frm v s.2<m)(C:l.length<1000):(∃row,rowAt (rD (iZ ws fs m.toNat l)) (frm v s.2)=some row)/\jr (rD (iZ ws fs m.toNat l)) (frm v s.2) (λrow=>if row.length<lim then some (row++[sD s])else none)=some (rD (iZ ws fs m.toNat (l++[s]))):=by
 have r:(rD (iZ ws fs m.toNat l)).length=m.toNat:=by simp[rD,iZ]
 have y:iT (rD (iZ ws fs m.toNat l)).length (frm v s.2)=some (frm v s.2).toNat:=by unfold iT;rw[r,if_pos u.1,if_pos (by omega)]
 have A:(rD (iZ ws fs m.toNat l))[(frm v s.2).toNat]?=some ((l.filter (jV ws fs (frm v s.2))).map sD):=by simp[rD,iZ,show(frm v s.2).toNat<m.toNat by omega,Int.toNat_of_nonneg u.1]
 refine⟨⟨_,by unfold rowAt;rw[y];exact A⟩,?_⟩;unfold jr;rw[y];show((rD (iZ ws fs m.toNat l))[(frm v s.2).toNat]?).bind _=_;rw[A];have B:((l.filter (jV ws fs (frm v s.2))).map sD).length<lim:=by have:=List.length_filter_le (jV ws fs (frm v s.2)) l;rw[length_map];show _<16777216;omega
 show Option.map _ (if _ then _ else _)=_;rw[if_pos B];show some _=some _;congr 1;refine List.ext_getElem (by simp[rD,iZ]) λi E G=>?_;rw[List.getElem_set];by_cases c:(frm v s.2).toNat=i
 . rw[if_pos c];have:(i:Int)=frm v s.2:=by omega
   simp[rD,iZ,this,List.filter_append,lB e t,h]
 . rw[if_neg c];have:¬ frm v s.2=(i:Int):=by omega
   simp[rD,iZ,List.filter_append,lB e t,this]
inductive JOp(m:Int)(ws:List Wy)(fs:List Int)(s:Sl)(i:Nat)(ρ:List Sl):Prop where|mk(s3 s4:Sl)(q0:ρ=[.val false (aL m ws),s,.hold (rD (iZ ws fs m.toNat (gK i))),s3,s4])(q1:fr s3=true)(q2:fr s4=true)
inductive JOq(m:Int)(ws:List Wy)(fs:List Int)(s:Sl)(i:Nat)(r:List D)(ρ:List Sl):Prop where|mk(l us:List az)(s4:Sl)(q0:ρ=[.val false (aL m ws),s,.hold (rD (iZ ws fs m.toNat l)),.val false (.int i),s4])(q1:fr s4=true)(q2:r=us.map sD)(q3:l++us=gK (i+1))(q4:∀u∈us,u.1=i)
inductive F1n(a b c d e:Sl)(ρ:List Sl):Prop where|mk(s:Sl)(q0:ρ=[a,b,c,d,e,s])(q1:fr s=true)
theorem HS{s:Sl}{fs:List Int}(hs:UL s fs)(h:HN m ws)(Y:fs.length=ws.length)(k:Q (.val (.lst ((rD (iZ ws fs m.toNat (gK ws.length))).map D.lst))) [.val false (aL m ws),s]):(run Γ w (n+2) 3 [.val false (aL m ws),s]).sat Q:=by
 have Z:=h.len;have m0:=h.m0;have m1:=h.m1;refine aN (d:=f3) rfl rfl (by decide) ?_;refine fB (λρ=>ρ=[.val false (aL m ws),s,.hold (rD (iZ ws fs m.toNat (gK 0))),.aP,.aP]) ?_ ?_
 . simp[f3,show m<=1000000000 by omega,show-1000000000<=m by omega];refine⟨λ_=>?_,by omega⟩;rw[bT];refine pP (F1n _ _ _ _ _) (λ_=>[]) ⟨.aP,rfl,rfl⟩ ?_ ?_;.rintro d hd _⟨M,rfl,y⟩;simp[y];exact⟨_,rfl,rfl⟩
   .rintro _⟨M,rfl,y⟩;simp[rD,iZ,gK]
 rintro _ rfl;refine fB (JOp m ws fs s ws.length) ?_ ?_
 . simp[show(ws.length:Int)<=1000000000 by omega];refine gQ (JOp m ws fs s) ?_ ?_ ⟨.aP,.aP,rfl,rfl,rfl⟩
   . rintro i _ O⟨s3,s4,rfl,E,t⟩;have H:i<fs.length:=by omega
     have A:ws[i]?=some ws[i]:=by simp[O]
     have I:fs[i]?=some fs[i]:=by simp[H]
     generalize ws[i]=v at*;generalize fs[i]=g at*;simp[E];apply ak;simp;refine cM (JOq m ws fs s i) ?_ ?_ ⟨gK i,[(i,true),(i,false)],s4,rfl,t,rfl,by rw[sy];simp,by simp⟩;.rintro d r _⟨l,e,s4,rfl,t,hr,B,G⟩;cases e with|nil=>cases hr|cons u e=>
         obtain⟨rfl,rfl⟩:d=sD u/\r=e.map sD:=by simpa using hr
         obtain rfl:=G u (by simp);have C:(l++[u])++e=gK (u.1+1):=by rw[append_assoc];exact B
         have J:l.length<1000:=by have:=congrArg List.length B;rw[wC]at this;simp at this;omega
         simp[t];apply ak;rcases hs with rfl|⟨b,rfl⟩;all_goals
          simp[sD];refine rQ (by first|exact .inl rfl|exact .inr ⟨_,rfl⟩) A I ?_;simp;refine⟨λho=>?_,λho=>?_⟩;.obtain⟨⟨row,U⟩,W⟩:=K4 (ws:=ws) (fs:=fs) (l:=l) A I ho (SN h A u.2) J;symm;simp;refine lD A ?_;simp[U];have X:jr (rD (iZ ws fs m.toNat l)) (frm v u.2) (λrow=>if row.length<lim then some (row++[eU u.1 u.2])else none)=_:=W;rw[X];simp;exact⟨l++[u],e,_,rfl,rfl,rfl,C,λx L=>G x (by simp[L])⟩
          .exact⟨l++[u],e,_,by rw[Ik A I (by omega)],rfl,rfl,C,λx L=>G x (by simp[L])⟩
     . rintro _⟨l,e,s4,rfl,t,hr,B,G⟩;have:e=[]:=by cases e with|nil=>rfl|cons _ _=>cases hr
       subst this;rw[append_nil]at B;subst B;simp;exact⟨_,_,rfl,rfl,t⟩
   .rintro _⟨s3,s4,rfl,E,t⟩;exact⟨rfl,_,_,rfl,E,t⟩
 rintro _⟨s3,s4,rfl,E,t⟩;symm;simp;apply ak;simp;exact k
abbrev En:=Int×Nat×(Option az×Int)
variable{es tM:List En}
def oS:Option az->D|none=>.non|some s=>sD s
def Ab(e:En):D:=.tup [.int e.2.2.2,.int (e.2.1:Int),oS e.2.2.1]
def en(e:En):Int×D:=(e.1,Ab e)
def kh(es:List En):D:=.dv (es.map (·.1)) (es.map Ab)
def zb(p:Int):Int×D:=(p,.bl true)
@[simp]theorem Ru{l:List Int}:Jx (l.map zb)=l:=by simp[Jx,zb,Function.comp_def]
theorem zf{l:List En}:Jx (l.map en)=l.map (·.1):=by simp[Jx,en,Function.comp_def]
theorem xR{l:List En}:qW (l.map en) p=true↔∃n o,(p,n,o)∈l:=by show(Jx (l.map en)).contains p=true↔_;rw[zf];simp
theorem kin_no{l:List En}(h:¬ ∃n o,(p,n,o)∈l):qW (l.map en) p=false:=by cases e:qW (l.map en) p with|false=>rfl|true=>exact absurd (xR.mp e) h
theorem uA{r:Type}{p:Int}{x y:r}:∀{l:List (Int×r)},(l.map (·.1)).Nodup->(p,x)∈l->(p,y)∈l->x=y
 |[],_,h,_=>by cases h|e::l,i,h1,h2=>by
   rw[map_cons,nodup_cons]at i;rcases mem_cons.mp h1 with h1|h1<;>rcases mem_cons.mp h2 with h2|h2;.rw[<-h2]at h1;cases h1;rfl
   .exact absurd (mem_map.mpr ⟨_,h2,by rw[<-h1]⟩) i.1
   .exact absurd (mem_map.mpr ⟨_,h1,by rw[<-h2]⟩) i.1
   .exact uA i.2 h1 h2
theorem oJ{p:Int}{x:Nat×(Option az×Int)}:∀{l:List En},(l.map (·.1)).Nodup->(p,x)∈l->lu (l.map en) p=some (Ab (p,x))
 |[],_,h=>by cases h|e::l,i,h=>by
   have r:=i;rw[map_cons,nodup_cons]at i;unfold lu;rw[map_cons,find?_cons];by_cases c:e.1=p;.obtain⟨q,y⟩:=e;cases c;have:=uA r h (by simp:(q,y)∈(q,y)::l);subst this;simp[en]
   . have h':(p,x)∈l:=by
      rcases mem_cons.mp h with h|h;.exact absurd (by rw[<-h]) c
      .exact h
     simp[en,c];have:=oJ i.2 h';unfold lu at this;simpa[en]using this
theorem pD{kvs:List (Int×D)}{d:D}(h:qW kvs p=false):gq kvs p d=kvs++[(p,d)]:=by
 unfold gq;rw[if_neg];intro i;obtain⟨x,r,e⟩:=List.any_eq_true.mp i;have:qW kvs p=true:=by show(kvs.map (·.1)).contains p=true;rw[List.contains_iff_mem];exact mem_map.mpr ⟨x,r,by simpa using e⟩
 rw[this]at h;cases h
theorem vN{kvs:List (Int×D)}{d:D}(h:qW kvs p=true):gq kvs p d=kvs.map λe=>if e.1=p then(p,d)else e:=by
 unfold gq;rw[if_pos]
 . refine map_congr_left λe _=>?_;by_cases c:e.1=p;.simp[c]
   .simp[c]
 .have h':(kvs.map (·.1)).contains p=true:=h;rw[List.contains_iff_mem]at h';obtain⟨x,i,e⟩:=mem_map.mp h';exact List.any_eq_true.mpr ⟨x,i,by simpa using e⟩
def wV(p:Int)(x:Nat×(Option az×Int))(e:En):En:=if e.1=p then(p,x)else e
def nZ(es:List En)(p:Int)(x:Nat×(Option az×Int)):List En:=if p∈es.map (·.1)then es.map (wV p x)else es++[(p,x)]
def pF(ch:List Int)(p:Int):List Int:=if p∈ch then ch else ch++[p]
theorem J2:gq (es.map en) p (Ab (p,x))=(nZ es p x).map en:=by
 have h:qW (es.map en) p=true↔p∈es.map (·.1):=by show(Jx (es.map en)).contains p=true↔_;rw[zf,List.contains_iff_mem]
 unfold nZ;by_cases c:p∈es.map (·.1)
 . rw[if_pos c,vN (h.mpr c),map_map,map_map];refine map_congr_left λe _=>?_;show(if e.1=p then _ else _)=en (wV p x e);unfold wV;by_cases z:e.1=p;.rw[if_pos z,if_pos z];rfl
   .rw[if_neg z,if_neg z]
 .rw[if_neg c,pD (by cases e:qW (es.map en) p with|false=>rfl|true=>exact absurd (h.mp e) c)];simp[en]
theorem J5:gq (ch.map zb) p (.bl true)=(pF ch p).map zb:=by
 have h:qW (ch.map zb) p=true↔p∈ch:=by show(Jx (ch.map zb)).contains p=true↔_;rw[Ru,List.contains_iff_mem]
 unfold pF;by_cases c:p∈ch
 . rw[if_pos c,vN (h.mpr c),map_map];refine map_congr_left λe _=>?_;show(if e=p then _ else _)=zb e;by_cases z:e=p;.rw[if_pos z,z];rfl
   .rw[if_neg z]
 .rw[if_neg c,pD (by cases e:qW (ch.map zb) p with|false=>rfl|true=>exact absurd (h.mp e) c)];simp[zb]
theorem vh{q:Int}:q∈pF ch p↔q∈ch\/q=p:=by
 unfold pF;split;.exact⟨.inl,λh=>h.elim id λe=>by rw[e];assumption⟩
 .simp
theorem Aa(h:ch.Nodup):(pF ch p).Nodup:=by
 unfold pF;split;.exact h
 .rename_i i;rw[nodup_append];exact⟨h,by simp,λa r b t e=>i (by rw[<-mem_singleton.mp t,<-e];exact r)⟩
theorem Dz:(nZ es p x).map (·.1)=pF (es.map (·.1)) p:=by
 unfold nZ pF;split
 . rw[map_map];refine map_congr_left λe _=>?_;show(wV p x e).1=e.1;unfold wV;split;.rename_i h;exact h.symm
   .rfl
 .simp
theorem fX{q:Int}{y:Nat×(Option az×Int)}:(q,y)∈nZ es p x↔(q=p/\y=x)\/(q≠p/\(q,y)∈es):=by
 unfold nZ;split
 . rename_i i;obtain⟨B,r,t⟩:=mem_map.mp i;rw[mem_map];constructor
   . rintro⟨e,he,h⟩;unfold wV at h;split at h;.cases h;exact .inl ⟨rfl,rfl⟩
     .rename_i u;subst h;exact .inr ⟨u,he⟩
   . rintro(⟨rfl,rfl⟩|⟨h1,A⟩);.exact⟨B,r,by unfold wV;rw[if_pos t]⟩
     .exact⟨_,A,by unfold wV;rw[if_neg h1]⟩
 . rename_i i;rw[mem_append,mem_singleton];constructor
   . rintro(h|h);.refine .inr ⟨λe=>i ?_,h⟩;rw[<-e];exact mem_map.mpr ⟨_,h,rfl⟩
     .cases h;exact .inl ⟨rfl,rfl⟩
   . rintro(⟨rfl,rfl⟩|⟨_,A⟩);.exact .inr rfl
     .exact .inl A
theorem pC{h:Type}[BEq h][LawfulBEq h]:∀{l l2:List h},l.Nodup->(∀a∈l,a∈l2)->l.length<=l2.length
 |[],_,_,_=>vy|a::l,l2,u,hs=>by
   have r:=hs a (by simp);have e:=nodup_cons.mp u;have:=pC (l:=l) (l2:=l2.erase a) e.2 λb t=>by
    have i:b≠a:=by rintro rfl;exact e.1 t
    exact(List.mem_erase_of_ne i).mpr (hs b (by simp[t]))
   rw[List.length_erase_of_mem r]at this;have:=List.length_pos_of_mem r;simp only[length_cons];omega
theorem six{l:List Int}(m1:m<=6)(e:l.Nodup)(h:∀p∈l,0<=p/\p<m):l.length<=6:=by
 have:=pC (l2:=[0,1,2,3,4,5]) e λq i=>by
  have:=h q i;have:q=0\/q=1\/q=2\/q=3\/q=4\/q=5:=by omega
  simpa using this
 simpa using this
theorem pX{fs:List Int}(h:jV ws fs p s=true):∃v g,ws[s.1]?=some v/\fs[s.1]?=some g/\frm v s.2=p/\0<nP v g s.2:=by
 unfold jV at h;split at h;.rename_i v g e i;simp at h;exact⟨v,g,e,i,h.1,h.2⟩
 .cases h
theorem vm(h:s.1<N):s∈gK N:=by unfold gK;rw[List.mem_flatMap];refine⟨s.1,by simp[h],?_⟩;obtain⟨j,f⟩:=s;cases f<;>simp
def iQ(ws:List Wy)(b:Int):List az->Int->Prop|[],a=>a=b|s::c,a=>∃v,ws[s.1]?=some v/\frm v s.2=a/\iQ ws b c (too v s.2)
def hst(ws:List Wy)(s:az):Int:=match ws[s.1]?with|some v=>hsp v s.2|none=>0
theorem jE(e:ws[s.1]?=some v):hst ws s=hsp v s.2:=by unfold hst;rw[e]
def cW(ws:List Wy):List az->Int|[]=>0|s::c=>hst ws s+cW ws c
theorem jU{ws:List Wy}{c2:List az}:∀{c1:List az},cW ws (c1++c2)=cW ws c1+cW ws c2|[]=>by simp[cW]|s::c=>by rw[List.cons_append,cW,jU,cW];omega
def sr(ws:List Wy)(fs:List Int)(c:List az):Prop:=∀s∈c,∃v,ws[s.1]?=some v/\jV ws fs (frm v s.2) s=true
theorem iQ.app{ws:List Wy}{b q:Int}{c2:List az}(i:iQ ws b c2 q):∀{c1:List az}{a:Int},iQ ws q c1 a->iQ ws b (c1++c2) a|[],a,h=>by have:a=q:=h;rw[this];exact i|s::c,a,⟨v,e,r,h⟩=>⟨v,e,r,iQ.app i h⟩
theorem BJ{ws:List Wy}{b:Int}{c2:List az}:∀{c1:List az}{a:Int},iQ ws b (c1++c2) a->∃q,iQ ws q c1 a/\iQ ws b c2 q|[],a,h=>⟨a,rfl,h⟩|s::c,a,⟨v,e,i,h⟩=>by obtain⟨q,h1,r⟩:=BJ (c1:=c) h;exact⟨q,⟨v,e,i,h1⟩,r⟩
def Pt(ws:List Wy)(fs:List Int)(F:Int->Int):Prop:=∀(s:az)(v:Wy),ws[s.1]?=some v->jV ws fs (frm v s.2) s=true->F (too v s.2)<=F (frm v s.2)+hsp v s.2
theorem m9{ws:List Wy}{fs:List Int}{F:Int->Int}(h:Pt ws fs F){b:Int}:∀{c:List az}{a:Int},iQ ws b c a->sr ws fs c->F b<=F a+cW ws c|[],a,i,_=>by have:a=b:=i;rw[this,cW];omega|s::c,a,⟨v,e,t,i⟩,ho=>by have h1:=m9 h i λu y=>ho u (mem_cons_of_mem _ y);obtain⟨B,r,o⟩:=ho s (by simp);rw[e]at r;cases r;have A:=h s v e o;rw[t]at A;rw[cW,jE e];omega
def yC(ws:List Wy)(s:az):Int:=match ws[s.1]?with|some v=>too v s.2|none=>0
def xm(ws:List Wy):List az->Int->List Int|[],a=>[a]|s::c,a=>a::xm ws c (yC ws s)
theorem Bt{ws:List Wy}:∀{c:List az}{a:Int},(xm ws c a).length=c.length+1|[],_=>rfl|s::c,a=>by rw[xm,length_cons,Bt];rfl
theorem Io{m:Int}{ws:List Wy}{b:Int}(i:HN m ws):∀{c:List az}{a:Int},iQ ws b c a->0<=a/\a<m->∀q∈xm ws c a,0<=q/\q<m
 |[],a,_,h,q,hq=>by rw[xm,mem_singleton]at hq;rw[hq];exact h|s::c,a,⟨v,e,t,r⟩,h,q,hq=>by
   rw[xm,mem_cons]at hq;rcases hq with rfl|hq;.exact h
   . have:yC ws s=too v s.2:=by unfold yC;rw[e]
     rw[this]at hq;exact Io i r (Eo i e s.2) q hq
theorem Bl{ws:List Wy}{b q:Int}:∀{c:List az}{a:Int},iQ ws b c a->q∈xm ws c a->∃c1 c2,c=c1++c2/\iQ ws q c1 a/\iQ ws b c2 q
 |[],a,h,hq=>by rw[xm,mem_singleton]at hq;exact⟨[],[],rfl,hq.symm,by rw[hq];exact h⟩|s::c,a,h,hq=>by
   rw[xm,mem_cons]at hq;rcases hq with rfl|hq;.exact⟨[],s::c,rfl,rfl,h⟩
   . obtain⟨v,e,i,r⟩:=h;have:yC ws s=too v s.2:=by unfold yC;rw[e]
     rw[this]at hq;obtain⟨c1,c2,rfl,h1,t⟩:=Bl r hq;exact⟨s::c1,c2,rfl,⟨v,e,i,h1⟩,t⟩
theorem Bd{ws:List Wy}{b:Int}:∀{c:List az}{a:Int},iQ ws b c a->¬(xm ws c a).Nodup->∃c1 c2 c3 q,c=c1++(c2++c3)/\0<c2.length/\iQ ws q c1 a/\iQ ws q c2 q/\iQ ws b c3 q
 |[],a,_,h=>absurd (by simp[xm]) h|s::c,a,⟨v,e,r,t⟩,h=>by
   have y:yC ws s=too v s.2:=by unfold yC;rw[e]
   rw[xm,y,nodup_cons]at h;by_cases u:a∈xm ws c (too v s.2);.obtain⟨c1,c2,rfl,h1,i⟩:=Bl t u;exact⟨[],s::c1,c2,a,rfl,by simp,rfl,⟨v,e,r,h1⟩,i⟩
   .obtain⟨c1,c2,c3,q,rfl,h0,h1,i,A⟩:=Bd t λz=>h ⟨u,z⟩;exact⟨s::c1,c2,c3,q,rfl,h0,⟨v,e,r,h1⟩,i,A⟩
def Le(h:Int)(n:Nat)(h':Int)(e:Nat):Prop:=h<h'\/(h=h'/\n<=e)
theorem Le.refl{h:Int}:Le h n h n:=.inr ⟨rfl,cQ⟩
theorem Le.trans{c:Int}(h1:Le a k b l)(e:Le b l c n):Le a k c n:=by unfold Le at*;omega
theorem Le.add(x:Int)(h1:Le a k b l):Le (a+x) (k+1) (b+x) (l+1):=by unfold Le at*;omega
theorem short{fs:List Int}(u:HN m ws)(h:Pt ws fs F)(y:0<=a/\a<m):∀(n:Nat){c:List az},c.length<=n->iQ ws b c a->sr ws fs c->∃e,iQ ws b e a/\sr ws fs e/\e.length<=5/\Le (cW ws e) e.length (cW ws c) c.length/\(xm ws e a).Nodup:=by
 intro n;have done:∀{c:List az},iQ ws b c a->(xm ws c a).Nodup->c.length<=5:=λi r=>by have:=six u.m1 r (Io u i y);rw[Bt]at this;omega
 induction n with|zero=>intro c hc i ho;have:c=[]:=List.eq_nil_of_length_eq_zero (by omega);subst this;exact⟨[],i,ho,by simp,.refl,by simp[xm]⟩|succ n A=>
   intro c hc i ho;by_cases r:(xm ws c a).Nodup;.exact⟨c,i,ho,done i r,.refl,r⟩
   .obtain⟨c1,c2,c3,q,rfl,h0,h1,B,C⟩:=Bd i r;have t:sr ws fs c2:=λs hs=>ho s (by simp[hs]);have hr:=m9 h B t;simp only[length_append]at hc;obtain⟨e,E,G,H,I,J⟩:=A (c:=c1++c3) (by simp only[length_append];omega) (iQ.app C h1) λs hs=>ho s (by rcases mem_append.mp hs with hs|hs<;>simp[hs]);refine⟨e,E,G,H,I.trans ?_,J⟩;rw[jU,jU,jU];simp only[length_append];unfold Le;omega
structure CZ(m:Int)(ws:List Wy)(fs:List Int)(bs:List (Int×Int))(es:List En):Prop where
 nd:(es.map (·.1)).Nodup
 M4:∀p l o,(p,l,o)∈es->0<=p/\p<m
 z:(0,0,(none,0))∈es
 wk:∀p l o,(p,l,o)∈es->∃a b c,(a,b)∈bs/\iQ ws p c a/\sr ws fs c/\c.length=l/\b+cW ws c=o.2
 stp:∀p l o,(p,l,o)∈es->(o.1=none/\(p,o.2)∈bs/\l=0)\/∃(s:az)(v:Wy)(l':Nat)(o':Option az×Int),o.1=some s/\ws[s.1]?=some v/\too v s.2=p/\jV ws fs (frm v s.2) s=true/\(frm v s.2,l',o')∈es/\Le (o'.2+hsp v s.2) (l'+1) o.2 l
theorem CZ.len{fs:List Int}{bs:List (Int×Int)}(h:CZ m ws fs bs es)(m1:m<=6):es.length<=6:=by
 have:=six m1 h.nd λp e=>by obtain⟨⟨p,l,o⟩,he,rfl⟩:=mem_map.mp e;exact h.M4 p l o he
 simpa using this
theorem jn{l:List En}{a b:Nat}{u:Option az×Int}(e:(l.map (·.1)).Nodup)(h1:(p,a,o)∈l)(h:(p,b,u)∈l):a=b/\o=u:=by have:=uA e h1 h;cases this;exact⟨rfl,rfl⟩
def At(es:List En)(p h:Int)(n:Nat):Prop:=∃l o,(p,l,o)∈es/\Le o.2 l h n
theorem At.le{h h':Int}{e:Nat}(a:At es p h n)(z:Le h n h' e):At es p h' e:=by obtain⟨l,o,h1,i⟩:=a;exact⟨l,o,h1,i.trans z⟩
structure Wh(m:Int)(ws:List Wy)(fs:List Int)(bs:List (Int×Int))(n:Nat)(R:List Int)(es:List En):Prop where
 cm:CZ m ws fs bs es
 row:∀p∈R,∃l o,(p,l,o)∈es
 nr:R.Nodup
 wl:∀a b c p,(a,b)∈bs->iQ ws p c a->sr ws fs c->c.length<=n->At es p (b+cW ws c) c.length
 cl:∀l o(s:az)v,ws[s.1]?=some v->frm v s.2∉R->(frm v s.2,l,o)∈es->jV ws fs (frm v s.2) s=true->At es (too v s.2) (o.2+hsp v s.2) (l+1)few:6<=n->R=[]
structure In(m:Int)(ws:List Wy)(fs:List Int)(bs:List (Int×Int))(n:Nat)(R:List Int)(tM:List En)(K:az->Prop)(es:List En)(ch:List Int):Prop where
 wh:Wh m ws fs bs n R tM
 cm:CZ m ws fs bs es
 le:∀p l o,(p,l,o)∈tM->At es p o.2 l
 out:∀p l o,p∉ch->(p,l,o)∈es->(p,l,o)∈tM
 chg:∀p∈ch,∃l o,(p,l,o)∈es
 nc:ch.Nodup
 dn:∀s,K s->∀v,ws[s.1]?=some v->∀l o,(frm v s.2,l,o)∈tM->At es (too v s.2) (o.2+hsp v s.2) (l+1)few:5<=n->ch=[]
theorem In.row{m:Int}{ws:List Wy}{fs:List Int}{bs:List (Int×Int)}{n:Nat}{R:List Int}{tM:List En}{K:az->Prop}{es:List En}{ch:List Int}(h:In m ws fs bs n R tM K es ch){p:Int}(e:p∈R):∃l o,(p,l,o)∈es:=by obtain⟨l,o,z⟩:=h.wh.row p e;obtain⟨l,o,z,_⟩:=h.le _ _ _ z;exact⟨l,o,z⟩
theorem In.keep{fs:List Int}{bs:List (Int×Int)}{R:List Int}(h:In m ws fs bs n R tM K es ch)(e:ws[s.1]?=some v)(t:(frm v s.2,l,o)∈es)(y:At es (too v s.2) (o.2+hsp v s.2) (l+1)):In m ws fs bs n R tM (λu=>K u\/u=s) es ch:=by
 refine⟨h.wh,h.cm,h.le,h.out,h.chg,h.nc,λu i=>?_,h.few⟩;rcases i with i|rfl;.exact h.dn u i
 .intro C r E G h0;rw[e]at r;cases r;obtain⟨H,I,A,B⟩:=h.le _ _ _ h0;obtain⟨rfl,rfl⟩:=jn h.cm.nd t A;exact y.le (B.add _)
theorem In.put{fs:List Int}{bs:List (Int×Int)}{R:List Int}(h:In m ws fs bs n R tM K es ch)(I:HN m ws)(hF:Pt ws fs F)(hb:∀a b,(a,b)∈bs->0<=a/\a<m)(hZ:∀a b c,(a,b)∈bs->iQ ws 0 c a->sr ws fs c->0<=b+cW ws c)(e:ws[s.1]?=some v)(J:(frm v s.2,l,o)∈es)(ho:jV ws fs (frm v s.2) s=true)(L:¬ At es (too v s.2) (o.2+hsp v s.2) (l+1)):In m ws fs bs n R tM (λu=>K u\/u=s) (nZ es (too v s.2) (l+1,(some s,o.2+hsp v s.2))) (pF ch (too v s.2)):=by
 have m0:=I.m0;obtain⟨B,b0,c,c0,c1,c2,c3,c4⟩:=h.cm.wk _ _ _ J;have E:iQ ws (too v s.2) (c++[s]) B:=iQ.app (c2:=[s]) ⟨v,e,rfl,rfl⟩ c1;have M:sr ws fs (c++[s]):=λu hu=>by
  rcases mem_append.mp hu with hu|hu;.exact c2 u hu
  .rw[mem_singleton.mp hu];exact⟨v,e,ho⟩
 have Y:(c++[s]).length=l+1:=by simp[c3]
 have O:b0+cW ws (c++[s])=o.2+hsp v s.2:=by rw[jU,<-c4,cW,cW,jE e];omega
 have r:(too v s.2,l+1,(some s,o.2+hsp v s.2))∈nZ es (too v s.2) (l+1,(some s,o.2+hsp v s.2)):=fX.mpr (.inl ⟨rfl,rfl⟩);have mono:∀{q l2 i},(q,l2,i)∈es->At (nZ es (too v s.2) (l+1,(some s,o.2+hsp v s.2))) q i.2 l2:=λ{q l2 i}z=>by
  by_cases c:q=too v s.2;.subst c;refine⟨_,_,r,?_⟩;have:¬ Le i.2 l2 (o.2+hsp v s.2) (l+1):=λy=>L ⟨_,_,z,y⟩;unfold Le at this ⊢;simp only;omega
  .exact⟨l2,i,fX.mpr (.inr ⟨c,z⟩),.refl⟩
 have Z:∀{q h n},At es q h n->At (nZ es (too v s.2) (l+1,(some s,o.2+hsp v s.2))) q h n:=λ⟨l2,i,C,U⟩=>(mono C).le U;refine⟨h.wh,⟨by rw[Dz];exact Aa h.cm.nd,λp l o z=>?_,?_,λp l2 i z=>?_,λp l2 i z=>?_⟩,λp l o z=>Z (h.le p l o z),λp l o hc z=>?_,λp hc=>?_,Aa h.nc,λu hu=>?_,λh5=>?_⟩
 . rcases fX.mp z with⟨rfl,_⟩|⟨_,z⟩;.exact Eo I e s.2
   .exact h.cm.M4 p l o z
 .refine fX.mpr (.inr ⟨λz=>L ?_,h.cm.z⟩);have:=hZ B b0 _ c0 (by rw[<-z]at E;exact E) M;rw[O]at this;rw[<-z];exact⟨_,_,h.cm.z,by unfold Le;simp only;omega⟩
 . rcases fX.mp z with⟨rfl,y⟩|⟨_,z⟩;.cases y;exact⟨B,b0,_,c0,E,M,Y,O⟩
   .exact h.cm.wk p l2 i z
 . rcases fX.mp z with⟨rfl,y⟩|⟨_,z⟩;.cases y;obtain⟨l',o',t,A⟩:=mono J;exact .inr ⟨s,v,l',o',rfl,e,rfl,ho,t,A.add _⟩
   . rcases h.cm.stp p l2 i z with z|⟨s',G,l',o',C,z3,z4,z5,z6,z7⟩;.exact .inl z
     .obtain⟨W,X,t,A⟩:=mono z6;exact .inr ⟨s',G,W,X,C,z3,z4,z5,t,(A.add _).trans z7⟩
 . rw[vh,not_or]at hc;rcases fX.mp z with⟨rfl,_⟩|⟨_,z⟩;.exact absurd rfl hc.2
   .exact h.out p l o hc.1 z
 . rcases vh.mp hc with hc|rfl;.obtain⟨l2,i,z⟩:=h.chg p hc;obtain⟨W,X,z,_⟩:=mono z;exact⟨W,X,z⟩
   .exact⟨_,_,r⟩
 . rcases hu with hu|rfl;.exact λG H l0 o0 h0=>Z (h.dn u hu G H l0 o0 h0)
   .intro G H l0 o0 h0;rw[e]at H;cases H;obtain⟨l1,o1,t,A⟩:=h.le _ _ _ h0;obtain⟨rfl,rfl⟩:=jn h.cm.nd J t;exact⟨_,_,r,A.add _⟩
 .obtain⟨c',t,A,q3,q4,_⟩:=short I hF (hb B b0 c0) _ (cQ) E M;obtain⟨l1,o1,C,U⟩:=h.wh.wl B b0 c' _ c0 t A (by omega);rw[Y]at q4;refine absurd ((h.le _ _ _ C).le (U.trans ?_)) L;rw[<-O];unfold Le at q4 ⊢;omega
def bE(p:Int×Int):En:=(p.1,0,(none,p.2))
theorem Wh.start{fs:List Int}{bs:List (Int×Int)}(u:∀a b,(a,b)∈bs->0<=a/\a<m)(h0:(0,0)∈bs)(t:(bs.map (·.1)).Nodup):Wh m ws fs bs 0 (bs.map (·.1)) (bs.map bE):=by
 have y:(bs.map bE).map (·.1)=bs.map (·.1):=by rw[map_map];rfl
 have un:∀{p l o},(p,l,o)∈bs.map bE->l=0/\o.1=none/\(p,o.2)∈bs:=λ{p l o}z=>by obtain⟨⟨a,b⟩,h1,e⟩:=mem_map.mp z;cases e;exact⟨rfl,rfl,h1⟩
 have to:∀{a b},(a,b)∈bs->(a,0,(none,b))∈bs.map bE:=λh=>mem_map.mpr ⟨_,h,rfl⟩;refine⟨⟨by rw[y];exact t,λp l o z=>u _ _ (un z).2.2,to h0,λp l o z=>?_,λp l o z=>.inl ⟨(un z).2.1,(un z).2.2,(un z).1⟩⟩,λp i=>?_,t,λa b c p r i _ hc=>?_,λl o s v _ A z=>?_,λh=>by omega⟩;.exact⟨p,o.2,[],(un z).2.2,rfl,λs hs=>(by cases hs),(un z).1.symm,by rw[cW];omega⟩
 .obtain⟨⟨a,b⟩,h1,rfl⟩:=mem_map.mp i;exact⟨_,_,to h1⟩
 .cases c with|nil=>have:a=p:=i;subst this;exact⟨0,(none,b),to r,by unfold Le cW;simp⟩|cons _ _=>simp at hc
 .exact absurd (mem_map.mpr ⟨_,(un z).2.2,rfl⟩) A
theorem Wh.to{fs:List Int}{bs:List (Int×Int)}{R:List Int}(h:Wh m ws fs bs n R es):In m ws fs bs n R es (λ_=>False) es []:=⟨h,h.cm,λp l o z=>⟨l,o,z,.refl⟩,λp l o _ z=>z,λp e=>(by cases e),.nil,λs hs=>hs.elim,λ_=>rfl⟩
theorem In.out'{fs:List Int}{bs:List (Int×Int)}{R:List Int}(h:In m ws fs bs n R tM (λs=>∃p∈R,jV ws fs p s=true) es ch):Wh m ws fs bs (n+1) ch es:=by
 have i:∀{p h' k},At tM p h' k->At es p h' k:=λ⟨l,o,t,y⟩=>(h.le _ _ _ t).le y;have C:∀(s:az)v l o,ws[s.1]?=some v->(frm v s.2,l,o)∈tM->jV ws fs (frm v s.2) s=true->At es (too v s.2) (o.2+hsp v s.2) (l+1):=λs v l o e z ho=>by
  by_cases c:frm v s.2∈R;.exact h.dn s ⟨_,c,ho⟩ v e l o z
  .exact i (h.wh.cl l o s v e c z ho)
 refine⟨h.cm,h.chg,h.nc,λa b c p r E ho hc=>?_,λl o s v e hc z hs=>C s v l o e (h.out _ _ _ hc z) hs,λL=>h.few (by omega)⟩;rcases List.eq_nil_or_concat c with rfl|⟨A,s,rfl⟩;.exact i (h.wh.wl a b [] p r E ho (vy))
 . rw[List.concat_eq_append]at*;obtain⟨q,h1,v,e,rfl,B⟩:=BJ E;have B:too v s.2=p:=B;subst B;obtain⟨M,G,H⟩:=ho s (by simp);rw[e]at G;cases G;simp only[length_append,length_cons,length_nil]at hc;obtain⟨l,o,t,y⟩:=h.wh.wl a b A _ r h1 (λu I=>ho u (by simp[I])) (by omega);refine(C s v l o e t H).le ?_;have:=y.add (hsp v s.2);have J:cW ws (A++[s])=cW ws A+hsp v s.2:=by rw[jU,cW,cW,jE e];omega
   rw[J,<-Int.add_assoc];simpa using this
structure Gh(m:Int)(ws:List Wy)(fs:List Int)(bs:List (Int×Int))(es:List En):Prop where
 cm:CZ m ws fs bs es
 cl:∀l o(s:az)v,ws[s.1]?=some v->(frm v s.2,l,o)∈es->jV ws fs (frm v s.2) s=true->At es (too v s.2) (o.2+hsp v s.2) (l+1)bg:∀a b,(a,b)∈bs->At es a b 0
theorem Wh.fin{fs:List Int}{bs:List (Int×Int)}(h:Wh m ws fs bs n [] es):Gh m ws fs bs es:=⟨h.cm,λl o s v e z ho=>h.cl l o s v e (by simp) z ho,λa b i=>by have:=h.wl a b [] a i rfl (λs hs=>by cases hs) (vy);simpa[cW]using this⟩
abbrev Cme(m:Int)(ws:List Wy)(fs:List Int)(es:List En):Prop:=CZ m ws fs [(0,0)] es
abbrev fY(m:Int)(ws:List Wy)(fs:List Int)(es:List En):Prop:=Gh m ws fs [(0,0)] es
theorem In.imp{fs:List Int}{bs:List (Int×Int)}{R:List Int}{e:az->Prop}(h:In m ws fs bs n R tM K es ch)(z:∀s,e s->K s):In m ws fs bs n R tM e es ch:=⟨h.wh,h.cm,h.le,h.out,h.chg,h.nc,λs hs=>h.dn s (z s hs),h.few⟩
theorem RT{fs:List Int}{l:List az}(e:0<=p/\p<m):at' ((rD (iZ ws fs m.toNat l)).map D.lst) p=some (.lst ((l.filter (jV ws fs p)).map sD)):=by rw[yJ e.1 (by simp[rD,iZ];omega)];simp[rD,iZ,show p.toNat<m.toNat by omega,Int.toNat_of_nonneg e.1]
@[simp]theorem cut3{a b c:D}:M9 (.tup [a,b,c]) (part (.con .non) .non) (part (.con (.int 2)) (.int 2))=some (.val (.tup [a,b])):=rfl
theorem Rr{i j:Int}:cm .lt (.tup [.int a,.int i]) (.tup [.int b,.int j])=some (cF [a,i] [b,j]):=rfl
theorem lex_lt{i:Nat}:cF [a,(i:Int)] [b,(j:Int)]=true↔¬ Le b j a i:=by unfold Le;simp[cF];omega
def xO(bs:List (Int×Int)):Sl:=.val false (.dv (bs.map (·.1)) (bs.map λp=>.int p.2))
abbrev bg:Sl:=xO [(0,0)]
inductive JC2(m:Int)(ws:List Wy)(fs:List Int)(bs:List (Int×Int))(a0 a1 a2 a3 a6:Sl)(n:Nat)(R:List Int)(tM:List En)(pre:List Int)(p:Int)(r:List D)(ρ:List Sl):Prop where|mk(es:List En)(ch:List Int)(dF us:List az)(s8 s9 qX:Sl)(q0:ρ=[a0,a1,a2,a3,.cJ (es.map en),.val false (.int p),a6,.cJ (ch.map zb),s8,s9,qX])(q1:A3 (fr s8=true) (fr s9=true) (fr qX=true))(q2:r=us.map sD)(q3:dF++us=(gK ws.length).filter (jV ws fs p))(q4:In m ws fs bs n R tM (λs=>(∃q∈pre,jV ws fs q s=true)\/s∈dF) es ch)
inductive JC1(m:Int)(ws:List Wy)(fs:List Int)(bs:List (Int×Int))(a0 a1 a2 a3 a6:Sl)(n:Nat)(R:List Int)(tM:List En)(r:List D)(ρ:List Sl):Prop where|mk(es:List En)(ch pre qs:List Int)(s5 s8 s9 qX:Sl)(q0:ρ=[a0,a1,a2,a3,.cJ (es.map en),s5,a6,.cJ (ch.map zb),s8,s9,qX])(q1:A4 (fr s5=true) (fr s8=true) (fr s9=true) (fr qX=true))(q2:r=qs.map D.int)(q3:pre++qs=R)(q4:In m ws fs bs n R tM (λs=>∃q∈pre,jV ws fs q s=true) es ch)
inductive JCw(m:Int)(ws:List Wy)(fs:List Int)(bs:List (Int×Int))(a0 a1 a2 a3:Sl)(M:Nat)(ρ:List Sl):Prop where|mk(n:Nat)(R:List Int)(es:List En)(s5 s7 s8 s9 qX:Sl)(q0:ρ=[a0,a1,a2,a3,.cJ (es.map en),s5,.own false (R.map D.int),s7,s8,s9,qX])(q1:A4 (fr s5=true) (fr s8=true) (fr s9=true) (fr qX=true))(q2:(s7=.aP\/∃d,s7=.val false d))(q3:Wh m ws fs bs n R es)(q4:7<=n+M)
inductive JC0(a0 a1 a2 a3:Sl)(bs:List (Int×Int))(r:List D)(ρ:List Sl):Prop where|mk(dF us:List (Int×Int))(s5:Sl)(q0:ρ=[a0,a1,a2,a3,.cJ ((dF.map bE).map en),s5,.aP,.aP,.aP,.aP,.aP])(q1:fr s5=true)(q2:r=(us.map (·.1)).map D.int)(q3:dF++us=bs)
theorem Ak{a b:Int}:∀{bs:List (Int×Int)},(bs.map (·.1)).Nodup->(a,b)∈bs->lu ((bs.map (·.1)).zip (bs.map λp=>D.int p.2)) a=some (.int b)
 |[],_,h=>by cases h|p::bs,e,h=>by
   rw[map_cons,nodup_cons]at e;unfold lu;rw[map_cons,map_cons,List.zip_cons_cons,find?_cons];rcases mem_cons.mp h with h|h;.subst h;simp
   .have i:p.1≠a:=λz=>e.1 (by rw[z];exact mem_map.mpr ⟨_,h,rfl⟩);have:=Ak e.2 h;unfold lu at this;simpa[i]using this
theorem CJ{s:Sl}{fs:List Int}{bs:List (Int×Int)}(hw:100<=w)(hF:Pt ws fs F)(hb:∀a b,(a,b)∈bs->0<=a/\a<m)(h0:(0,0)∈bs)(I:(bs.map (·.1)).Nodup)(hZ:∀a b c,(a,b)∈bs->iQ ws 0 c a->sr ws fs c->0<=b+cW ws c)(hs:UL s fs)(h:HN m ws)(hf:fs.length=ws.length)(k:∀es,Gh m ws fs bs es->Q (.val (kh es)) [.val false (aL m ws),s,xO bs]):(run Γ w (n+3) 4 [.val false (aL m ws),s,xO bs]).sat Q:=by
 have hn:=h.len;have m0:=h.m0;have m1:=h.m1;refine aN (d:=f4) rfl rfl (by decide) ?_;refine fB (λρ=>ρ=[.val false (aL m ws),s,xO bs,.val false (.lst ((rD (iZ ws fs m.toNat (gK ws.length))).map D.lst)),.aP,.aP,.aP,.aP,.aP,.aP,.aP]) ?_ ?_;.have ar:=hs;rcases hs with rfl|⟨b,rfl⟩;all_goals simp[f4,xO];refine HS (by first|exact .inl rfl|exact .inr ⟨_,rfl⟩) h hf ?_;simp
 rintro _ rfl;generalize hA:((rD (iZ ws fs m.toNat (gK ws.length))).map D.lst)=A;have av:bs.length<=6:=by
  have:=six m1 I λp hp=>by obtain⟨⟨a,b⟩,h1,rfl⟩:=mem_map.mp hp;exact hb a b h1
  simpa using this
 apply ak;simp;apply ak;simp[xO];refine cM (JC0 (.val false (aL m ws)) s (xO bs) (.val false (.lst A)) bs) ?_ ?_ ⟨[],bs,.aP,rfl,rfl,by rw[map_map],rfl⟩;.rintro d r _⟨E,B,s5,rfl,O,hr,hd⟩;cases B with|nil=>cases hr|cons u B=>
     obtain⟨rfl,rfl⟩:d=.int u.1/\r=(B.map (·.1)).map D.int:=by simpa using hr
     have ag:(E++[u])++B=bs:=by rw[append_assoc];exact hd
     have hg:=Ak (a:=u.1) (b:=u.2) I (by rw[<-hd];simp);have hk:qW ((E.map bE).map en) u.1=false:=kin_no λ⟨l,o,z⟩=>by obtain⟨⟨a,b⟩,h1,e⟩:=mem_map.mp z;cases e;rw[<-hd,map_append,nodup_append]at I;exact I.2.2 u.1 (mem_map.mpr ⟨_,h1,rfl⟩) u.1 (by simp) rfl
     have hp:gq ((E.map bE).map en) u.1 (.tup [.int u.2,.int 0,.non])=((E++[u]).map bE).map en:=by rw[pD hk,map_append,map_append];rfl
     have aw:E.length<=bs.length:=by rw[<-hd];simp
     simp[O];apply ak;rw[map_map]at hp;simp[xO,hg];refine⟨λ_=>⟨E++[u],B,.val false (.int u.1),by rw[hp],rfl,(map_map ..).symm,ag⟩,by show _<16777216;omega⟩
 rintro _⟨E,B,s5,rfl,O,hr,hd⟩;have:B=[]:=by cases B with|nil=>rfl|cons _ _=>cases hr
 subst this;rw[append_nil]at hd;obtain rfl:bs=E:=hd.symm;simp;apply ak;simp[xO,show bs.length<=16777216 by omega];apply ak;simp;rw[show map (en ∘ bE) bs=(bs.map bE).map en from(map_map ..).symm,show map (D.int ∘ λx=>x.1) bs=(bs.map (·.1)).map D.int from(map_map ..).symm];refine jj (JCw m ws fs bs _ _ _ _) ?_ (k:=w) (m:=50) (by omega) ⟨0,bs.map (·.1),bs.map bE,s5,.aP,.aP,.aP,.aP,rfl,⟨O,rfl,rfl,rfl⟩,.inl rfl,Wh.start hb h0 I,by omega⟩;rintro M _⟨Z,R,es,s5,s7,s8,s9,qX,rfl,⟨O,U,W,C⟩,h7,hW,hM⟩;by_cases hR:R=[];.subst hR;simp;apply ak;simp;have:=k es hW.fin;simp[Function.comp_def,en];exact this
 . have ah:0<R.length:=by cases R with|nil=>exact absurd rfl hR|cons _ _=>simp
   simp[ah];refine fB (λρ=>ρ=[.val false (aL m ws),s,xO bs,.val false (.lst A),.cJ (es.map en),s5,.own false (R.map D.int),.cJ [],s8,s9,qX]) ?_ ?_
   . rcases h7 with rfl|⟨d,rfl⟩;.simp[xO]
     .simp[xO]
   rintro _ rfl;symm;simp;refine cM (JC1 m ws fs bs _ _ _ _ _ Z R es) ?_ ?_ ⟨es,[],[],R,s5,s8,s9,qX,rfl,⟨O,U,W,C⟩,rfl,rfl,hW.to.imp λs hs=>by obtain⟨q,hq,_⟩:=hs;cases hq⟩;.rintro d r _⟨es',ch,pre,qs,s5,s8,s9,qX,rfl,⟨O,U,W,C⟩,hr,J,t⟩;cases qs with|nil=>cases hr|cons p qs=>
       obtain⟨rfl,rfl⟩:d=.int p/\r=qs.map D.int:=by simpa using hr
       have af:p∈R:=by rw[<-J];simp
       have ai:0<=p/\p<m:=by obtain⟨l,o,ho⟩:=t.row af;exact t.cm.M4 _ _ _ ho
       have Y:=RT (ws:=ws) (fs:=fs) (l:=gK ws.length) ai;rw[hA]at Y;simp[O];apply ak;simp[Y];refine cM (JC2 m ws fs bs _ _ _ _ _ Z R es pre p) ?_ ?_ ⟨es',ch,[],_,s8,s9,qX,rfl,⟨U,W,C⟩,rfl,rfl,t.imp λs hs=>by rcases hs with hs|hs;exact hs;cases hs⟩;.rintro d r _⟨es',ch,E,B,s8,s9,qX,rfl,⟨U,W,C⟩,hr,L,t⟩;cases B with|nil=>cases hr|cons u B=>
           obtain⟨rfl,rfl⟩:d=sD u/\r=B.map sD:=by simpa using hr
           have hu:jV ws fs p u=true:=by
            have:u∈(gK ws.length).filter (jV ws fs p):=by rw[<-L];simp
            exact(List.mem_filter.mp this).2
           obtain⟨v,g,e1,e2,e3,e4⟩:=pX hu;have Ym:(E++[u])++B=(gK ws.length).filter (jV ws fs p):=by rw[append_assoc];exact L
           obtain⟨H,op,ac⟩:=t.row af;subst e3;have gp:=oJ t.cm.nd ac;have ap:=t.cm.len m1;have am:ch.length<=6:=six m1 t.nc λq hq=>by obtain⟨l,o,z⟩:=t.chg q hq;exact t.cm.M4 _ _ _ z
           have Yn:∀s,((∃q∈pre,jV ws fs q s=true)\/s∈E++[u])->((∃q∈pre,jV ws fs q s=true)\/s∈E)\/s=u:=λs hs=>by
            rcases hs with hs|hs;.exact .inl (.inl hs)
            . rcases mem_append.mp hs with hs|hs;.exact .inl (.inr hs)
              .exact .inr (by simpa using hs)
           simp[U];apply ak;simp[sD];refine lD e1 ?_;simp[W];apply ak;simp[gp,Ab];refine Dg e1 ?_;simp[gp,Ab,C];apply ak;have keep:At es' (too v u.2) (op.2+hsp v u.2) (H+1)->JC2 m ws fs bs (.val false (aL m ws)) s (xO bs) (.val false (.lst A)) (.lent (R.map D.int)) Z R es pre (frm v u.2) (B.map sD) [.val false (aL m ws),s,xO bs,.val false (.lst A),.cJ (es'.map en),.val false (.int (frm v u.2)),.lent (R.map D.int),.cJ (ch.map zb),.val false (eU u.1 u.2),.val false (.int (too v u.2)),.val false (.tup [.int (op.2+hsp v u.2),.int ((H:Int)+1)])]:=λG=>⟨es',ch,E++[u],B,_,_,_,rfl,⟨rfl,rfl,rfl⟩,rfl,Ym,(t.keep e1 ac G).imp Yn⟩;have Yo:¬ At es' (too v u.2) (op.2+hsp v u.2) (H+1)->JC2 m ws fs bs (.val false (aL m ws)) s (xO bs) (.val false (.lst A)) (.lent (R.map D.int)) Z R es pre (frm v u.2) (B.map sD) [.val false (aL m ws),s,xO bs,.val false (.lst A),.cJ ((nZ es' (too v u.2) (H+1,(some u,op.2+hsp v u.2))).map en),.val false (.int (frm v u.2)),.lent (R.map D.int),.cJ ((pF ch (too v u.2)).map zb),.val false (eU u.1 u.2),.val false (.int (too v u.2)),.val false (.tup [.int (op.2+hsp v u.2),.int ((H:Int)+1)])]:=λG=>⟨_,_,E++[u],B,_,_,_,rfl,⟨rfl,rfl,rfl⟩,rfl,Ym,(t.put h hF hb hZ e1 ac hu G).imp Yn⟩;have p1:gq (es'.map en) (too v u.2) (.tup [.int (op.2+hsp v u.2),.int ((H:Int)+1),eU u.1 u.2])=(nZ es' (too v u.2) (H+1,(some u,op.2+hsp v u.2))).map en:=by rw[<-J2];simp[Ab,oS,sD]
           have p2:gq (ch.map zb) (too v u.2) (.bl true)=(pF ch (too v u.2)).map zb:=J5;by_cases hq:∃l o,(too v u.2,l,o)∈es'
           . obtain⟨l,o,X⟩:=hq;have gt:=oJ t.cm.nd X;have kt:qW (es'.map en) (too v u.2)=true:=xR.mpr ⟨l,o,X⟩;have ae:=lex_lt (a:=op.2+hsp v u.2) (i:=H+1) (b:=o.2) (j:=l);rw[show((H+1:Nat):Int)=(H:Int)+1 by omega]at ae;simp[kt,gt,Ab,Rr];refine⟨λz=>?_,λz=>?_⟩
             . have G:¬ At es' (too v u.2) (op.2+hsp v u.2) (H+1):=λ⟨l2,o2,y1,y2⟩=>by obtain⟨rfl,rfl⟩:=jn t.cm.nd X y1;exact ae.mp z y2
               symm;simp[p1];refine⟨by decide,λ_=>?_,by show _<16777216;omega⟩;symm;simp[p2];refine⟨λ_=>Yo G,by show _<16777216;omega⟩
             . have G:At es' (too v u.2) (op.2+hsp v u.2) (H+1):=by
                refine⟨l,o,X,?_⟩;by_cases y:Le o.2 l (op.2+hsp v u.2) (H+1);.exact y
                .rw[ae.mpr y]at z;cases z
               exact keep G
           .have kt:qW (es'.map en) (too v u.2)=false:=kin_no hq;simp[kt];apply ak;simp[p1];refine⟨by decide,λ_=>?_,by show _<16777216;omega⟩;symm;simp[p2];exact⟨λ_=>Yo λ⟨l2,o2,y1,_⟩=>hq ⟨l2,o2,y1⟩,by show _<16777216;omega⟩
       . rintro _⟨es',ch,E,B,s8,s9,qX,rfl,⟨U,W,C⟩,hr,L,t⟩;have:B=[]:=by cases B with|nil=>rfl|cons _ _=>cases hr
         subst this;rw[append_nil]at L;simp;refine⟨es',ch,pre++[p],qs,_,_,_,_,rfl,⟨rfl,U,W,C⟩,rfl,by rw[append_assoc];exact J,t.imp λs hs=>?_⟩;obtain⟨q,hq,hs⟩:=hs;rcases mem_append.mp hq with hq|hq;.exact .inl ⟨q,hq,hs⟩
         . obtain rfl:q=p:=by simpa using hq
           refine .inr ?_;rw[L];obtain⟨v,g,e1,_⟩:=pX hs;exact List.mem_filter.mpr ⟨vm (dU e1).1,hs⟩
   . rintro _⟨es',ch,pre,qs,s5,s8,s9,qX,rfl,⟨O,U,W,C⟩,hr,J,t⟩;have:qs=[]:=by cases qs with|nil=>rfl|cons _ _=>cases hr
     subst this;rw[append_nil]at J;subst J;have am:ch.length<=6:=six m1 t.nc λq hq=>by obtain⟨l,o,z⟩:=t.chg q hq;exact t.cm.M4 _ _ _ z
     have hO:=t.out';have ax:Z<6:=by
      by_cases c:6<=Z;.exact absurd (hW.few c) hR
      .omega
     simp;apply ak;simp[show ch.length<=16777216 by omega];exact⟨M-1,by omega,Z+1,ch,es',_,_,_,_,_,rfl,⟨O,U,W,C⟩,.inr ⟨_,rfl⟩,hO,by omega⟩
theorem pL{s:Sl}{fs:List Int}(r:100<=w)(i:Pt ws fs F)(hs:UL s fs)(h:HN m ws)(t:fs.length=ws.length)(k:∀es,fY m ws fs es->Q (.val (kh es)) [.val false (aL m ws),s,bg]):(run Γ w (n+3) 4 [.val false (aL m ws),s,bg]).sat Q:=by
 have m0:=h.m0;have one:∀{a b:Int},(a,b)∈[((0:Int),(0:Int))]->a=0/\b=0:=λe=>by have:=mem_singleton.mp e;cases this;exact⟨rfl,rfl⟩
 refine CJ r i (λa b e=>by obtain⟨rfl,rfl⟩:=one e;omega) (by simp) (by simp) (λa b c e u ho=>?_) hs h t k;obtain⟨rfl,rfl⟩:=one e;have:=m9 i u ho;omega
theorem fY.all{m:Int}{ws:List Wy}{fs:List Int}{es:List En}(h:fY m ws fs es){b:Int}:∀{c:List az}{a:Int}{l:Nat}{o:Option az×Int},iQ ws b c a->sr ws fs c->(a,l,o)∈es->At es b (o.2+cW ws c) (l+c.length)|[],a,l,o,i,_,z=>by have:a=b:=i;subst this;exact⟨l,o,z,by unfold Le cW;simp⟩|s::c,a,l,o,⟨v,e,t,i⟩,ho,z=>by subst t;obtain⟨H,r,y⟩:=ho s (by simp);rw[e]at r;cases r;obtain⟨I,J,A,L⟩:=h.cl l o s v e z y;obtain⟨l2,B,C,E⟩:=fY.all h i (λu G=>ho u (mem_cons_of_mem _ G)) A;refine⟨l2,B,C,E.trans ?_⟩;rw[cW,jE e,length_cons];unfold Le at*;omega
theorem fY.l5{fs:List Int}(h:fY m ws fs es)(i:HN m ws)(r:Pt ws fs F)(z:(p,l,o)∈es):l<=5:=by
 have m0:=i.m0;obtain⟨a,b,c,e,c1,c2,c3,c4⟩:=h.cm.wk p l o z;obtain⟨rfl,rfl⟩:a=0/\b=0:=by have:=mem_singleton.mp e;cases this;exact⟨rfl,rfl⟩
 obtain⟨C,t,u,E,y,_⟩:=short i r ⟨by omega,by omega⟩ _ (cQ) c1 c2;obtain⟨l2,G,A,B⟩:=h.all t u h.cm.z;obtain⟨rfl,rfl⟩:=jn h.cm.nd z A;rw[Int.zero_add]at c4;rw[c3,c4]at y;unfold Le at*;simp only at B;omega
theorem fY.on{fs:List Int}(h:fY m ws fs es)(z:(p,l,o)∈es):(o=(none,0)/\p=0/\l=0)\/∃(s:az)(v:Wy)(i:Nat)(e:Option az×Int),o=(some s,e.2+hsp v s.2)/\l=i+1/\ws[s.1]?=some v/\too v s.2=p/\jV ws fs (frm v s.2) s=true/\(frm v s.2,i,e)∈es:=by
 rcases h.cm.stp p l o z with⟨h1,r,rfl⟩|⟨s,v,i,e,h1,t,rfl,u,y,B⟩
 . obtain⟨rfl,_⟩:p=0/\o.2=0:=by have:=mem_singleton.mp r;exact⟨congrArg Prod.fst this,congrArg Prod.snd this⟩
   exact .inl ⟨(jn h.cm.nd z h.cm.z).2,rfl,rfl⟩
 . obtain⟨l2,C,A,E⟩:=h.cl i e s v t y u;obtain⟨rfl,rfl⟩:=jn h.cm.nd z A;refine .inr ⟨s,v,i,e,?_,?_,t,rfl,u,y⟩;.exact Prod.ext_iff.mpr ⟨h1,by show _=e.2+hsp v s.2;unfold Le at*;omega⟩
   .unfold Le at*;omega
structure Od(ws:List Wy)(fs:List Int)(es:List En)(p:Int)(L:Nat)(H:Int)(a:Int)(l:Nat)(h:Int)(c:List az):Prop where
 Jr:iQ ws p c a
 iZ:sr ws fs c
 nd:(c.map (·.1)).Nodup
 lv:∀s∈c,∀v,ws[s.1]?=some v->∃l1 o1 o2,(frm v s.2,l1,o1)∈es/\(too v s.2,l1+1,o2)∈es/\l<=l1
 len:c.length+l=L
 hrs:cW ws c+h=H
theorem lN{g:Bool}(h:g≠f):frm v g=too v f/\too v g=frm v f:=by cases f<;>cases g<;>first|exact absurd rfl h|exact⟨rfl,rfl⟩
theorem Od.cons{m:Int}{ws:List Wy}{fs:List Int}{es:List En}{p:Int}{L l:Nat}{H x:Int}{c:List az}{s:az}{v:Wy}{o E:Option az×Int}(hc:Cme m ws fs es)(h:Od ws fs es p L H (too v s.2) (l+1) (x+hsp v s.2) c)(e:ws[s.1]?=some v)(h1:(too v s.2,l+1,o)∈es)(y:(frm v s.2,l,E)∈es)(ho:jV ws fs (frm v s.2) s=true):Od ws fs es p L H (frm v s.2) l x (s::c):=by
 refine⟨⟨v,e,rfl,h.Jr⟩,λu hu=>?_,?_,λu hu x ex=>?_,by have:=h.len;simp only[length_cons];omega,by have:=h.hrs;rw[cW,jE e];omega⟩
 . rcases mem_cons.mp hu with rfl|hu;.exact⟨v,e,ho⟩
   .exact h.iZ u hu
 . rw[map_cons,nodup_cons];refine⟨λG=>?_,h.nd⟩;obtain⟨t,ht,I⟩:=mem_map.mp G;obtain⟨A,B,C,i,r,J⟩:=h.lv t ht v (by rw[I];exact e);by_cases z:t.2=s.2;.rw[z]at i;have:=(jn hc.nd i y).1;omega
   .rw[(lN z).2]at r;have:=(jn hc.nd r y).1;omega
 . rcases mem_cons.mp hu with rfl|hu;.rw[e]at ex;cases ex;exact⟨l,_,_,y,h1,cQ⟩
   .obtain⟨A,B,C,i,r,J⟩:=h.lv u hu x ex;exact⟨A,B,C,i,r,by omega⟩
theorem Fx(e:(es.map (·.1)).Nodup)(h:(p,x)∈es):lu ((es.map (·.1)).zip (es.map Ab)) p=some (Ab (p,x)):=by
 have:(es.map (·.1)).zip (es.map Ab)=es.map en:=by rw[List.zip_map'];rfl
 rw[this];exact oJ e h
inductive JSt(m:Int)(ws:List Wy)(fs:List Int)(es:List En)(p:Int)(L:Nat)(H:Int)(a0 a1 a2:Sl)(M:Nat)(ρ:List Sl):Prop where|mk(a:Int)(l:Nat)(o:Option az×Int)(c:List az)(s5:Sl)(q0:ρ=[a0,a1,a2,.own false (c.reverse.map sD),.val false (.int a),s5])(q1:fr s5=true)(q2:(a,l,o)∈es)(q3:Od ws fs es p L H a l o.2 c)(q4:l<=M)
theorem Cd{L:Nat}{fs:List Int}(E:100<=w)(h:fY m ws fs es)(G:L<=5)(A:(p,L,o)∈es)(k:∀c,Od ws fs es p L o.2 0 0 0 c->Q (.val (.tup (c.map sD))) [.val false (aL m ws),.val false (kh es),.val false (.int p)]):(run Γ w (n+2) 5 [.val false (aL m ws),.val false (kh es),.val false (.int p)]).sat Q:=by
 refine aN (d:=f5) rfl rfl (by decide) ?_;symm;simp[f5];apply ak;simp;apply ak;simp;refine jj (JSt m ws fs es p L o.2 _ _ _) ?_ (k:=w) (m:=L) (by omega) ⟨p,L,o,[],.aP,rfl,rfl,A,⟨rfl,λs hs=>(by cases hs),by simp,by simp,by simp,by rw[cW];omega⟩,cQ⟩;rintro M _⟨a,l,H,c,s5,rfl,B,i,hc,I⟩;have r:=Fx h.cm.nd i;rcases h.on i with⟨rfl,rfl,rfl⟩|⟨s,v,u,C,rfl,rfl,e,rfl,ho,y⟩;.simp[kh,r,Ab,oS];symm;simp;exact k c hc
 . simp[kh,r,Ab,oS,sD,eU];symm;simp[r,Ab,oS,B];apply ak;have t:c.length<16777216:=by have:=hc.len;omega
   simp[t];apply ak;simp[sD];refine lD e ?_;simp;exact⟨u,by omega,frm v s.2,u,C,s::c,.val false (eU s.1 s.2),by simp[kh,sD],rfl,y,hc.cons h.cm e i y ho,cQ⟩
def sg(x:Int)(f:Bool):Int:=if f then x else-x
def lU(x:Int)(fs:List Int)(s:az):List Int:=fs.set s.1 ((fs[s.1]?.getD 0)+sg x s.2)
def aug(x:Int)(fs:List Int)(c:List az):List Int:=c.foldl (lU x) fs
@[simp]theorem xj{x:Int}{fs:List Int}{s:az}:(lU x fs s).length=fs.length:=by simp[lU]
theorem oU{x:Int}:∀{c:List az}{fs:List Int},(aug x fs c).length=fs.length|[],_=>rfl|s::c,fs=>by show(aug x (lU x fs s) c).length=_;rw[oU,xj]
theorem oM{x:Int}{j:Nat}:∀{c:List az}{fs:List Int},j∉c.map (·.1)->(aug x fs c)[j]?=fs[j]?|[],_,_=>rfl|s::c,fs,h=>by rw[map_cons,mem_cons,not_or]at h;show(aug x (lU x fs s) c)[j]?=_;rw[oM h.2];unfold lU;rw[getElem?_set_ne (λz=>h.1 z.symm)]
theorem xW{x:Int}:∀{c:List az}{fs:List Int}{s:az}{g:Int},(c.map (·.1)).Nodup->s∈c->fs[s.1]?=some g->(aug x fs c)[s.1]?=some (g+sg x s.2)
 |[],_,_,_,_,h,_=>by cases h|t::c,fs,s,g,i,h,e=>by
   rw[map_cons,nodup_cons]at i;show(aug x (lU x fs t) c)[s.1]?=_;have r:=(dU e).1;rcases mem_cons.mp h with rfl|h;.rw[oM i.1];unfold lU;rw[getElem?_set_self r,e];rfl
   .refine xW i.2 h ?_;unfold lU;rw[getElem?_set_ne (λz=>i.1 (by rw[z];exact mem_map.mpr ⟨s,h,rfl⟩))];exact e
inductive JWt(x:Int)(fs:List Int)(c:List az)(a0 a1 a2:Sl)(r:List D)(ρ:List Sl):Prop where|mk(dF us:List az)(s4 s5:Sl)(q0:ρ=[a0,a1,a2,.own false ((aug x fs dF).map D.int),s4,s5])(q1:fr s4=true)(q2:fr s5=true)(q3:r=us.map sD)(q4:dF++us=c)
theorem vP{s:Sl}{x:Int}{fs:List Int}(hs:UL s fs)(hc:∀s∈c,s.1<fs.length)(k:Q (.own ((aug x fs c).map D.int)) [s,.val false (.tup (c.map sD)),.val false (.int x)]):(run Γ w (n+1) 6 [s,.val false (.tup (c.map sD)),.val false (.int x)]).sat Q:=by
 refine aN (d:=f6) rfl rfl (by decide) ?_;refine fB (λρ=>ρ=[s,.val false (.tup (c.map sD)),.val false (.int x),.own false (fs.map D.int),.aP,.aP]) ?_ ?_;.rcases hs with rfl|⟨b,rfl⟩;all_goals simp[f6]
 rintro _ rfl;symm;simp;refine cM (JWt x fs c _ _ _) ?_ ?_ ⟨[],c,.aP,.aP,rfl,rfl,rfl,rfl,rfl⟩;.rintro d r _⟨e,h,s4,s5,rfl,y,A,hr,hd⟩;cases h with|nil=>cases hr|cons u h=>
     obtain⟨rfl,rfl⟩:d=sD u/\r=h.map sD:=by simpa using hr
     have C:u.1<(aug x fs e).length:=by rw[oU];exact hc u (by rw[<-hd];simp)
     have t:(aug x fs e)[u.1]?=some (aug x fs e)[u.1]:=by simp[C]
     have B:iT (aug x fs e).length (u.1:Int)=some u.1:=by unfold iT;rw[if_pos (by omega),if_pos (by omega)];simp
     have he:aug x fs (e++[u])=(aug x fs e).set u.1 ((aug x fs e)[u.1]+sg x u.2):=by unfold aug;rw[List.foldl_append];show lU x (aug x fs e) u=_;unfold lU;rw[t];rfl
     have i:(e++[u])++h=c:=by rw[append_assoc];exact hd
     generalize(aug x fs e)[u.1]=g at*;simp[sD,eU,y,A];apply ak;obtain⟨j,f⟩:=u;cases f with|true=>simp[dm t,B];exact⟨e++[(j,true)],h,_,_,by rw[he,List.map_set];rfl,rfl,rfl,rfl,i⟩|false=>simp[dm t,B];exact⟨e++[(j,false)],h,_,_,by rw[he,List.map_set];rfl,rfl,rfl,rfl,i⟩
 . rintro _⟨e,h,s4,s5,rfl,y,A,hr,hd⟩;have:h=[]:=by cases h with|nil=>rfl|cons _ _=>cases hr
   subst this;rw[append_nil]at hd;subst hd;simp;apply ak;simp;exact k
def Ed(F:Int->Int)(D:Int):List En->Int->Int|[],p=>F p+D|e::es,p=>if e.1=p then e.2.2.2 else Ed F D es p
theorem iB{F:Int->Int}{D p:Int}{l:Nat}{o:Option az×Int}:∀{es:List En},(es.map (·.1)).Nodup->(p,l,o)∈es->Ed F D es p=o.2
 |[],_,h=>by cases h|e::es,i,h=>by
   rw[map_cons,nodup_cons]at i;rw[Ed];rcases mem_cons.mp h with rfl|h;.rw[if_pos rfl]
   .rw[if_neg (λz=>i.1 (by rw[z];exact mem_map.mpr ⟨_,h,rfl⟩))];exact iB i.2 h
theorem oG{F:Int->Int}{D p:Int}:∀{es:List En},(¬ ∃l o,(p,l,o)∈es)->Ed F D es p=F p+D|[],_=>rfl|e::es,h=>by rw[Ed,if_neg (λz=>h ⟨e.2.1,e.2.2,by rw[<-z];simp⟩)];exact oG λ⟨l,o,z⟩=>h ⟨l,o,mem_cons_of_mem _ z⟩
theorem Bx(F:Int->Int):∀(es:List En),∃D,∀p l o,(p,l,o)∈es->o.2<=F p+D
 |[]=>⟨0,λ_ _ _ h=>by cases h⟩|e::es=>by
   obtain⟨D,h⟩:=Bx F es;refine⟨max D (e.2.2.2-F e.1),λp l o z=>?_⟩;rcases mem_cons.mp z with rfl|z;.simp only;omega
   .have:=h p l o z;omega
theorem fY.pt{fs:List Int}{D:Int}(h:fY m ws fs es)(i:Pt ws fs F)(r:∀p l o,(p,l,o)∈es->o.2<=F p+D):Pt ws fs (Ed F D es):=λs v e ho=>by
 by_cases c:∃l o,(frm v s.2,l,o)∈es;.obtain⟨l,o,c⟩:=c;obtain⟨l2,t,c2,c3⟩:=h.cl l o s v e c ho;rw[iB h.cm.nd c,iB h.cm.nd c2];unfold Le at c3;omega
 . rw[oG c];have h1:=i s v e ho;by_cases c2:∃l o,(too v s.2,l,o)∈es;.obtain⟨l2,t,c2⟩:=c2;rw[iB h.cm.nd c2];have:=r _ _ _ c2;omega
   .rw[oG c2];omega
theorem FT{fs:List Int}{G:Int->Int}(d:Int)(h:Pt ws fs F)(i:Pt ws fs G):Pt ws fs (λp=>min (F p) (G p+d)):=λs v e ho=>by have h1:=h s v e ho;have r:=i s v e ho;simp only;omega
theorem tD{ws:List Wy}{fs:List Int}{F:Int->Int}(h:Pt ws fs F){b:Int}:∀{c:List az}{a:Int},iQ ws b c a->sr ws fs c->F b=F a+cW ws c->∀s∈c,∀v,ws[s.1]?=some v->F (too v s.2)=F (frm v s.2)+hsp v s.2
 |[],_,_,_,_,s,hs,_,_=>by cases hs|s::c,a,⟨v,e,r,t⟩,ho,he,u,hu,x,ex=>by
   have i:sr ws fs c:=λu hu=>ho u (mem_cons_of_mem _ hu);have h1:=m9 h t i;obtain⟨B,y,o⟩:=ho s (by simp);rw[e]at y;cases y;have A:=h s v e o;rw[r]at A;rw[cW,jE e]at he;rcases mem_cons.mp hu with rfl|hu;.rw[e]at ex;cases ex;rw[r];omega
   .exact tD h t i (by omega) u hu x ex
theorem qx{fs:List Int}{x:Int}{t:az}(hc:sr ws fs c)(e:ws[t.1]?=some v)(h:jV ws (aug x fs c) (frm v t.2) t=true):jV ws fs (frm v t.2) t=true\/∃s∈c,s.1=t.1/\t.2≠s.2:=by
 by_cases z:t.1∈c.map (·.1)
 . obtain⟨s,hs,es⟩:=mem_map.mp z;by_cases q:t.2=s.2;.have:t=s:=Prod.ext_iff.mpr ⟨es.symm,q⟩;subst this;obtain⟨r,i,o⟩:=hc t hs;rw[e]at i;cases i;exact .inl o
   .exact .inr ⟨s,hs,es,q⟩
 .refine .inl ?_;unfold jV at h ⊢;rwa[oM z]at h
theorem Pt.aug{ws:List Wy}{fs:List Int}{F:Int->Int}(h:Pt ws fs F){a b x:Int}{c:List az}(i:iQ ws b c a)(ho:sr ws fs c)(he:F b=F a+cW ws c):Pt ws (aug x fs c) F:=λt v e o=>by
 rcases qx ho e o with o|⟨u,r,y,ne⟩;.exact h t v e o
 . have:=tD h i ho he u r v (by rw[y];exact e);rw[(lN ne).1,(lN ne).2];have:hsp v t.2=-hsp v u.2:=by cases h1:t.2<;>cases h2:u.2<;>simp[hsp]<;>(rw[h1,h2]at ne;exact absurd rfl ne)
   omega
def eG(G:Wy->Int):List Wy->List Int->Int|v::ws,g::fs=>G v*g+eG G ws fs|_,_=>0
def wu(H:Wy->Int):List Wy->Int|[]=>0|v::ws=>H v+wu H ws
theorem yu{G H:Wy->Int}:∀{ws:List Wy}{fs:List Int},fs.length=ws.length->(∀(j:Nat)v g,ws[j]?=some v->fs[j]?=some g->G v*g<=H v)->eG G ws fs<=wu H ws|[],[],_,_=>Int.le_refl _|[],_::_,h,_=>by simp at h|_::_,[],h,_=>by simp at h|v::ws,g::fs,h,k=>by have h1:=k 0 v g rfl rfl;have r:=yu (G:=G) (H:=H) (ws:=ws) (fs:=fs) (by simpa using h) λj v g e i=>k (j+1) v g (by simpa using e) (by simpa using i);rw[eG,wu];omega
theorem yD{G H:Wy->Int}:∀{ws:List Wy}{fs:List Int},fs.length=ws.length->(∀(j:Nat)v g,ws[j]?=some v->fs[j]?=some g->H v<=G v*g)->wu H ws<=eG G ws fs|[],[],_,_=>Int.le_refl _|[],_::_,h,_=>by simp at h|_::_,[],h,_=>by simp at h|v::ws,g::fs,h,k=>by have h1:=k 0 v g rfl rfl;have r:=yD (G:=G) (H:=H) (ws:=ws) (fs:=fs) (by simpa using h) λj v g e i=>k (j+1) v g (by simpa using e) (by simpa using i);rw[eG,wu];omega
theorem zX{G:Wy->Int}{v:Wy}{g y:Int}:∀{j:Nat}{ws:List Wy}{fs:List Int},ws[j]?=some v->fs[j]?=some g->eG G ws (fs.set j (g+y))=eG G ws fs+G v*y|_,[],_,e,_=>by simp at e|_,_::_,[],_,e=>by simp at e|0,u::ws,f::fs,h,i=>by simp at h i;subst h i;rw[List.set_cons_zero,eG,eG,mul_add];omega|j+1,u::ws,f::fs,h,i=>by rw[List.set_cons_succ,eG,eG,zX (j:=j) (by simpa using h) (by simpa using i)];omega
def gap(k:Int)(q:Int->Int)(v:Wy):Int:=q v.t-q v.s-k*v.h
theorem Et{k x:Int}:gap k q v*sg x f=x*(q (too v f)-q (frm v f)-k*hsp v f):=by cases f with|true=>show(q v.t-q v.s-k*v.h)*x=x*(q v.t-q v.s-k*v.h);exact mul_comm _ _|false=>show(q v.t-q v.s-k*v.h)*(-x)=x*(q v.s-q v.t-k*(-v.h));rw[mul_neg,mul_neg k,show q v.s-q v.t- -(k*v.h)=-(q v.t-q v.s-k*v.h)by omega,mul_neg,mul_comm]
theorem Az{k x:Int}{q:Int->Int}{ws:List Wy}{b:Int}:∀{c:List az}{fs:List Int}{a:Int},fs.length=ws.length->iQ ws b c a->eG (gap k q) ws (aug x fs c)=eG (gap k q) ws fs+x*(q b-q a-k*cW ws c)
 |[],fs,a,_,h=>by have:a=b:=h;subst this;show _=_+x*(q a-q a-k*0);simp;rfl|s::c,fs,a,r,⟨v,e,u,y⟩=>by
   show eG (gap k q) ws (aug x (lU x fs s) c)=_;have i:s.1<fs.length:=by rw[r];exact(dU e).1
   have t:fs[s.1]?=some fs[s.1]:=by simp[i]
   rw[Az (by rw[xj];exact r) y];have:lU x fs s=fs.set s.1 (fs[s.1]+sg x s.2):=by unfold lU;rw[t];rfl
   rw[this,zX e t,Et,u,Int.add_assoc,<-mul_add,cW,jE e,mul_add k];congr 2;omega
structure N5(ws:List Wy)(fs:List Int):Prop where
 len:fs.length=ws.length
 ok:∀(j:Nat)v g,ws[j]?=some v->fs[j]?=some g->0<=g/\g<=v.r
theorem N5.aug{ws:List Wy}{fs:List Int}{c:List az}{x:Int}(h:N5 ws fs)(y:(c.map (·.1)).Nodup)(A:0<x)(hc:∀s∈c,∃v g,ws[s.1]?=some v/\fs[s.1]?=some g/\x<=nP v g s.2):N5 ws (aug x fs c):=by
 refine⟨by rw[oU];exact h.len,λj v g i e=>?_⟩;by_cases z:j∈c.map (·.1);.obtain⟨s,hs,rfl⟩:=mem_map.mp z;obtain⟨B,g',r,t,u⟩:=hc s hs;rw[i]at r;cases r;rw[xW y hs t]at e;cases e;have:=h.ok _ _ _ i t;cases hf:s.2<;>rw[hf]at u<;>simp[nP,sg]at u ⊢<;>omega
 .rw[oM z]at e;exact h.ok _ _ _ i e
def HX(q:Int->Int)(v:Wy):Int:=v.r*max 0 (q v.t-q v.s-v.h)
def JM(q:Int->Int)(ws:List Wy):Int:=wu (HX q) ws
theorem WM:gap 1 q v=q v.t-q v.s-v.h:=by unfold gap;omega
theorem An{fs:List Int}(h:N5 ws fs):eG (gap 1 q) ws fs<=JM q ws:=yu h.len λj v g e i=>by
 have:=h.ok _ _ _ e i;rw[WM];unfold HX;generalize q v.t-q v.s-v.h=y;by_cases c:0<=y;.rw[Int.max_eq_right c,mul_comm];exact Int.mul_le_mul_of_nonneg_right this.2 c
 .rw[Int.max_eq_left (by omega),Int.mul_zero];exact Int.mul_nonpos_of_nonpos_of_nonneg (by omega) this.1
theorem Kz{fs:List Int}(h:N5 ws fs)(u:Pt ws fs q):JM q ws=eG (gap 1 q) ws fs:=by
 refine Int.le_antisymm (yD h.len λj v g e i=>?_) (An h);have C:=h.ok _ _ _ e i;have B:0<v.r-g->q v.t<=q v.s+v.h:=λz=>u (j,true) v e (by rw[lB (s:=(j,true)) e i];simp[frm,nP];omega);have A:0<g->q v.s<=q v.t+-v.h:=λz=>u (j,false) v e (by rw[lB (s:=(j,false)) e i];simp[frm,nP];omega);rw[WM];unfold HX;generalize E:q v.t-q v.s-v.h=y;by_cases c:g=v.r
 . subst c;by_cases c0:0<v.r;.have:=A c0;rw[Int.max_eq_right (by omega),mul_comm];exact Int.le_refl _
   . have:v.r=0:=by omega
     rw[this];simp
 . have:=B (by omega);rw[Int.max_eq_left (by omega),Int.mul_zero];by_cases c0:0<g;.have:=A c0;rw[show y=0 by omega];simp
   .rw[show g=0 by omega];simp
def Om(fs:List Int)(x:List az×Int):List Int:=aug x.2 fs x.1
def flow(N:Nat)(cs:List (List az×Int)):List Int:=cs.foldl Om (replicate N 0)
theorem wQ{x:List az×Int}:flow N (cs++[x])=aug x.2 (flow N cs) x.1:=by unfold flow;rw[List.foldl_append];rfl
def fU(H:List az×Int->Int):List (List az×Int)->Int|[]=>0|x::cs=>H x+fU H cs
theorem o8{H:List az×Int->Int}{x:List az×Int}:∀{cs:List (List az×Int)},fU H (cs++[x])=fU H cs+H x|[]=>by simp[fU]|y::cs=>by rw[List.cons_append,fU,fU,o8];omega
theorem mz{H K:List az×Int->Int}:∀{cs:List (List az×Int)},(∀x∈cs,H x=K x)->fU H cs=fU K cs|[],_=>rfl|x::cs,h=>by rw[fU,fU,h x (by simp),mz λy e=>h y (by simp[e])]
theorem Hz{H:List az×Int->Int}:∀{cs:List (List az×Int)},(∀x∈cs,1<=H x)->(cs.length:Int)<=fU H cs|[],_=>by simp[fU]|x::cs,h=>by have h1:=h x (by simp);have i:=Hz (H:=H) (cs:=cs) λy e=>h y (by simp[e]);rw[fU,length_cons];omega
def Wn(ws:List Wy)(T:Int)(x:List az×Int):Int:=if cW ws x.1<=T then x.2*(T-cW ws x.1+1)else 0
def val(ws:List Wy)(T:Int)(cs:List (List az×Int)):Int:=fU (Wn ws T) cs
structure Be(m:Int)(ws:List Wy)(T v:Int):Prop where
 ex:∃q:Int->Int,q 0=0/\q (m-1)=T+1/\JM q ws=v
 le:∀q:Int->Int,q 0=0->q (m-1)=T+1->v<=JM q ws
theorem vf{T:Int}{fs:List Int}{G:Int->Int}(fit:N5 ws fs)(dt:∀k q,eG (gap k q) ws fs=fU (λx=>x.2*(q (m-1)-q 0-k*cW ws x.1)) cs)(u:∀x∈cs,cW ws x.1<=T+1)(y:Pt ws fs G)(i:G 0=0)(r:G (m-1)=T+1):Be m ws T (val ws T cs):=by
 have t:∀q:Int->Int,q 0=0->q (m-1)=T+1->eG (gap 1 q) ws fs=val ws T cs:=λq e h=>by
  rw[dt,e,h];refine mz λx A=>?_;have:=u x A;unfold Wn;split;.congr 1;omega
  .rw[show T+1-0-1*cW ws x.1=0 by omega,Int.mul_zero]
 exact⟨⟨G,i,r,by rw[Kz fit y,t G i r]⟩,λq e h=>by rw[<-t q e h];exact An fit⟩
structure xN(m:Int)(ws:List Wy)(cs:List (List az×Int))(fs:List Int)(F:Int->Int)(d:Int):Prop where
 fit:N5 ws fs
 pt:Pt ws fs F
 z:F 0=0
 e:F (m-1)=d
 d0:0<=d
 nn:(∀v∈ws,1<=v.h)->1<=d/\∀x∈cs,1<=cW ws x.1
 ch:∀x∈cs,cW ws x.1<=d/\0<x.2/\∀s∈x.1,s.1<ws.length
 dt:∀k q,eG (gap k q) ws fs=fU (λx=>x.2*(q (m-1)-q 0-k*cW ws x.1)) cs
 lst:∀T,0<=T->T+1<=d->Be m ws T (val ws T cs)
theorem v5{G:Wy->Int}:∀{ws:List Wy}{n:Nat},eG G ws (replicate n 0)=0|[],n=>by unfold eG;rfl|v::ws,0=>rfl|v::ws,n+1=>by rw[replicate_succ,eG,v5];simp
theorem yO(h:(replicate n (0:Int))[j]?=some g):g=0:=(List.mem_replicate.mp (mem_of_getElem? h)).2
def F01(b p:Int):Int:=if p=0 then 0 else b
theorem xN.zero(m0:2<=m)(y:∀v∈ws,0<=v.h)(hr:∀v∈ws,0<=v.r):∃b,xN m ws [] (replicate ws.length 0) (F01 b) b:=by
 have fit:N5 ws (replicate ws.length 0):=⟨by simp,λj v g i t=>by rw[yO t];exact⟨Int.le_refl _,hr v (mem_of_getElem? i)⟩⟩;have pt:∀b:Int,0<=b->(∀v∈ws,b<=v.h)->Pt ws (replicate ws.length 0) (F01 b):=λb b0 A s v e ho=>by obtain⟨C,g,i,t,_,u⟩:=pX ho;rw[e]at i;cases i;have:=yO t;subst this;have:=A v (mem_of_getElem? e);cases hf:s.2<;>rw[hf]at u<;>simp[nP,hsp,F01]at u ⊢;split<;>split<;>omega
 have dt:∀k q,eG (gap k q) ws (replicate ws.length 0)=fU (λx=>x.2*(q (m-1)-q 0-k*cW ws x.1)) []:=λk q=>by rw[v5];rfl
 have i:∀b,F01 b (m-1)=b:=λb=>by unfold F01;rw[if_neg (by omega)]
 by_cases c:∀v∈ws,1<=v.h;.exact⟨1,fit,pt 1 (by omega) c,rfl,i 1,by omega,λ_=>⟨Int.le_refl _,by simp⟩,by simp,dt,λT h1 B=>vf fit dt (by simp) (pt 1 (by omega) c) rfl (by rw[i];omega)⟩
 .exact⟨0,fit,pt 0 (by omega) y,rfl,i 0,by omega,λz=>absurd z c,by simp,dt,λT h1 B=>by omega⟩
theorem xN.at{d T:Int}{fs:List Int}{G:Int->Int}(h:xN m ws cs fs F d)(e:d<=T+1)(i:Pt ws fs G)(r:G 0=0)(t:G (m-1)=T+1):Be m ws T (val ws T cs):=vf h.fit h.dt (λx u=>Int.le_trans (h.ch x u).1 e) i r t
theorem xN.more{d:Int}{fs:List Int}{x:Int}(h:xN m ws cs fs F d)(i:fY m ws fs es)(r:(m-1,l,o)∈es)(hc:Od ws fs es (m-1) l o.2 0 0 0 c)(t:0<x)(hr:∀s∈c,∃v g,ws[s.1]?=some v/\fs[s.1]?=some g/\x<=nP v g s.2):∃C,xN m ws (cs++[(c,x)]) (aug x fs c) C o.2:=by
 obtain⟨D,E⟩:=Bx F es;have u:=i.pt h.pt E;have H:cW ws c=o.2:=by have:=hc.hrs;omega
 have A:Ed F D es 0=0:=iB i.cm.nd i.cm.z;have B:Ed F D es (m-1)=o.2:=iB i.cm.nd r;have hd:d<=o.2:=by have:=m9 h.pt hc.Jr hc.iZ;rw[h.e,h.z]at this;omega
 refine⟨Ed F D es,h.fit.aug hc.nd t hr,u.aug hc.Jr hc.iZ (by rw[A,B];omega),A,B,by have:=h.d0;omega,λz=>⟨by have:=(h.nn z).1;omega,λy hy=>?_⟩,λy hy=>?_,λk q=>?_,λT h0 h1=>?_⟩
 . rcases mem_append.mp hy with hy|hy;.exact(h.nn z).2 y hy
   .rw[mem_singleton.mp hy];show 1<=cW ws c;have:=(h.nn z).1;omega
 . rcases mem_append.mp hy with hy|hy;.have:=h.ch y hy;exact⟨by omega,this.2⟩
   .rw[mem_singleton.mp hy];refine⟨by show cW ws c<=_;omega,t,λs hs=>?_⟩;obtain⟨v,g,e,_⟩:=hr s hs;exact(dU e).1
 .rw[Az h.fit.len hc.Jr,o8,h.dt]
 . have G:val ws T (cs++[(c,x)])=val ws T cs:=by unfold val;rw[o8];show _+(if cW ws c<=T then _ else 0)=_;rw[if_neg (by omega)];omega
   rw[G];by_cases q:T+1<=d;.exact h.lst T h0 q
   . refine h.at (by omega) (FT (T+1-d) u h.pt) ?_ ?_;.have:=h.z;omega
     .have:=h.e;omega
theorem xN.least{d T:Int}{fs:List Int}(h:xN m ws cs fs F d)(i:fY m ws fs es)(r:¬ ∃l o,(m-1,l,o)∈es)(h0:0<=T):Be m ws T (val ws T cs):=by
 by_cases q:T+1<=d;.exact h.lst T h0 q
 . obtain⟨D,t⟩:=Bx F es;have u:=i.pt (D:=max D (T+1-d)) h.pt λp l o z=>by have:=t p l o z;omega
   have y:Ed F (max D (T+1-d)) es 0=0:=iB i.cm.nd i.cm.z;have A:Ed F (max D (T+1-d)) es (m-1)=F (m-1)+max D (T+1-d):=oG r;refine h.at (by omega) (FT (T+1-d) u h.pt) ?_ ?_;.have:=h.z;omega
   .have:=h.e;omega
def Ec(v:Wy)(f:Bool):Int:=7*hsp v f+1
def Nj(ws:List Wy)(fs:List Int)(P:Int->Int):Prop:=∀(s:az)(v:Wy),ws[s.1]?=some v->jV ws fs (frm v s.2) s=true->P (too v s.2)<=P (frm v s.2)+Ec v s.2
def yL(ws:List Wy)(c:List az):Int:=7*cW ws c+c.length
theorem qd(e:ws[s.1]?=some v):yL ws (s::c)=Ec v s.2+yL ws c:=by unfold yL Ec;rw[cW,jE e,length_cons];omega
theorem za{ws:List Wy}{fs:List Int}{P:Int->Int}(h:Nj ws fs P){b:Int}:∀{c:List az}{a:Int},iQ ws b c a->sr ws fs c->P b<=P a+yL ws c|[],a,i,_=>by have:a=b:=i;rw[this];simp[yL,cW]|s::c,a,⟨v,e,t,i⟩,ho=>by have h1:=za h i λu y=>ho u (mem_cons_of_mem _ y);obtain⟨B,r,o⟩:=ho s (by simp);rw[e]at r;cases r;have A:=h s v e o;rw[t]at A;rw[qd e];omega
theorem rG{ws:List Wy}{fs:List Int}{P:Int->Int}(h:Nj ws fs P){b:Int}:∀{c:List az}{a:Int},iQ ws b c a->sr ws fs c->P b=P a+yL ws c->∀s∈c,∀v,ws[s.1]?=some v->P (too v s.2)=P (frm v s.2)+Ec v s.2
 |[],_,_,_,_,s,hs,_,_=>by cases hs|s::c,a,⟨v,e,r,t⟩,ho,he,u,hu,x,ex=>by
   have i:sr ws fs c:=λu hu=>ho u (mem_cons_of_mem _ hu);have h1:=za h t i;obtain⟨B,y,o⟩:=ho s (by simp);rw[e]at y;cases y;have A:=h s v e o;rw[r]at A;rw[qd e]at he;rcases mem_cons.mp hu with rfl|hu;.rw[e]at ex;cases ex;rw[r];omega
   .exact rG h t i (by omega) u hu x ex
def tgt(ws:List Wy)(fs:List Int)(P:Int->Int)(s:az):Bool:=match ws[s.1]?with|some v=>jV ws fs (frm v s.2) s&&decide (P (too v s.2)=P (frm v s.2)+Ec v s.2)|none=>false
theorem HW{fs:List Int}{P:Int->Int}(e:ws[s.1]?=some v):tgt ws fs P s=(jV ws fs (frm v s.2) s&&decide (P (too v s.2)=P (frm v s.2)+Ec v s.2)):=by unfold tgt;rw[e]
def Fy(ws:List Wy)(fs:List Int)(P:Int->Int):Nat:=((gK ws.length).filter (tgt ws fs P)).length
theorem By{fs:List Int}{P:Int->Int}(h:ws.length<=12):Fy ws fs P<=24:=by have:=List.length_filter_le (tgt ws fs P) (gK ws.length);rw[wC]at this;unfold Fy;omega
theorem Ej{p q:az->Bool}(h:∀t,q t=true->p t=true):∀(l:List az),(l.filter q).length<=(l.filter p).length|[]=>cQ|t::l=>by have e:=Ej h l;cases hq:q t with|true=>simp[hq,h t hq,e]|false=>cases hp:p t with|true=>simp[hq,hp];omega|false=>simp[hq,hp,e]
theorem Es{p q:az->Bool}{s:az}(h:∀t,q t=true->p t=true)(e:p s=true)(i:q s=false):∀{l:List az},s∈l->(l.filter q).length<(l.filter p).length
 |[],hs=>by cases hs|t::l,hs=>by
   have le:=Ej h l;rcases mem_cons.mp hs with rfl|hs;.simp[e,i];omega
   .have r:=Es h e i hs;cases hq2:q t with|true=>simp[hq2,h t hq2,r]|false=>cases hp2:p t with|true=>simp[hq2,hp2];omega|false=>simp[hq2,hp2,r]
theorem G3{fs:List Int}(h:(c.map (·.1)).Nodup)(hs:s∈c)(e:ws[s.1]?=some v)(i:fs[s.1]?=some g):jV ws (aug (nP v g s.2) fs c) p s=false:=by
 rw[lB e (xW h hs i)];have:nP v (g+sg (nP v g s.2) s.2) s.2=0:=by cases s.2<;>simp[nP,sg]<;>omega
 rw[this];simp
theorem Nj.aug{ws:List Wy}{fs:List Int}{P:Int->Int}(h:Nj ws fs P){a b:Int}{c:List az}{s:az}{v:Wy}{g:Int}(C:iQ ws b c a)(ho:sr ws fs c)(E:(c.map (·.1)).Nodup)(he:P b=P a+yL ws c)(hs:s∈c)(e:ws[s.1]?=some v)(G:fs[s.1]?=some g):Nj ws (aug (nP v g s.2) fs c) P/\Fy ws (aug (nP v g s.2) fs c) P<Fy ws fs P:=by
 have y:=rG h C ho he;have back:∀(t u:az)(x:Wy),u∈c->u.1=t.1->t.2≠u.2->ws[t.1]?=some x->P (too x t.2)<P (frm x t.2)+Ec x t.2:=λt u x i r ne ex=>by
  have h1:=y u i x (by rw[r];exact ex);rw[(lN ne).1,(lN ne).2];have A:hsp x t.2=-hsp x u.2:=by cases h1:t.2<;>cases A:u.2<;>simp[hsp]<;>(rw[h1,A]at ne;exact absurd rfl ne)
  unfold Ec at*;omega
 refine⟨λt x ex o=>?_,?_⟩
 . rcases qx ho ex o with o|⟨u,i,r,ne⟩;.exact h t x ex o
   .have:=back t u x i r ne ex;omega
 . obtain⟨H,B,o⟩:=ho s hs;rw[e]at B;cases B;refine Es (s:=s) (λt ht=>?_) (by rw[HW e,o,y s hs v e];simp) (by rw[HW e,G3 E hs e G];rfl) (vm (dU e).1);unfold tgt at ht ⊢;split at ht
   . rename_i x ex;simp only[and_eq_true,decide_eq_true_eq]at ht ⊢;refine⟨?_,ht.2⟩;rcases qx ho ex ht.1 with o|⟨u,i,r,ne⟩;.exact o
     .have:=back t u x i r ne ex;omega
   .cases ht
abbrev Nm:=List (Option Bool)
def lq:List Wy->Nm->Int|v::ws,some f::es=>Ec v f+lq ws es|_::ws,none::es=>lq ws es|_,_=>0
def Hu(N:Nat):List az->Nm|[]=>replicate N none|s::c=>(Hu N c).set s.1 (some s.2)
theorem Bp{N:Nat}:∀{c:List az},(Hu N c).length=N|[]=>by simp[Hu]|s::c=>by rw[Hu,List.length_set,Bp]
theorem zW{N j:Nat}:∀{c:List az},j<N->j∉c.map (·.1)->(Hu N c)[j]?=some none|[],h,_=>by simp[Hu,h]|s::c,h,e=>by rw[map_cons,mem_cons,not_or]at e;rw[Hu,getElem?_set_ne (λz=>e.1 z.symm)];exact zW h e.2
theorem wD{v:Wy}{f:Bool}:∀{j:Nat}{ws:List Wy}{es:Nm},ws[j]?=some v->es[j]?=some none->lq ws (es.set j (some f))=lq ws es+Ec v f|_,[],_,e,_=>by simp at e|_,_::_,[],_,e=>by simp at e|0,u::ws,x::es,h,i=>by simp at h i;subst h i;rw[List.set_cons_zero,lq,lq];omega|j+1,u::ws,x::es,h,i=>by have r:=wD (f:=f) (j:=j) (ws:=ws) (es:=es) (by simpa using h) (by simpa using i);rw[List.set_cons_succ];cases x with|none=>rw[lq,lq,r]|some g=>rw[lq,lq,r];omega
theorem sY:∀{ws:List Wy}{n:Nat},lq ws (replicate n none)=0|[],n=>by unfold lq;rfl|v::ws,0=>rfl|v::ws,n+1=>by rw[replicate_succ,lq,sY]
theorem Ac{ws:List Wy}{b:Int}:∀{c:List az}{a:Int},iQ ws b c a->(c.map (·.1)).Nodup->lq ws (Hu ws.length c)=yL ws c|[],_,_,_=>by rw[Hu,sY];simp[yL,cW]|s::c,a,⟨v,e,_,i⟩,h=>by rw[map_cons,nodup_cons]at h;rw[Hu,wD e (zW (dU e).1 h.1),Ac i h.2,qd e];omega
def uF:Nat->List Nm|0=>[[]]|n+1=>(uF n).map (none::·)++((uF n).map (some true::·)++(uF n).map (some false::·))
theorem vG:∀{n:Nat},(uF n).length=3^n|0=>rfl|n+1=>by rw[uF,length_append,length_append,length_map,length_map,length_map,vG,Nat.pow_succ];omega
theorem vD:∀{e:Nm},e∈uF e.length|[]=>by simp[uF]|x::e=>by have h:=vD (e:=e);rw[length_cons,uF,mem_append,mem_append];cases x with|none=>exact .inl (mem_map.mpr ⟨e,h,rfl⟩)|some f=>cases f with|true=>exact .inr (.inl (mem_map.mpr ⟨e,h,rfl⟩))|false=>exact .inr (.inr (mem_map.mpr ⟨e,h,rfl⟩))
structure Lh(m:Int)(ws:List Wy)(k:Nat)(fs:List Int)(P:Int->Int)(lam:Int)(seen:List Nm):Prop where
 pt:Nj ws fs P
 z:P 0=0
 e:P (m-1)=lam
 nd:seen.Nodup
 sl:∀e∈seen,e.length=ws.length/\lq ws e<=lam
 cnt:k+Fy ws fs P<=25*(seen.length+1)
theorem Lh.few{i:Int}{fs:List Int}{P:Int->Int}{seen:List Nm}(h:Lh m ws k fs P i seen)(r:ws.length<=12):k<=13286050:=by
 have h1:=pC (l2:=uF ws.length) h.nd λe he=>by rw[<-(h.sl e he).1];exact vD
 rw[vG]at h1;have t:3^ws.length<=3^12:=Nat.pow_le_pow_right (by decide) r;have u:(3:Nat)^12=531441:=by decide
 have:=h.cnt;omega
theorem Lh.zero(t:ws.length<=12)(u:∀v∈ws,0<=v.h):Lh m ws 0 (replicate ws.length 0) (λ_=>0) 0 []:=by refine⟨λs v e ho=>?_,rfl,rfl,.nil,by simp,by have:=By (fs:=replicate ws.length 0) (P:=λ_=>0) t;simp;omega⟩;obtain⟨A,g,i,y,_,r⟩:=pX ho;rw[e]at i;cases i;have:=yO y;subst this;have:=u v (mem_of_getElem? e);cases hf:s.2<;>rw[hf]at r<;>simp[nP,Ec,hsp]at r ⊢;omega
def Ju(F:Int->Int)(D:Int):List En->Int->Int|[],p=>F p+D|e::es,p=>if e.1=p then 7*e.2.2.2+(e.2.1:Int)else Ju F D es p
theorem ni{F:Int->Int}{D p:Int}{l:Nat}{o:Option az×Int}:∀{es:List En},(es.map (·.1)).Nodup->(p,l,o)∈es->Ju F D es p=7*o.2+l
 |[],_,h=>by cases h|e::es,i,h=>by
   rw[map_cons,nodup_cons]at i;rw[Ju];rcases mem_cons.mp h with rfl|h;.rw[if_pos rfl]
   .rw[if_neg (λz=>i.1 (by rw[z];exact mem_map.mpr ⟨_,h,rfl⟩))];exact ni i.2 h
theorem uz{F:Int->Int}{D p:Int}:∀{es:List En},(¬ ∃l o,(p,l,o)∈es)->Ju F D es p=F p+D|[],_=>rfl|e::es,h=>by rw[Ju,if_neg (λz=>h ⟨e.2.1,e.2.2,by rw[<-z];simp⟩)];exact uz λ⟨l,o,z⟩=>h ⟨l,o,mem_cons_of_mem _ z⟩
theorem Fv(F:Int->Int):∀(es:List En),∃D,∀p l o,(p,l,o)∈es->7*o.2+(l:Int)<=F p+D
 |[]=>⟨0,λ_ _ _ h=>by cases h⟩|e::es=>by
   obtain⟨D,h⟩:=Fv F es;refine⟨max D (7*e.2.2.2+(e.2.1:Int)-F e.1),λp l o z=>?_⟩;rcases mem_cons.mp z with rfl|z;.simp only;omega
   .have:=h p l o z;omega
theorem fY.pts{fs:List Int}{P:Int->Int}{D:Int}(h:fY m ws fs es)(i:HN m ws)(r:Pt ws fs F)(t:Nj ws fs P)(u:∀p l o,(p,l,o)∈es->7*o.2+(l:Int)<=P p+D):Nj ws fs (Ju P D es):=λs v e ho=>by
 by_cases c:∃l o,(frm v s.2,l,o)∈es;.obtain⟨l,o,c⟩:=c;obtain⟨l2,y,c2,c3⟩:=h.cl l o s v e c ho;rw[ni h.cm.nd c,ni h.cm.nd c2];have:=h.l5 i r c2;unfold Le at c3;unfold Ec;omega
 . rw[uz c];have h1:=t s v e ho;by_cases c2:∃l o,(too v s.2,l,o)∈es;.obtain⟨l2,y,c2⟩:=c2;rw[ni h.cm.nd c2];have:=u _ _ _ c2;omega
   .rw[uz c2];omega
theorem Lh.more{i:Int}{fs:List Int}{P:Int->Int}{seen:List Nm}(h:Lh m ws k fs P i seen)(y:HN m ws)(G:Pt ws fs F)(r:fY m ws fs es)(t:(m-1,l,o)∈es)(hc:Od ws fs es (m-1) l o.2 0 0 0 c)(hs:s∈c)(e:ws[s.1]?=some v)(A:fs[s.1]?=some g):∃H I J,Lh m ws (k+1) (aug (nP v g s.2) fs c) H I J:=by
 have L:cW ws c=o.2:=by have:=hc.hrs;omega
 have M:c.length=l:=by have:=hc.len;omega
 have O:yL ws c=7*o.2+l:=by unfold yL;rw[L,M]
 have U:i<=yL ws c:=by have:=za h.pt hc.Jr hc.iZ;rw[h.e,h.z]at this;omega
 by_cases q:i=yL ws c;.have u:=h.pt.aug hc.Jr hc.iZ hc.nd (by rw[h.e,h.z];omega) hs e A;exact⟨P,i,seen,u.1,h.z,h.e,h.nd,h.sl,by have:=h.cnt;omega⟩
 . obtain⟨D,W⟩:=Fv P es;have X:=r.pts y G h.pt W;have B:Ju P D es 0=0:=by rw[ni r.cm.nd r.cm.z];rfl
   have C:Ju P D es (m-1)=yL ws c:=by rw[ni r.cm.nd t,O]
   have u:=X.aug hc.Jr hc.iZ hc.nd (by rw[B,C];omega) hs e A;have E:=Ac hc.Jr hc.nd;refine⟨Ju P D es,yL ws c,seen++[Hu ws.length c],u.1,B,C,?_,λx hx=>?_,?_⟩;.rw[nodup_append];refine⟨h.nd,by simp,λa Y b Z ab=>?_⟩;have:=(h.sl a Y).2;rw[ab,mem_singleton.mp Z,E]at this;omega
   . rcases mem_append.mp hx with hx|hx;.have:=h.sl x hx;exact⟨this.1,by omega⟩
     .rw[mem_singleton.mp hx];exact⟨Bp,by rw[E];exact Int.le_refl _⟩
   .have h1:=By (fs:=fs) (P:=Ju P D es) y.len;have h2:=h.cnt;rw[length_append,List.length_singleton];omega
def cD(x:List az×Int):D:=.tup [.tup (x.1.map sD),.int x.2]
theorem Qg{ns:List Int}(h:ns≠[]):∃i,ns.min?=some i/\i∈ns/\∀j∈ns,i<=j:=by cases e:ns.min? with|none=>rw[List.min?_eq_none_iff]at e;exact absurd e h|some i=>have:=List.min?_eq_some_iff.mp e;exact⟨i,rfl,this.1,this.2⟩
def unS:D->az|.tup [.int j,.bl f]=>(j.toNat,f)|_=>(0,true)
@[simp]theorem Ql{s:az}:unS (sD s)=s:=rfl
def Nb(ws:List Wy)(fs:List Int)(s:az):Int:=match ws[s.1]?,fs[s.1]?with|some v,some g=>nP v g s.2|_,_=>0
def rmD(ws:List Wy)(fs:List Int)(d:D):D:=.int (Nb ws fs (unS d))
@[simp]theorem VB{es:List En}{p:Int}:vO false (.int p) (kh es)=some (.val (.bl (qW (es.map en) p))):=by show some (R.val (.bl ((es.map (·.1)).contains p)))=some (R.val (.bl ((Jx (es.map en)).contains p)));rw[zf]
def Chk(m:Int)(ws:List Wy)(x:List az×Int):Prop:=x.1.length<=5/\(∀s∈x.1,s.1<ws.length)/\iQ ws (m-1) x.1 0/\(x.1.map (·.1)).Nodup
structure Stg(m:Int)(ws:List Wy)(dF:List (List az×Int))(x:List az×Int):Prop where
 iv:∃F d,xN m ws dF (flow ws.length dF) F d
 ht:∃F,Pt ws (flow ws.length dF) F/\F 0=0/\F (m-1)=cW ws x.1
 op:sr ws (flow ws.length dF) x.1
 rm:∀s∈x.1,∃v g,ws[s.1]?=some v/\(flow ws.length dF)[s.1]?=some g/\x.2<=nP v g s.2
theorem xN.ht{d:Int}{fs:List Int}(h:xN m ws cs fs F d)(i:fY m ws fs es)(r:(m-1,l,o)∈es)(hc:Od ws fs es (m-1) l o.2 0 0 0 c):(∃F,Pt ws fs F/\F 0=0/\F (m-1)=cW ws c)/\d<=cW ws c:=by
 obtain⟨D,t⟩:=Bx F es;have u:cW ws c=o.2:=by have:=hc.hrs;omega
 refine⟨⟨Ed F D es,i.pt h.pt t,iB i.cm.nd i.cm.z,by rw[iB i.cm.nd r,u]⟩,?_⟩;have:=m9 h.pt hc.Jr hc.iZ;rw[h.e,h.z]at this;omega
def CK(m:Int)(ws:List Wy)(cs:List (List az×Int)):Prop:=cs.Pairwise (λa b=>cW ws a.1<=cW ws b.1)/\∀h x e,cs=h++x::e->Stg m ws h x
theorem CK.snoc{y:List az×Int}(h:CK m ws cs)(h1:∀x∈cs,cW ws x.1<=cW ws y.1)(u:Stg m ws cs y):CK m ws (cs++[y]):=by
 refine⟨?_,λt x i e=>?_⟩;.rw[List.pairwise_append];exact⟨h.1,by simp,λa A b B=>by rw[mem_singleton.mp B];exact h1 a A⟩
 . rcases List.eq_nil_or_concat i with rfl|⟨r,z,rfl⟩;.obtain⟨C,E⟩:=List.append_inj' e rfl;cases E;subst C;exact u
   . rw[List.concat_eq_append]at e;have G:cs++[y]=(t++x::r)++[z]:=by rw[e];simp
     exact h.2 t x r (List.append_inj' G rfl).1
structure Ends(m:Int)(ws:List Wy)(cs:List (List az×Int))(fs:List Int)(F:Int->Int)(d:Int)(es:List En):Prop where
 fl:fs=flow ws.length cs
 iv:xN m ws cs fs F d
 cm:fY m ws fs es
 no:¬ ∃l o,(m-1,l,o)∈es
 ck:∀x∈cs,Chk m ws x
 st:CK m ws cs
inductive FcE(a0 a1 a2 a3 a4 a5 a6:Sl)(ρ:List Sl):Prop where|mk(s:Sl)(q0:ρ=[a0,a1,a2,a3,a4,a5,a6,s])(q1:fr s=true)
inductive JE(m:Int)(ws:List Wy)(M:Nat)(ρ:List Sl):Prop where|mk(cs:List (List az×Int))(fs:List Int)(es:List En)(F:Int->Int)(d:Int)(s5 s6:Sl)(q0:ρ=[.val false (aL m ws),.val false (.int (m-1)),.own false (fs.map D.int),.own false (cs.map cD),.val false (kh es),s5,s6])(q1:(fr s5=true/\fr s6=true))(q2:fs=flow ws.length cs)(q3:xN m ws cs fs F d)(q4:fY m ws fs es)(q5:(∃P lam seen,Lh m ws cs.length fs P lam seen))(q6:cs.length+M=13286050)(q7:(∀x∈cs,Chk m ws x))(q8:CK m ws cs)
theorem HQ(hw:13286250<=w)(h:HN m ws)(hr:∀v∈ws,0<=v.r)(k:∀cs fs F d es,cs.length<=13286050->Ends m ws cs fs F d es->Q (.own (cs.map cD)) [.val false (aL m ws)]):(run Γ w (n+4) 7 [.val false (aL m ws)]).sat Q:=by
 have hn:=h.len;have m0:=h.m0;have m1:=h.m1;refine aN (d:=f7) rfl rfl (by decide) ?_;symm;simp[f7];refine fB (λρ=>ρ=[.val false (aL m ws),.val false (.int (m-1)),.own false ((flow ws.length []).map D.int),.aP,.aP,.aP,.aP]) ?_ ?_;.simp[flow];show _<=16777216;omega
 rintro _ rfl;have hh:∀v∈ws,0<=v.h:=λv hv=>(h.ok v hv).2.2;obtain⟨b0,I0⟩:∃b,xN m ws [] (flow ws.length []) (F01 b) b:=xN.zero m0 hh hr;symm;simp;apply ak;simp;refine pL (by omega) I0.pt (.inr ⟨true,rfl⟩) h I0.fit.len λes i=>?_;simp;apply ak;simp;refine jj (JE m ws) ?_ (k:=w) (m:=13286050) (by omega) ⟨[],flow ws.length [],es,F01 b0,b0,.aP,.aP,rfl,⟨rfl,rfl⟩,rfl,I0,i,⟨_,_,_,Lh.zero hn hh⟩,by simp,by simp,by simp,λdF x ay e=>by cases dF<;>cases e⟩;rintro M _⟨cs,fs,es,F,d,s5,s6,rfl,⟨h5,h6⟩,E,G,i,⟨P,aE,seen,hS⟩,hM,L,hst⟩;have ac:=G.fit.len;by_cases hq:∃l o,(m-1,l,o)∈es
 . obtain⟨l,o,t⟩:=hq;have kt:qW (es.map en) (m-1)=true:=xR.mpr ⟨l,o,t⟩;have ae:=i.l5 h G.pt t;simp[kt];apply ak;simp;refine Cd (by omega) i ae t λc hc=>?_;simp[h5];apply ak;have af:c.length<=5:=by have:=hc.len;omega
   have Z:∀s∈c,∃v g,ws[s.1]?=some v/\fs[s.1]?=some g/\0<nP v g s.2:=λs hs=>by obtain⟨v,e,o⟩:=hc.iZ s hs;obtain⟨v',g,A,C,_,e4⟩:=pX o;exact⟨v',g,A,C,e4⟩
   simp[show c.length<=16777216 by omega];refine dz (FcE _ _ _ _ _ _ _) (rmD ws fs) ⟨.aP,rfl,rfl⟩ ?_ ?_;.rintro d hd _⟨s',rfl,O⟩;obtain⟨s,hs,rfl⟩:=mem_map.mp hd;obtain⟨v,g,A,C,_⟩:=Z s hs;simp[O,sD];refine rQ (.inr ⟨true,rfl⟩) A C ?_;simp;refine⟨?_,_,rfl,rfl⟩;show D.int (Nb ws fs (unS (sD s)))=_;rw[Ql];unfold Nb;rw[A,C]
   rintro _⟨s',rfl,O⟩;have U:(c.map sD).map (rmD ws fs)=(c.map (Nb ws fs)).map D.int:=by rw[map_map,map_map];rfl
   rw[U];have ag:c≠[]:=by rintro rfl;have:(0:Int)=m-1:=hc.Jr;omega
   obtain⟨x,ah,ai,am⟩:=Qg (ns:=c.map (Nb ws fs)) (by simpa using ag);obtain⟨s,hs,ap⟩:=mem_map.mp ai;obtain⟨v,g,A,C,e3⟩:=Z s hs;have ar:nP v g s.2=x:=by rw[<-ap];unfold Nb;rw[A,C]
   have av:0<x:=by omega
   have H:∀s∈c,∃v g,ws[s.1]?=some v/\fs[s.1]?=some g/\x<=nP v g s.2:=λu J=>by obtain⟨v,g,A,C,_⟩:=Z u J;refine⟨v,g,A,C,?_⟩;have:=am _ (mem_map.mpr ⟨u,J,rfl⟩);unfold Nb at this;rw[A,C]at this;exact this
   have W:∀s∈c,s.1<ws.length:=λu J=>by obtain⟨v,g,A,_⟩:=Z u J;exact(dU A).1
   obtain⟨F',I⟩:=G.more i t hc av H;have X:CK m ws (cs++[(c,x)]):=by obtain⟨g1,g2⟩:=G.ht i t hc;refine hst.snoc (λy hy=>Int.le_trans (G.ch y hy).1 g2) ?_;have Y:=G;rw[E]at Y g1 H;exact⟨⟨_,_,Y⟩,g1,by rw[<-E];exact hc.iZ,H⟩
   have B:=hS.more h G.pt i t hc hs A C;rw[ar]at B;obtain⟨P',Tn,Js,B⟩:=B;have aI:=B.few hn;generalize c.map (Nb ws fs)=ns at*;simp[wK,ah,h6];apply ak;simp[show cs.length<16777216 by omega];apply ak;simp;refine vP (.inr ⟨true,rfl⟩) (λu J=>by rw[ac];exact W u J) ?_;simp;apply ak;have aw:aug x fs c=flow ws.length (cs++[(c,x)]):=by rw[wQ,<-E]
   simp;refine pL (by omega) I.pt (.inr ⟨true,rfl⟩) h I.fit.len λes' ax=>?_;simp;refine⟨M-1,by omega,cs++[(c,x)],aug x fs c,es',F',o.2,.val false (.tup (c.map sD)),.val false (.int x),by simp[cD],⟨rfl,rfl⟩,aw,I,ax,⟨P',Tn,Js,by rw[length_append];exact B⟩,by simp;omega,λy hy=>?_,X⟩;rcases mem_append.mp hy with hy|hy;.exact L y hy
   . obtain rfl:y=(c,x):=by simpa using hy
     exact⟨af,W,hc.Jr,hc.nd⟩
 .have kt:qW (es.map en) (m-1)=false:=kin_no hq;simp[kt];apply ak;simp;exact k cs fs F d es (by omega) ⟨E,G,i,hq,L,hst⟩
def cY(ks:List Nat):List Int:=ks.map λ(k:Nat)=>(k:Int)
def dot(c:Int->Int):List Wy->List Int->Int|w::ws,f::fs=>f*(c w.s-c w.t)+dot c ws fs|_,_=>0
def kJ(e:List Int):D->D|.int i=>.int (e.getD i.toNat 0)|d=>d
theorem my{e:List Int}{ks:List Nat}:((cY ks).map D.int).map (kJ e)=(ks.map λk=>e.getD k 0).map D.int:=by simp only[cY,map_map];apply map_congr_left;intro k _;simp[kJ]
def lF(p:Int):Nat->List Wy->List Nat|_,[]=>[]|i,w::ws=>if w.t=p then i::lF p (i+1) ws else lF p (i+1) ws
def kW(p:Int):Nat->List Wy->List Nat|_,[]=>[]|i,w::ws=>if w.s=p then i::kW p (i+1) ws else kW p (i+1) ws
def inD(p:Int):D->Option D|.tup [i,.tup (_::.int t::_)]=>if t==p then some i else none|_=>none
def outD(p:Int):D->Option D|.tup [i,.tup (.int s::_)]=>if s==p then some i else none|_=>none
@[simp]theorem adC{p s t:Int}{i r h:D}:inD p (.tup [i,.tup [.int s,.int t,r,h]])=if t==p then some i else none:=rfl
@[simp]theorem acf{p s t:Int}{i r h:D}:outD p (.tup [i,.tup [.int s,.int t,r,h]])=if s==p then some i else none:=rfl
def zm(ws:List Wy):List D:=(ws.map Wy.d).mapIdx λi d=>D.tup [.int (i:Int),d]
theorem JV{ds:List D}{d:D}(h:d∈ds.mapIdx λi d=>D.tup [.int (i:Int),d]):∃(i:Nat)(e:D),d=.tup [.int i,e]/\e∈ds:=by rw[List.mem_mapIdx]at h;obtain⟨i,r,rfl⟩:=h;exact⟨i,_,rfl,getElem_mem r⟩
theorem wz{d:D}(h:d∈zm ws):∃(i:Nat)(w:Wy),d=.tup [.int i,w.d]/\w∈ws:=by obtain⟨i,e,rfl,he⟩:=JV h;obtain⟨w,r,rfl⟩:=mem_map.mp he;exact⟨i,w,rfl,r⟩
theorem pW(f:D->Option D)(h:Nat->List Wy->List Nat)(h0:∀i,h i []=[])(h1:∀(i:Nat)(w:Wy)(ws:List Wy),(match f (.tup [.int (i:Int),w.d])with|some x=>x=.int (i:Int)/\h i (w::ws)=i::h (i+1) ws|none=>h i (w::ws)=h (i+1) ws)):∀(ws:List Wy)(i:Nat),(((ws.map Wy.d).mapIdx λj d=>D.tup [.int ((i+j:Nat):Int),d]).filterMap f)=(cY (h i ws)).map D.int
 |[],i=>by rw[h0];rfl|w::ws,i=>by
   rw[map_cons,List.mapIdx_cons,filterMap_cons];have r:=pW f h h0 h1 ws (i+1);have e:(λ(j:Nat)(d:D)=>D.tup [.int ((i+(j+1):Nat):Int),d])=λj d=>D.tup [.int ((i+1+j:Nat):Int),d]:=by funext j d;rw[show i+(j+1)=i+1+j by omega]
   rw[e,r];have:=h1 i w ws;rw[Nat.add_zero];cases hf:f (.tup [.int (i:Int),w.d])with|none=>rw[hf]at this;simp only at this;rw[this]|some x=>rw[hf]at this;simp only at this;rw[this.2,this.1];rfl
theorem Q4:(zm ws).filterMap (inD p)=(cY (lF p 0 ws)).map D.int:=by have:=pW (inD p) (lF p) (λ_=>rfl) (λi w ws=>by by_cases h:w.t=p<;>simp[Wy.d,lF,h]) ws 0;simpa[zm]using this
theorem JD:(zm ws).filterMap (outD p)=(cY (kW p 0 ws)).map D.int:=by have:=pW (outD p) (kW p) (λ_=>rfl) (λi w ws=>by by_cases h:w.s=p<;>simp[Wy.d,kW,h]) ws 0;simpa[zm]using this
inductive F2(a b:Sl)(ρ:List Sl):Prop where|mk(s:Sl)(t:Sl)(q0:ρ=[a,b,s,t])(q1:fr s=true)(q2:fr t=true)
theorem Bc(h:fu m ws)(k:Q (.own ((cY (kW p 0 ws)).map D.int)) [.val false (aL m ws),.val false (.int p)]):(run Γ w (n+1) 8 [.val false (aL m ws),.val false (.int p)]).sat Q:=by
 refine aN (d:=f8) rfl rfl (by decide) ?_;symm;have r:=h.len;have h1:ws.length<=lim:=by show _<=16777216;omega
 simp[f8,h1];refine sE (F2 _ _) (outD p) ⟨.aP,.aP,rfl,rfl,rfl⟩ ?_ ?_
 . rintro d hd _⟨s,t,rfl,hs,ht⟩;obtain⟨i,w,rfl,u⟩:=wz hd;by_cases e:w.s=p;.simp[hs,ht,Wy.d,e];exact⟨_,_,rfl,rfl,rfl⟩
   .simp[hs,ht,Wy.d,e];exact⟨_,_,rfl,rfl,rfl⟩
 .rintro _⟨s,t,rfl,hs,ht⟩;rw[show((map Wy.d ws).mapIdx λi d=>D.tup [.int (i:Int),d])=zm ws from rfl,JD];generalize(cY (kW p 0 ws)).map D.int=L at*;simp;exact k
theorem Ht(h:fu m ws)(k:Q (.own ((cY (lF p 0 ws)).map D.int)) [.val false (aL m ws),.val false (.int p)]):(run Γ w (n+1) 9 [.val false (aL m ws),.val false (.int p)]).sat Q:=by
 refine aN (d:=f9) rfl rfl (by decide) ?_;symm;have r:=h.len;have h1:ws.length<=lim:=by show _<=16777216;omega
 simp[f9,h1];refine sE (F2 _ _) (inD p) ⟨.aP,.aP,rfl,rfl,rfl⟩ ?_ ?_
 . rintro d hd _⟨s,t,rfl,hs,ht⟩;obtain⟨i,w,rfl,u⟩:=wz hd;by_cases e:w.t=p;.simp[hs,ht,Wy.d,e];exact⟨_,_,rfl,rfl,rfl⟩
   .simp[hs,ht,Wy.d,e];exact⟨_,_,rfl,rfl,rfl⟩
 .rintro _⟨s,t,rfl,hs,ht⟩;rw[show((map Wy.d ws).mapIdx λi d=>D.tup [.int (i:Int),d])=zm ws from rfl,Q4];generalize(cY (lF p 0 ws)).map D.int=L at*;simp;exact k
def jf(p:Int):List Wy->List Int->Int|w::ws,f::fs=>(if w.t=p then f else 0)+jf p ws fs|_,_=>0
def jB(p:Int):List Wy->List Int->Int|w::ws,f::fs=>(if w.s=p then f else 0)+jB p ws fs|_,_=>0
theorem pA{p:Int}{F:List Int}:∀(ws:List Wy)(i:Nat),F.length=i+ws.length->((lF p i ws).map λk=>F.getD k 0).sum=jf p ws (F.drop i)/\∀k∈lF p i ws,k<F.length
 |[],i,_=>by simp[lF,jf]|w::ws,i,h=>by
   simp only[length_cons]at h;have y:i<F.length:=by omega
   obtain⟨r,u⟩:=pA (F:=F) ws (i+1) (by omega);rw[drop_eq_getElem_cons y,lF,jf];by_cases e:w.t=p
   . rw[if_pos e,if_pos e];refine⟨?_,λk hk=>?_⟩;.rw[map_cons,List.sum_cons,r];simp[y]
     . rcases mem_cons.mp hk with rfl|hk;.exact y
       .exact u k hk
   .rw[if_neg e,if_neg e];exact⟨by rw[r];omega,u⟩
theorem pM{p:Int}{F:List Int}:∀(ws:List Wy)(i:Nat),F.length=i+ws.length->((kW p i ws).map λk=>F.getD k 0).sum=jB p ws (F.drop i)/\∀k∈kW p i ws,k<F.length
 |[],i,_=>by simp[kW,jB]|w::ws,i,h=>by
   simp only[length_cons]at h;have u:i<F.length:=by omega
   obtain⟨r,t⟩:=pM (F:=F) ws (i+1) (by omega);rw[drop_eq_getElem_cons u,kW,jB];by_cases e:w.s=p
   . rw[if_pos e,if_pos e];refine⟨?_,λk hk=>?_⟩;.rw[map_cons,List.sum_cons,r];simp[u]
     . rcases mem_cons.mp hk with rfl|hk;.exact u
       .exact t k hk
   .rw[if_neg e,if_neg e];exact⟨by rw[r];omega,t⟩
theorem qi{p:Int}:∀(ws:List Wy)(i:Nat),(lF p i ws).length<=ws.length|[],_=>cQ|w::ws,i=>by have:=qi (p:=p) ws (i+1);rw[lF];split<;>simp<;>omega
theorem pg{p:Int}:∀(ws:List Wy)(i:Nat),(kW p i ws).length<=ws.length|[],_=>cQ|w::ws,i=>by have:=pg (p:=p) ws (i+1);rw[kW];split<;>simp<;>omega
inductive F4(a b c d:Sl)(ρ:List Sl):Prop where|mk(s:Sl)(q0:ρ=[a,b,c,d,s])(q1:fr s=true)
theorem yw{b:Bool}{fs:List Int}(h:fu m ws)(E:fs.length=ws.length)(k:Q (.val (.int (jf p ws fs-jB p ws fs))) [.val false (aL m ws),.own b (fs.map D.int),.val false (.int p)]):(run Γ w (n+2) 10 [.val false (aL m ws),.own b (fs.map D.int),.val false (.int p)]).sat Q:=by
 have G:=h.len;refine aN (d:=U4) rfl rfl (by decide) ?_;symm;simp[U4];refine Ht h ?_;obtain⟨t1,u⟩:=pA (p:=p) (F:=fs) ws 0 (by omega);have y:=qi (p:=p) ws 0;generalize lF p 0 ws=ks at*;simp[show(cY ks).length<=lim by simp only[cY,length_map];show _<=16777216;omega];refine dz (F4 _ _ _ _) (kJ fs) ⟨.aP,rfl,rfl⟩ ?_ ?_;.rintro d hd _⟨r,rfl,e⟩;simp only[cY,map_map,mem_map]at hd;obtain⟨k,t,rfl⟩:=hd;obtain⟨f,i⟩:∃f,fs[k]?=some f:=⟨_,getElem?_eq_getElem (u k t)⟩;simp[e,dm i,kJ,i];exact⟨_,rfl,rfl⟩
 rintro _⟨r,rfl,e⟩;rw[my];generalize(ks.map λk=>fs.getD k 0)=ns at*;simp[t1];apply ak;simp;refine Bc h ?_;obtain⟨A,B⟩:=pM (p:=p) (F:=fs) ws 0 (by omega);have C:=pg (p:=p) ws 0;generalize kW p 0 ws=ks at*;simp[show(cY ks).length<=lim by simp only[cY,length_map];show _<=16777216;omega];refine dz (F4 _ _ _ _) (kJ fs) ⟨.aP,rfl,rfl⟩ ?_ ?_;.rintro d hd _⟨r,rfl,e⟩;simp only[cY,map_map,mem_map]at hd;obtain⟨k,t,rfl⟩:=hd;obtain⟨f,i⟩:∃f,fs[k]?=some f:=⟨_,getElem?_eq_getElem (B k t)⟩;simp[e,dm i,kJ,i];exact⟨_,rfl,rfl⟩
 rintro _⟨r,rfl,e⟩;rw[my];generalize(ks.map λk=>fs.getD k 0)=ns at*;simp[A];exact k
theorem xP{fs:List Int}(h:fu m ws)(E:fs.length=ws.length)(k:Q (.val (.int (jf p ws fs-jB p ws fs))) [.val false (aL m ws),.val false (.lst (fs.map D.int)),.val false (.int p)]):(run Γ w (n+2) 10 [.val false (aL m ws),.val false (.lst (fs.map D.int)),.val false (.int p)]).sat Q:=by
 have G:=h.len;refine aN (d:=U4) rfl rfl (by decide) ?_;symm;simp[U4];refine Ht h ?_;obtain⟨t1,u⟩:=pA (p:=p) (F:=fs) ws 0 (by omega);have y:=qi (p:=p) ws 0;generalize lF p 0 ws=ks at*;simp[show(cY ks).length<=lim by simp only[cY,length_map];show _<=16777216;omega];refine dz (F4 _ _ _ _) (kJ fs) ⟨.aP,rfl,rfl⟩ ?_ ?_;.rintro d hd _⟨r,rfl,e⟩;simp only[cY,map_map,mem_map]at hd;obtain⟨k,t,rfl⟩:=hd;obtain⟨f,i⟩:∃f,fs[k]?=some f:=⟨_,getElem?_eq_getElem (u k t)⟩;simp[e,dm i,kJ,i];exact⟨_,rfl,rfl⟩
 rintro _⟨r,rfl,e⟩;rw[my];generalize(ks.map λk=>fs.getD k 0)=ns at*;simp[t1];apply ak;simp;refine Bc h ?_;obtain⟨A,B⟩:=pM (p:=p) (F:=fs) ws 0 (by omega);have C:=pg (p:=p) ws 0;generalize kW p 0 ws=ks at*;simp[show(cY ks).length<=lim by simp only[cY,length_map];show _<=16777216;omega];refine dz (F4 _ _ _ _) (kJ fs) ⟨.aP,rfl,rfl⟩ ?_ ?_;.rintro d hd _⟨r,rfl,e⟩;simp only[cY,map_map,mem_map]at hd;obtain⟨k,t,rfl⟩:=hd;obtain⟨f,i⟩:∃f,fs[k]?=some f:=⟨_,getElem?_eq_getElem (B k t)⟩;simp[e,dm i,kJ,i];exact⟨_,rfl,rfl⟩
 rintro _⟨r,rfl,e⟩;rw[my];generalize(ks.map λk=>fs.getD k 0)=ns at*;simp[A];exact k
theorem jT(p:Int):∀(ws:List Wy)(fs:List Int),dot (λx=>if x=p then 1 else 0) ws fs=jB p ws fs-jf p ws fs|[],_=>rfl|_::_,[]=>rfl|w::ws,f::fs=>by simp only[dot,jB,jf,jT p ws fs];by_cases e:w.s=p<;>by_cases h:w.t=p<;>simp[e,h]<;>omega
theorem Dp{b:Bool}{fs:List Int}(h:fu m ws)(e:fs.length=ws.length)(k:Q (.val (.int (dot (λx=>if x=0 then 1 else 0) ws fs))) [.val false (aL m ws),.own b (fs.map D.int)]):(run Γ w (n+3) 11 [.val false (aL m ws),.own b (fs.map D.int)]).sat Q:=by refine aN (d:=f11) rfl rfl (by decide) ?_;symm;simp[f11];refine yw h e ?_;rw[jT]at k;simp;rw[show-(jf 0 ws fs-jB 0 ws fs)=jB 0 ws fs-jf 0 ws fs by omega];exact k
theorem DN{fs:List Int}(h:fu m ws)(e:fs.length=ws.length)(k:Q (.val (.int (dot (λx=>if x=0 then 1 else 0) ws fs))) [.val false (aL m ws),.val false (.lst (fs.map D.int))]):(run Γ w (n+3) 11 [.val false (aL m ws),.val false (.lst (fs.map D.int))]).sat Q:=by refine aN (d:=f11) rfl rfl (by decide) ?_;symm;simp[f11];refine xP h e ?_;rw[jT]at k;simp;rw[show-(jf 0 ws fs-jB 0 ws fs)=jB 0 ws fs-jf 0 ws fs by omega];exact k
theorem Iu{s:Sl}{fs:List Int}(hs:UL s fs)(h:fu m ws)(e:fs.length=ws.length)(k:Q (.val (.int (dot (λx=>if x=0 then 1 else 0) ws fs))) [.val false (aL m ws),s]):(run Γ w (n+3) 11 [.val false (aL m ws),s]).sat Q:=by
 rcases hs with rfl|⟨b,rfl⟩;.exact DN h e k
 .exact Dp h e k
def Wy.z(w:Wy):Wy:={w with h:=0}
def hlD:D->D|.tup [a,b,c,_]=>.tup [a,b,c,.int 0]|d=>d
@[simp]theorem adR{a b c e:D}:hlD (.tup [a,b,c,e])=.tup [a,b,c,.int 0]:=rfl
inductive F1z(a:Sl)(ρ:List Sl):Prop where|mk(s:Sl)(q0:ρ=[a,s])(q1:fr s=true)
theorem uf(h:fu m ws)(k:Q (.val (aL m (ws.map Wy.z))) [.val false (aL m ws)]):(run Γ w (n+1) 12 [.val false (aL m ws)]).sat Q:=by
 have t:=h.len;refine aN (d:=Zk) rfl rfl (by decide) ?_;symm;simp[Zk,show ws.length<=lim by show _<=16777216;omega];refine dz (F1z _) hlD ⟨.aP,rfl,rfl⟩ ?_ ?_;.rintro d hd _⟨r,rfl,i⟩;obtain⟨v,_,rfl⟩:=mem_map.mp hd;simp[i,Wy.d];exact⟨_,rfl,rfl⟩
 . rintro _⟨r,rfl,i⟩;have e:(ws.map Wy.d).map hlD=(ws.map Wy.z).map Wy.d:=by rw[map_map,map_map];rfl
   rw[e];simp;simpa[aL]using k
def gJ(S:List Int):List Wy->Int|[]=>0|w::ws=>(if w.s∈S/\w.t∉S then w.r else 0)+gJ S ws
def Wb(m:Int)(S:List Int):Prop:=0∈S/\m-1∉S
def Su(S:List Int)(v:Wy):Int:=if v.s∈S/\v.t∉S then v.r else 0
theorem p6{S:List Int}:∀{ws:List Wy},wu (Su S) ws=gJ S ws|[]=>rfl|v::ws=>by rw[wu,gJ,p6];rfl
theorem Aw{S T:List Int}(h:∀x,x∈S↔x∈T):∀{ws:List Wy},gJ S ws=gJ T ws|[]=>rfl|v::ws=>by rw[gJ,gJ,Aw h,];simp only[h]
def Vp(cs:List (List az×Int)):Int:=fU (λx=>x.2) cs
def nS(S:List Int)(p:Int):Int:=if p∈S then 0 else 1
theorem fY.sub{fs:List Int}{es':List En}(h:fY m ws fs es)(h':fY m ws fs es')(z:(p,l,o)∈es'):∃l o,(p,l,o)∈es:=by
 obtain⟨a,b,c,e,c1,c2,c3,c4⟩:=h'.cm.wk p l o z;obtain⟨rfl,rfl⟩:a=0/\b=0:=by have:=mem_singleton.mp e;cases this;exact⟨rfl,rfl⟩
 obtain⟨l2,i,r,_⟩:=h.all c1 c2 h.cm.z;exact⟨l2,i,r⟩
theorem Ends.cutE{d:Int}{fs:List Int}{es':List En}(y:Ends m ws cs fs F d es)(h:fY m ws fs es'):Wb m (es'.map (·.1))/\gJ (es'.map (·.1)) ws=Vp cs:=by
 have i:Wb m (es'.map (·.1)):=⟨mem_map.mpr ⟨_,h.cm.z,rfl⟩,λz=>by obtain⟨⟨p,l,o⟩,he,e⟩:=mem_map.mp z;have e:p=m-1:=e;exact y.no (e▸y.cm.sub h he)⟩;have C:∀S,Wb m S->Vp cs=eG (gap 0 (nS S)) ws fs:=λS i=>by rw[y.iv.dt];refine mz λx _=>?_;show x.2=x.2*((if m-1∈S then 0 else 1)-(if 0∈S then 0 else 1)-0*cW ws x.1);rw[if_neg i.2,if_pos i.1];simp
 have le:∀S,Wb m S->Vp cs<=gJ S ws:=λS i=>by rw[C S i,<-p6];refine yu y.iv.fit.len λj v g u A=>?_;have E:=y.iv.fit.ok _ _ _ u A;unfold gap nS Su;by_cases a:v.s∈S<;>by_cases b:v.t∈S<;>simp[a,b]<;>omega
 refine⟨i,Int.le_antisymm ?_ (le _ i)⟩;rw[C _ i,<-p6];have step:∀(j:Nat)(v:Wy)(g:Int),ws[j]?=some v->fs[j]?=some g->∀f:Bool,frm v f∈es'.map (·.1)->too v f∉es'.map (·.1)->¬ 0<nP v g f:=λj v g u A f h1 G H=>by obtain⟨⟨p,l,o⟩,he,e⟩:=mem_map.mp h1;have e:p=frm v f:=e;subst e;obtain⟨l2,I,B,_⟩:=h.cl l o (j,f) v u he (by rw[lB (s:=(j,f)) u A];simp[H]);exact G (mem_map.mpr ⟨_,B,rfl⟩)
 refine yD y.iv.fit.len λj v g u A=>?_;have E:=y.iv.fit.ok _ _ _ u A;have s1:=step j v g u A true;have s2:=step j v g u A false;generalize es'.map (·.1)=S at*;have s1:v.s∈S->v.t∉S->¬ 0<v.r-g:=s1;have s2:v.t∈S->v.s∉S->¬ 0<g:=s2;unfold gap nS Su;by_cases a:v.s∈S<;>by_cases b:v.t∈S;.simp[a,b]
 .have:=s1 a b;simp[a,b];omega
 .have:=s2 b a;simp[a,b];omega
 .simp[a,b]
def over(p:Int)(ws:List Wy)(fs:List Int):Int:=jB p ws fs-jf p ws fs
theorem o5{p:Int}:∀{ws:List Wy}{fs:List Int},eG (gap 0 (λx=>if x=p then-1 else 0)) ws fs=over p ws fs
 |[],fs=>by cases fs<;>rfl|_::_,[]=>rfl|v::ws,g::fs=>by
   have e:over p (v::ws) (g::fs)=(if v.s=p then g else 0)-(if v.t=p then g else 0)+over p ws fs:=by simp only[over,jB,jf];omega
   rw[eG,o5,e];congr 1;unfold gap;by_cases a:v.s=p<;>by_cases b:v.t=p<;>simp[a,b]
def Within(ws:List Wy)(fs:List Int):Prop:=∀(k:Nat)(w:Wy)(f:Int),ws[k]?=some w->fs[k]?=some f->0<=f/\f<=w.r
def lr(m:Int)(ws:List Wy)(fs:List Int):Prop:=fs.length=ws.length/\Within ws fs/\0<=over 0 ws fs/\∀p,1<=p->p<m-1->over p ws fs=0
theorem Br{f:List az×Int->Int}:∀{cs:List (List az×Int)},(∀x∈cs,0<=f x)->0<=fU f cs|[],_=>Int.le_refl _|x::cs,h=>by have:=h x (by simp);have:=Br (cs:=cs) λy e=>h y (by simp[e]);rw[fU];omega
theorem Ends.rgt{d:Int}{fs:List Int}(m0:2<=m)(e:Ends m ws cs fs F d es):over 0 ws fs=Vp cs/\lr m ws fs:=by
 have h:over 0 ws fs=Vp cs:=by rw[<-o5,e.iv.dt];refine mz λx _=>?_;show x.2*((if m-1=0 then-1 else 0)-(if(0:Int)=0 then-1 else 0)-0*cW ws x.1)=x.2;rw[if_neg (by omega),if_pos rfl];simp
 refine⟨h,e.iv.fit.len,e.iv.fit.ok,?_,λp t u=>?_⟩;.rw[h];exact Br λx i=>by have:=(e.iv.ch x i).2.1;show 0<=x.2;omega
 . rw[<-o5,e.iv.dt];have:fU (λx=>x.2*((if m-1=p then-1 else 0)-(if 0=p then-1 else 0)-0*cW ws x.1)) cs=fU (λ_=>0) cs:=mz λx _=>by rw[if_neg (by omega),if_neg (by omega)];simp
   rw[this];generalize cs=l;induction l with|nil=>rfl|cons x l r=>rw[fU,r];rfl
theorem NT{S:List Int}:∀{ws:List Wy},gJ S (ws.map Wy.z)=gJ S ws|[]=>rfl|v::ws=>by rw[map_cons,gJ,gJ,NT];rfl
theorem uG{p:Int}:∀{ws:List Wy}{fs:List Int},over p (ws.map Wy.z) fs=over p ws fs|[],_=>rfl|_::_,[]=>rfl|v::ws,g::fs=>by have e:=uG (p:=p) (ws:=ws) (fs:=fs);simp only[over]at e;simp only[over,map_cons,jB,jf];show(if v.s=p then g else 0)+_-((if v.t=p then g else 0)+_)=_;omega
theorem Ko{fs:List Int}(h:lr m (ws.map Wy.z) fs):lr m ws fs:=by refine⟨by simpa using h.1,λk w f e i=>?_,by rw[<-uG];exact h.2.2.1,λp r t=>by rw[<-uG];exact h.2.2.2 p r t⟩;exact h.2.1 k w.z f (by rw[getElem?_map,e];rfl) i
structure Bo(m:Int)(ws:List Wy)(q:Int)(fs S:List Int):Prop where
 right:lr m ws fs
 rt:over 0 ws fs=q
 rise:S.Pairwise (·<·)sd:Wb m S
 M4:∀p∈S,0<=p/\p<m
 cut:gJ S ws=q
 len:S.length<=6
theorem Bf:mD (.int a) (.int b)=true↔a<=b:=by simp[mD,mZ,cU,cF]
theorem qg(S:List Int):∃i:List Int,n8 (S.map D.int)=i.map D.int/\i.Perm S/\i.Pairwise (·<=·):=by
 have t:=jG (S.map D.int);have hs:=lg (S.map D.int);obtain⟨i,e⟩:∃i:List Int,n8 (S.map D.int)=i.map D.int:=⟨(n8 (S.map D.int)).map cU,by rw[map_map];refine(map_id _).symm.trans (map_congr_left λd hd=>?_);obtain⟨p,_,rfl⟩:=mem_map.mp (t.mem_iff.mp hd);rfl⟩;refine⟨i,e,?_,?_⟩
 . rw[e]at t;have:=t.map cU;have r:∀S:List Int,(S.map D.int).map cU=S:=λS=>by rw[map_map];exact(map_congr_left λ_ _=>rfl).trans (map_id _)
   rwa[r,r]at this
 .rw[e,pairwise_map]at hs;exact hs.imp λh=>Bf.mp h
def jX(q:Int)(fs S:List Int):D:=.tup [.int q,.lst (fs.map D.int),.tup (S.map D.int)]
inductive JFl(m:Int)(ws zs:List Wy)(cs:List (List az×Int))(r:List D)(ρ:List Sl):Prop where|mk(dF us:List (List az×Int))(s3 s4:Sl)(q0:ρ=[.val false (aL m ws),.val false (aL m zs),.own false ((flow ws.length dF).map D.int),s3,s4,.aP])(q1:fr s3=true)(q2:fr s4=true)(q3:r=us.map cD)(q4:dF++us=cs)
theorem p8:(flow N cs).length=N:=by
 have:∀(cs:List (List az×Int))(fs:List Int),(cs.foldl Om fs).length=fs.length:=λcs=>by induction cs with|nil=>intro fs;rfl|cons x cs e=>intro fs;rw[foldl_cons,e];exact oU
 unfold flow;rw[this];simp
theorem wg(B:13286250<=w)(h:fu m ws)(k:∀q fs S,Bo m ws q fs S->Q (.val (jX q fs S)) [.val false (aL m ws)]):(run Γ w (n+5) 13 [.val false (aL m ws)]).sat Q:=by
 have hn:=h.len;have m0:=h.m0;have m1:=h.m1;have hz:HN m (ws.map Wy.z):=⟨h.m0,h.m1,by rw[length_map];exact h.len,λw B=>by obtain⟨v,H,rfl⟩:=mem_map.mp B;have:=h.ok v H;exact⟨⟨this.s0,this.s1⟩,⟨this.t0,this.t1⟩,Int.le_refl _⟩⟩;have I:∀v∈ws.map Wy.z,0<=v.r:=λw B=>by obtain⟨v,H,rfl⟩:=mem_map.mp B;exact(h.ok v H).r0
 have y:(ws.map Wy.z).length=ws.length:=length_map _;have J:∀S,gJ S (ws.map Wy.z)=gJ S ws:=λS=>NT;have L:∀fs,over 0 (ws.map Wy.z) fs=over 0 ws fs:=λfs=>uG;have M:∀fs,lr m (ws.map Wy.z) fs->lr m ws fs:=λfs=>Ko;refine aN (d:=Zh) rfl rfl (by decide) ?_;symm;simp[Zh];refine uf h ?_;generalize ws.map Wy.z=zs at*;simp;refine fB (λρ=>ρ=[.val false (aL m ws),.val false (aL m zs),.own false ((flow ws.length []).map D.int),.aP,.aP,.aP]) ?_ ?_;.simp[flow];show _<=16777216;omega
 rintro _ rfl;symm;simp;refine HQ B hz I λcs fs F d es ag C=>?_;obtain⟨O,U⟩:=C.rgt m0;have W:=λes'=>C.cutE (es':=es');have E:=C.fl;rw[y]at E;have X:=C.iv.pt;have Y:=C.ck;subst E;simp;refine cM (JFl m ws zs cs) ?_ ?_ ⟨[],cs,.aP,.aP,rfl,rfl,rfl,rfl,rfl⟩;.rintro d r _⟨G,t,s3,s4,rfl,h3,h4,hr,hd⟩;cases t with|nil=>cases hr|cons u t=>
     obtain⟨rfl,rfl⟩:d=cD u/\r=t.map cD:=by simpa using hr
     have Z:(G++[u])++t=cs:=by rw[append_assoc];exact hd
     simp[cD,h3,h4];apply ak;simp;refine vP (.inr ⟨true,rfl⟩) (λs hs=>by rw[p8,<-y];exact(Y u (by rw[<-hd];simp)).2.1 s hs) ?_;simp;exact⟨G++[u],t,_,_,by rw[wQ],rfl,rfl,rfl,Z⟩
 . rintro _⟨G,t,s3,s4,rfl,h3,h4,hr,hd⟩;have:t=[]:=by cases t with|nil=>rfl|cons _ _=>cases hr
   subst this;rw[append_nil]at hd;subst hd;simp;apply ak;simp;refine pL (by omega) X (.inr ⟨true,rfl⟩) hz (by rw[p8,y]) λes i=>?_;obtain⟨S,ac,A,ae⟩:=qg (es.map (·.1));obtain⟨g1,g2⟩:=W es i;have af:blt .nD [kh es]=some (.own (S.map D.int)):=by show(if(es.map (·.1)).length<64 then some (R.own (n8 ((es.map (·.1)).map D.int)))else none)=_;have hl:=i.cm.len m1;rw[ac,if_pos (by rw[length_map];omega)]
   simp[af];apply ak;simp;refine Iu (.inr ⟨true,rfl⟩) h p8 ?_;simp;have hd:dot (λx=>if x=0 then 1 else 0) ws (flow ws.length G)=over 0 ws (flow ws.length G):=jT 0 _ _;rw[hd];have e:∀x,x∈S↔x∈es.map (·.1):=λx=>A.mem_iff;refine k _ _ S ⟨M _ U,rfl,?_,⟨(e 0).mpr g1.1,λz=>g1.2 ((e _).mp z)⟩,λp hp=>?_,?_,?_⟩;.have nd:S.Nodup:=A.nodup_iff.mpr i.cm.nd;exact(ae.and nd).imp λ{a b}⟨h1,h2⟩=>by omega
   .obtain⟨⟨p,l,o⟩,he,rfl⟩:=mem_map.mp ((e p).mp hp);exact i.cm.M4 p l o he
   .rw[<-J,Aw e,g2,<-O,L]
   .have hl:=i.cm.len m1;rw[A.length_eq,length_map];exact hl
inductive JO(m p:Int)(ws:List Wy)(fs:List Int)(i:Nat)(ρ:List Sl):Prop where|mk(f:Int)(s4 s5 s6 s7 s8:Sl)(q0:ρ=[.val false (aL m ws),.val false (.lst (fs.map D.int)),.val false (.int p),.val false (.int f),s4,s5,s6,s7,s8])(q1:A5 (fr s4=true) (fr s5=true) (fr s6=true) (fr s7=true) (fr s8=true))(q2:f+over p (ws.drop i) (fs.drop i)=over p ws fs)
theorem Cp{w:Wy}{f:Int}{fs:List Int}:over p (w::ws) (f::fs)=(if w.s=p then f else 0)-(if w.t=p then f else 0)+over p ws fs:=by simp only[over,jB,jf];omega
theorem pI{fs:List Int}(h:fu m ws)(L:fs.length=ws.length)(k:Q (.val (.int (over p ws fs))) [.val false (aL m ws),.val false (.lst (fs.map D.int)),.val false (.int p)]):(run Γ w (n+1) 19 [.val false (aL m ws),.val false (.lst (fs.map D.int)),.val false (.int p)]).sat Q:=by
 have M:=h.len;refine aN (d:=YC) rfl rfl (by decide) ?_;symm;simp[YC];apply ak;simp[show(ws.length:Int)<=1000000000 by omega];refine gQ (JO m p ws fs) ?_ ?_ ⟨0,.aP,.aP,.aP,.aP,.aP,rfl,⟨rfl,rfl,rfl,rfl,rfl⟩,by simp⟩
 . rintro i _ A⟨f,s4,s5,s6,s7,s8,rfl,⟨C,E,G,H,I⟩,u⟩;have y:i<fs.length:=by omega
   have J:ws[i]?=some ws[i]:=by simp[A]
   have B:fs[i]?=some fs[i]:=by simp[y]
   rw[drop_eq_getElem_cons A,drop_eq_getElem_cons y,Cp]at u;generalize ws[i]=v at*;generalize fs[i]=g at*;simp[C];apply ak;simp[dm J,Wy.d,E,G,H,I];refine fB (λρ=>ρ=[.val false (aL m ws),.val false (.lst (fs.map D.int)),.val false (.int p),.val false (.int (f+if v.s=p then g else 0)),.val false (.int i),.val false (.int v.s),.val false (.int v.t),.val false (.int v.r),.val false (.int v.h)]) ?_ ?_
   . by_cases e:v.s=p;.simp[e];symm;simp[dm B]
     .simp[e]
   rintro _ rfl;symm;by_cases e:v.t=p;.simp[e];symm;simp[dm B];exact⟨_,_,_,_,_,_,rfl,⟨rfl,rfl,rfl,rfl,rfl⟩,by rw[if_pos e]at u;omega⟩
   .simp[e];exact⟨_,_,_,_,_,_,rfl,⟨rfl,rfl,rfl,rfl,rfl⟩,by rw[if_neg e]at u;omega⟩
 . rintro _⟨f,s4,s5,s6,s7,s8,rfl,_,u⟩;symm;simp;rw[List.drop_eq_nil_of_le (cQ)]at u;have:f=over p ws fs:=by rw[<-u];simp[over,jB,jf]
   rw[this];exact k
inductive JR(m:Int)(ws:List Wy)(S:List Int)(r:List D)(ρ:List Sl):Prop where|mk(us:List Wy)(f:Int)(s3 s4 s5 s6:Sl)(q0:ρ=[.val false (aL m ws),.val false (.tup (S.map D.int)),.val false (.int f),s3,s4,s5,s6])(q1:A4 (fr s3=true) (fr s4=true) (fr s5=true) (fr s6=true))(q2:r=us.map Wy.d)(q3:f+gJ S us=gJ S ws)
theorem Dq{S:List Int}(h:fu m ws)(k:Q (.val (.int (gJ S ws))) [.val false (aL m ws),.val false (.tup (S.map D.int))]):(run Γ w (n+1) 22 [.val false (aL m ws),.val false (.tup (S.map D.int))]).sat Q:=by
 have G:=h.len;refine aN (d:=Yv) rfl rfl (by decide) ?_;symm;simp[Yv];apply ak;simp;refine cM (JR m ws S) ?_ ?_ ⟨ws,0,.aP,.aP,.aP,.aP,rfl,⟨rfl,rfl,rfl,rfl⟩,rfl,by omega⟩;.rintro d r _⟨e,f,s3,s4,s5,s6,rfl,⟨A,B,C,E⟩,hr,i⟩;cases e with|nil=>cases hr|cons v e=>
     obtain⟨rfl,rfl⟩:d=v.d/\r=e.map Wy.d:=by simpa using hr
     simp[A,B,C,E,Wy.d];rw[gJ]at i;symm;by_cases u:v.s∈S
     . by_cases y:v.t∈S;.rw[if_neg (λh=>h.2 y)]at i;simp[yq,nj,u,y];exact⟨e,f,_,_,_,_,rfl,⟨rfl,rfl,rfl,rfl⟩,rfl,by omega⟩
       .rw[if_pos ⟨u,y⟩]at i;simp[yq,nj,u,y];apply ak;simp;exact⟨e,f+v.r,_,_,_,_,rfl,⟨rfl,rfl,rfl,rfl⟩,rfl,by omega⟩
     .rw[if_neg (λh=>u h.1)]at i;simp[yq,nj,u];exact⟨e,f,_,_,_,_,rfl,⟨rfl,rfl,rfl,rfl⟩,rfl,by omega⟩
 . rintro _⟨e,f,s3,s4,s5,s6,rfl,_,hr,i⟩;have:e=[]:=by cases e with|nil=>rfl|cons _ _=>cases hr
   subst this;symm;simp;rw[show f=gJ S ws by rw[<-i];show f=f+0;omega];exact k
theorem m7{i:Int}(k:Q (.val (.bl true)) [.val false (.int i)]):(run Γ w (n+1) 21 [.val false (.int i)]).sat Q:=by refine aN (d:=Zr) rfl rfl (by decide) ?_;symm;simp[Zr];exact k
inductive F24(a b:Sl)(_:Nat)(ρ:List Sl):Prop where|mk(s2 s3:Sl)(q0:ρ=[a,b,s2,s3])(q1:fr s2=true)(q2:fr s3=true)
theorem HF{fs:List Int}(h:fu m ws)(hr:lr m ws fs)(k:Q (.val (.bl true)) [.val false (aL m ws),.val false (.lst (fs.map D.int))]):(run Γ w (n+2) 20 [.val false (aL m ws),.val false (.lst (fs.map D.int))]).sat Q:=by
 have H:=h.len;have m0:=h.m0;have m1:=h.m1;obtain⟨u,E,hz,G⟩:=hr;refine aN (d:=ZZ) rfl rfl (by decide) ?_;symm;simp[ZZ,u];apply ak;simp[u,show(ws.length:Int)<=1000000000 by omega];refine gQ (F24 _ _) ?_ ?_ ⟨.aP,.aP,rfl,rfl,rfl⟩
 . rintro i _ A⟨s2,s3,rfl,e,t⟩;have y:i<fs.length:=by omega
   have B:ws[i]?=some ws[i]:=by simp[A]
   have C:fs[i]?=some fs[i]:=by simp[y]
   have I:=E i _ _ B C;generalize ws[i]=v at*;generalize fs[i]=g at*;simp[e];apply ak;simp[dm B,dm C,Wy.d,show ¬ g<0 by omega,show ¬ v.r<g by omega];exact⟨_,_,rfl,rfl,t⟩
 . rintro _⟨s2,s3,rfl,e,t⟩;symm;simp[show m-1<=1000000000 by omega,show-1000000000<=m-1 by omega];refine gQ (F24 _ _) ?_ ?_ ⟨s2,s3,rfl,e,t⟩;.rintro i _ A⟨s2,s3,rfl,e,t⟩;simp[t];apply ak;simp;refine pI h u ?_;simp[G (1+i) (by omega) (by omega)];exact⟨_,_,rfl,e,rfl⟩
   .rintro _⟨s2,s3,rfl,e,t⟩;symm;simp;refine pI h u ?_;simp[hz];exact k
theorem Iw:∀(ns ks:List Int),(ks++ns).Nodup->ns.foldl HH.Ei ks=ks++ns
 |[],ks,_=>by simp|n::ns,ks,h=>by
   have i:n∉ks:=λz=>by rw[nodup_append]at h;exact h.2.2 n z n (by simp) rfl
   have e:HH.Ei ks n=ks++[n]:=by unfold HH.Ei;rw[if_neg (by simpa using i)]
   rw[foldl_cons,e,Iw ns (ks++[n]) (by simpa using h)];simp
theorem Mr(S:List Int):(S.map D.int).map cU=S:=by rw[map_map];exact(map_congr_left λ_ _=>rfl).trans (map_id _)
theorem LC{S:List Int}(t:S.length<=60)(hs:S.Pairwise (·<·)):blt .sset [.tup (S.map D.int)]=some (.own (S.map D.int)):=by
 show(if _ then _ else _)=_;rw[if_pos ⟨by rw[length_map];omega,by rw[all_eq_true];intro x r;obtain⟨i,_,rfl⟩:=mem_map.mp r;rfl⟩,Mr];have nd:S.Nodup:=hs.imp λ{a b}h=>by omega
 have e:dW S=S:=by have:=Iw S [] (by simpa using nd);simpa[dW]using this
 rw[e];congr 2;refine(qI ?_ (.refl _) ?_).symm;.have h:=(show S.length<=16777216 by omega);simp[sortable,h,cR]
 .rw[pairwise_map];exact hs.imp λ{a b}h=>Bf.mpr (by omega)
theorem BL{e:Type}{l:List e}:(l.map λ_=>D.bl true).mapM zy=some (l.map λ_=>true):=by induction l with|nil=>rfl|cons a l h=>simp[h]
theorem all_true{e:Type}{l:List e}:(l.map λ_=>true).all id=true:=by simp
theorem J0{e:Type}{a:e}{r:List e}:at' (a::r) (-1)=some ((a::r).getLast (by simp)):=by unfold at' iT;rw[if_neg (by omega),if_pos (by simp only[length_cons];omega)];show(a::r)[(-1+((a::r).length:Int)).toNat]?=_;rw[show(-1+((a::r).length:Int)).toNat=(a::r).length-1 by simp only[length_cons];omega,<-List.getLast?_eq_getElem?,List.getLast?_eq_some_getLast (by simp)]
inductive Xd(a b:Sl)(ρ:List Sl):Prop where|mk(s:Sl)(q0:ρ=[a,b,s])(q1:fr s=true)
theorem Fg{q:Int}{fs S:List Int}(h:fu m ws)(r:Bo m ws q fs S)(k:Q (.val (.bl true)) [.val false (aL m ws),.val false (.tup (S.map D.int))]):(run Γ w (n+2) 23 [.val false (aL m ws),.val false (.tup (S.map D.int))]).sat Q:=by
 have C:=r.len;refine aN (d:=YH) rfl rfl (by decide) ?_;symm;simp[YH,show S.length<=16777216 by omega];refine dz (Xd _ _) (λ_=>.bl true) ⟨.aP,rfl,rfl⟩ ?_ ?_;.rintro d hd _⟨s,rfl,hs⟩;obtain⟨i,G,rfl⟩:=mem_map.mp hd;simp[hs];refine m7 ?_;simp;exact⟨_,rfl,rfl⟩
 rintro _⟨s,rfl,hs⟩;have u:=BL (l:=S.map D.int);have y:=all_true (l:=S.map D.int);generalize((S.map D.int).map λ_=>D.bl true)=X at*;generalize((S.map D.int).map λ_=>true)=Y at*;simp[u,y];clear u y;have A:=LC (by omega) r.rise;have B:=r.sd.1;obtain⟨T,rfl⟩:∃T,S=0::T:=by cases S with|nil=>cases B|cons a T=>
    refine⟨T,?_⟩;have:=(List.pairwise_cons.mp r.rise).1;rcases mem_cons.mp B with e|e;.rw[<-e]
    .have h1:=this 0 e;have E:=(r.M4 a (by simp)).1;omega
 have hz:at' (D.int 0::T.map D.int) (-1)=some (.int ((0::T).getLast (by simp))):=by rw[J0];congr 1;exact List.getLast_map (f:=D.int) (l:=0::T) (by simp)
 have t:(0::T).getLast (by simp)<m-1:=by have h1:=List.getLast_mem (l:=0::T) (by simp);have E:=r.M4 _ h1;have H:(0::T).getLast (by simp)≠m-1:=λe=>r.sd.2 (e▸h1);omega
 generalize(0::T).getLast (by simp)=g at*;have ne:cm .ne (.lst ((0::T).map D.int)) (.lst ((0::T).map D.int))=some false:=by rw[J4];simp
 simp at A ne;apply ak;simp[A,ne,show T.length+1<=16777216 by simp at C;omega];have sl:M9 (.tup (.int 0::T.map D.int)) (part (.con .non) .non) (part (.con (.int 1)) (.int 1))=some (.val (.tup [.int 0])):=by show some (R.val (.tup (((.int 0::T.map D.int).drop 0).take (min 1 (T.map D.int).length.succ-0))))=_;rw[show min 1 (T.map D.int).length.succ-0=1 by omega];rfl
 rw[sl];simp[show cm .ne (.tup [.int 0]) (.tup [.int 0])=some false from rfl];apply ak;simp[hz,t];simpa using k
theorem Dd{q:Int}{fs S:List Int}(h:fu m ws)(e:Bo m ws q fs S)(k:Q (.val (.bl true)) [.val false (aL m ws),.val false (jX q fs S)]):(run Γ w (n+5) 24 [.val false (aL m ws),.val false (jX q fs S)]).sat Q:=by
 have y:=e.len;have u:=e.right.1;have A:=h.len;refine aN (d:=ZX) rfl rfl (by decide) ?_;symm;simp[ZX,jX];refine m7 ?_;simp;apply ak;simp;apply ak;simp[show fs.length<=16777216 by omega];refine dz (Xd _ _) (λ_=>.bl true) ⟨.aP,rfl,rfl⟩ ?_ ?_;.rintro d hd _⟨s,rfl,hs⟩;obtain⟨i,B,rfl⟩:=mem_map.mp hd;simp[hs];refine m7 ?_;simp;exact⟨_,rfl,rfl⟩
 rintro _⟨s,rfl,hs⟩;have r:=BL (l:=fs.map D.int);have t:=all_true (l:=fs.map D.int);generalize((fs.map D.int).map λ_=>D.bl true)=X at*;generalize((fs.map D.int).map λ_=>true)=Y at*;simp[r,t];clear r t;refine HF h e.right ?_;simp;apply ak;simp;refine Fg h e ?_;simp;apply ak;simp;refine pI h u ?_;simp[e.rt];refine Dq h ?_;simp[e.cut];exact k
@[simp]theorem Sd{c:Call}{n x y f g a:Nat}{ρ:List Sl}:ex c n (.Vi x y f g a) ρ=tY c x y f g a ρ:=(rfl)
theorem Px{q:Int}{fs S:List Int}(h1:fs.length<=60)(r:S.length<=60):cm .ne (jX q fs S) (jX q fs S)=some false:=by
 have h:∀l:List Int,(l.map D.int).all (gO 6)=true:=λl=>by rw[all_eq_true];intro d hd;obtain⟨i,_,rfl⟩:=mem_map.mp hd;rfl
 have hd:gO 8 (jX q fs S)=true:=by show(gO 7 (.int q)&&((fs.map D.int).all (gO 6)&&((S.map D.int).all (gO 6)&&true)))=true;rw[h,h];rfl
 show(if _ then _ else _)=_;rw[if_pos (by first|exact⟨hd,hd⟩|simp[hd])];have e:jq (jX q fs S) (jX q fs S)=((q==q)&&(iW (fs.map D.int) (fs.map D.int)&&(iW (S.map D.int) (S.map D.int)&&true))):=rfl;rw[e,jo,jo];simp
theorem Qd{c:Call}{x y f g a:Nat}{b:Bool}{d:D}{q:Int}{fs S:List Int}{ρ ρ1 ρ2 e h:List Sl}(t:ρ[a]?=some (.val b d))(u:HR 3 d=true)(A:a≠x)(B:put ρ x .aP=some ρ1)(C:c f [.val false d]=.ok (.val (jX q fs S)) e)(E:c g [.val false d,.val false (jX q fs S)]=.ok (.val (.bl true)) h)(G:fs.length<1000)(r:put ρ1 y (.val false (jX q fs S))=some ρ2):tY c x y f g a ρ=.ok .next ρ2:=by
 have H:(fs.map D.int).all cR=true:=by rw[all_eq_true];intro d hd;obtain⟨i,_,rfl⟩:=mem_map.mp hd;rfl
 have I:(S.map D.int).all cR=true:=by rw[all_eq_true];intro d hd;obtain⟨i,_,rfl⟩:=mem_map.mp hd;rfl
 have J:(fs.map D.int).length<1000:=by simpa using G
 unfold jX at*;unfold tY;rw[t];simp only[if_pos (show HR 3 d=true/\a≠x from⟨u,A⟩),B,lift,Res.bind,C];rw[if_pos ⟨H,I,J⟩,E];simp only[r]
inductive J24(v:Sl)(r:List D)(ρ:List Sl):Prop where|mk(s1:Sl)(s2:Sl)(s3:Sl)(s4:Sl)(s5:Sl)(q0:ρ=[v,s1,s2,s3,s4,s5])(q1:A5 (fr s1=true) (fr s2=true) (fr s3=true) (fr s4=true) (fr s5=true))(q2:∀d∈r,∃i,d=D.int i)
theorem Ln(ns:List Int)(M:ns.length<=63):∃as,run Γ 100000000 40 25 [.val false (.lst (ns.map D.int))]=.ok (.val (.bl true)) as:=by
 suffices h:(run Γ 100000000 40 25 [.val false (.lst (ns.map D.int))]).sat λr _=>r=.val (.bl true)by obtain⟨a,ρ,e,rfl⟩:=sat_iff.mp h;exact⟨ρ,e⟩
 refine aN (d:=Y4) rfl rfl (by decide) ?_;symm;have C:1+ns.length<=lim:=by show _<=16777216;omega
 simp[Y4,C];refine cM (J24 (.val false (.lst (ns.map D.int)))) ?_ ?_ ?_
 . rintro d r _⟨s1,s2,s3,s4,s5,rfl,⟨h1,E,G,H,I⟩,hd⟩;obtain⟨x,rfl⟩:=hd d (by simp);simp[h1];apply ak;simp;refine Ii λa b c=>?_;simp[E];apply ak;simp;refine Mg λm ws a c u=>?_;have J:=u.len;simp[G];obtain⟨r1,ρ1,B,q,fs,S,rfl,rfl,t⟩:=sat_iff.mp (wg (w:=100000000) (n:=34) (Q:=λr ρ=>∃q fs S,r=.val (jX q fs S)/\ρ=[.val false (aL m ws)]/\Bo m ws q fs S) (by decide) u λq fs S t=>⟨q,fs,S,rfl,rfl,t⟩);obtain⟨O,ρ2,L,rfl,rfl⟩:=sat_iff.mp (Dd (w:=100000000) (n:=34) (Q:=λr ρ=>r=.val (.bl true)/\ρ=[.val false (aL m ws),.val false (jX q fs S)]) u t ⟨rfl,rfl⟩);have y:HR 3 (aL m ws)=true:=by simp[aL,HR,Wy.d]
   apply ak;have A:=Px (q:=q) (fs:=fs) (S:=S) (by have:=t.right.1;omega) (by have:=t.len;omega);rw[Sd,Qd (b:=false) (d:=aL m ws) (ρ1:=[.val false (.lst (ns.map D.int)),.val false (.int x),.own false [.int a,.int b,.int c],.val false (aL m ws),.aP,s5]) (ρ2:=[.val false (.lst (ns.map D.int)),.val false (.int x),.own false [.int a,.int b,.int c],.val false (aL m ws),.aP,.val false (jX q fs S)]) rfl y (by decide) (by simp[H]) B L (by have:=t.right.1;omega) (by simp[I])];simp;apply ak;simp[show(run Γ 100000000 39 13 [Sl.val false (aL m ws)])=_ from B,A];exact⟨_,_,_,_,_,rfl,⟨rfl,rfl,rfl,rfl,rfl⟩,λd h=>hd d (mem_cons_of_mem _ h)⟩
 .rintro _⟨s1,s2,s3,s4,s5,rfl,_⟩;symm;simp
 . refine⟨_,_,_,_,_,rfl,⟨rfl,rfl,rfl,rfl,rfl⟩,λd hd=>?_⟩;simp at hd;rcases hd with rfl|⟨i,_,rfl⟩;.exact⟨_,rfl⟩
   .exact⟨_,rfl⟩
end T
end
structure PySem.W.Fast:Prop where(tw3219753187310328433 tw4157424030176003674 tw5071949977326964831 tw17917551055662969926 tw13599443500863106531 tw11324299869789356992 tw9982341587551954274 tw12858677022409001558 tw12384336960941438569 tw10324760792546335597 tw18368056757649018594 tw14503616262270351872 tw17757178068790640268 tw15762566572912840788 tw14168793395023948978 tw10324944442626871405 tw902057069034698072 tw9838567742872485558 tw16581724524900206551 tw12239866245278792516 tw7492929618854164890 tw11724260427767252858 tw11002664559547400616 tw7120797252114470275 tw17234542311554940729 tw4764818572330569161 tw6441261745267391115 tw3173255983449759809 tw12997671350509154176 tw13464508170055696990 tw11919665497389875379 tw8268994921738923705 tw3398530601425225142 tw14550270951628785020 tw15225185421477443440 tw131765837543951416 tw18169130962459945429 tw17521492857165017773 tw17943871391607796455 tw17065601588811264825 tw16542802766005462062 tw11649110962456790771 tw7989449224914046337 tw17194704933154768289 tw420436228261792727 tw4752326500170873919 tw5235241189224579647 tw470017900984061844 tw10024714715436454480 tw10190839989827193355 tw8310518673797230436 tw5796899668728266597 tw2707491479775069193 tw8139936606700048268 tw11852670856440878047 tw13376178832010866235 tw8065192847411835727 tw5869257535549379773 tw2520533088417525634 tw13659291757097589431 tw16575749611774372603 tw8915063346009104748 tw9972943257579410601 tw1508806838539489234 tw730846802324305338 tw280373439241770133 tw2487359794393657796 tw4778973471483179021 tw11301562343985062958 tw11004100140509707352 tw9984778070533930703 tw2220832430041908403 tw17781323299774162848 tw12859866789220725492 tw2167508113770895282 tw14745286709075570180 tw11243120570717302416 tw2996856017687760329 tw17842637356656081545 tw7327811309525245327 tw17966934007961145840 tw17929314682023319335 tw3487047552707254036 tw9234625574365227202 tw5338552794692448632 tw8153891900379072805 tw3458423875277808120 tw13222867537787750988 tw15036787999252727244 tw413382802937832051 tw11425839391823364348 tw6445812531076577828 tw16010813548887040167 tw10204315948607459642 tw16151323987878815704 tw6456628441594649116 tw3460382238428714615 tw7630044570235660968 tw10213560935258231901 tw16728273363289498875 tw13021564319454664897 tw5846864515364245346 tw7107514549440517965 tw14885904134074397351 tw3403348181225806705 tw1833681082623374438 tw15541031179130960999 tw9270945890212646373 tw14793167905533658562 tw11968574056374838242 tw1812113642845903963 tw13054951202331782032 tw6774437345199898033 tw17280464959041436400 tw16158060755495248151 tw3674046578227443660 tw17539810544355626423 tw5210606566807946980 tw5473098103367390612 tw12712437012375353500 tw9509816165378323919 tw1956945475209837676 tw14590169885658224542 tw947439308922792569 tw17286947711052545065 tw753644905392479251 tw17921616742976405147 tw668840467178759527 tw91558500289052993 tw15232203910549384333 tw17614141925118094586 tw7160063236401868385 tw8680767094341562943 tw6114515176354321052 tw11861051953570735655 tw1494345665775440926 tw13530536461285061993 tw17750429931587128890 tw3536146355328763587 tw14108222588525494506 tw8903012695795457533 tw14417835722238377283 tw11781769872337904016 tw14910448805586321929 tw7881208387144799305 tw11787726480657170643 tw13419821552562603660 tw2287356613607967522 tw9185449618962975061 tw14113633153206866276 tw15350286548145805745 tw9667401172025276781 tw14006366852863592992 tw10309142010399673879 tw8088087869903473326 tw923517866162976769 tw13254979761328013049 tw2016857098172729500 tw13534918953090047250 tw6249468560839477188:True)
namespace T
open PySem L2 PySem.Spec PyProof.Rows HH
theorem Wq{P:List Value → Prop}{n:Nat}(h:∀(a:Value)(b:List Value),b.length=n → P (a::b))(b:List Value)(c:b.length=n+1):P b:=by cases b with|nil=>cases c|cons a b=>exact h a b (Nat.succ.inj c)
theorem lk0{P:List Value → Prop}(h:P [])(b:List Value)(c:b.length=0):P b:=by cases b with|nil=>exact h|cons a b=>cases c
theorem DK{P:List Value → Prop}(h:∀a,P [a]):∀b:List Value,b.length=1 → P b:=Wq λa=>lk0 (h a)
theorem oh{P:List Value → Prop}(h:∀a b,P [a,b]):∀c:List Value,c.length=2 → P c:=Wq λa=>DK (h a)
theorem yR{P:List Value → Prop}(h:∀a b c,P [a,b,c]):∀e:List Value,e.length=3 → P e:=Wq λa=>oh (h a)
theorem lk4{P:List Value → Prop}(h:∀a b c d,P [a,b,c,d]):∀e:List Value,e.length=4 → P e:=Wq λa=>yR (h a)
theorem lk5{P:List Value → Prop}(h:∀a b c d e,P [a,b,c,d,e]):∀f:List Value,f.length=5 → P f:=Wq λa=>lk4 (h a)
local macro_rules|`(term|‹$p›)=>`(λ_ _ _ _ _ _=>$p)
structure Txt(K:PySem.W.Frag):Prop where
 D0:bR K "step_places" s0
 D1:bR K "step_hours" s1
 D2:bR K "step_room" s2
 D3:bR K "open_steps" s3
 D4:bR K "shortest_come" s4
 D5:bR K "steps_to" s5
 D6:bR K "stream_with" s6
 D7:bR K "chains_to_end" s7
 D8:bR K "ways_out" s8
 D9:bR K "ways_in" s9
 D10:bR K "stays_at" qX
 D11:bR K "stream_rate" Yu
 D12:bR K "hourless_net" s12
 D13:bR K "fullest_stream" s13
 D14:bR K "_law_pool" s14
 D15:bR K "_law_next" s15
 D16:bR K "_law_wide" s16
 D17:bR K "_law_way" s17
 D18:bR K "_law_net" s18
 D19:bR K "_law_over" s19
 D20:bR K "_law_is_stream" s20
 D21:bR K "_law_whole" s21
 D22:bR K "_law_side_room" s22
 D23:bR K "_law_is_side" s23
 D24:bR K "_law_shown" s24
 D25:bR K "law" s25
 tL:PySem.W.nsIn K mainGlobals "all"=some none
 zM:PySem.W.nsIn K mainGlobals "bool"=some none
 dC:PySem.W.nsIn K mainGlobals "enumerate"=some none
 Jp:PySem.W.nsIn K mainGlobals "int"=some none
 bf:PySem.W.nsIn K mainGlobals "isinstance"=some none
 cO:PySem.W.nsIn K mainGlobals "len"=some none
 cP:PySem.W.nsIn K mainGlobals "list"=some none
 Jo:PySem.W.nsIn K mainGlobals "max"=some none
 Jm:PySem.W.nsIn K mainGlobals "min"=some none
 bU:PySem.W.nsIn K mainGlobals "range"=some none
 lG:PySem.W.nsIn K mainGlobals "reversed"=some none
 Jq:PySem.W.nsIn K mainGlobals "set"=some none
 il:PySem.W.nsIn K mainGlobals "sorted"=some none
 Ca:PySem.W.nsIn K mainGlobals "sum"=some none
 bO:PySem.W.nsIn K mainGlobals "tuple"=some none
 NL:Nu K
noncomputable def mH{K:PySem.W.Frag}(T:Txt K):Nat->Addr:=λk=>0
structure Oks(Pg:Program)(w:World)(K:PySem.W.Frag)(mg:Str->Option Value)(base:Heap)(cl:Nat->Addr)(n:Nat):Prop where
 c0:aV Pg w K mg base n (run Γ 100000000 n) 0 "step_places" 2
 c1:aV Pg w K mg base n (run Γ 100000000 n) 1 "step_hours" 2
 c2:aV Pg w K mg base n (run Γ 100000000 n) 2 "step_room" 3
 c3:aV Pg w K mg base n (run Γ 100000000 n) 3 "open_steps" 2
 c4:aV Pg w K mg base n (run Γ 100000000 n) 4 "shortest_come" 3
 c5:aV Pg w K mg base n (run Γ 100000000 n) 5 "steps_to" 3
 c6:aV Pg w K mg base n (run Γ 100000000 n) 6 "stream_with" 3
 c7:aV Pg w K mg base n (run Γ 100000000 n) 7 "chains_to_end" 1
 c8:aV Pg w K mg base n (run Γ 100000000 n) 8 "ways_out" 2
 c9:aV Pg w K mg base n (run Γ 100000000 n) 9 "ways_in" 2
 c10:aV Pg w K mg base n (run Γ 100000000 n) 10 "stays_at" 3
 c11:aV Pg w K mg base n (run Γ 100000000 n) 11 "stream_rate" 2
 c12:aV Pg w K mg base n (run Γ 100000000 n) 12 "hourless_net" 1
 c13:aV Pg w K mg base n (run Γ 100000000 n) 13 "fullest_stream" 1
 c14:aV Pg w K mg base n (run Γ 100000000 n) 14 "_law_pool" 1
 Yp:aV Pg w K mg base n (run Γ 100000000 n) 15 "_law_next" 2
 c16:aV Pg w K mg base n (run Γ 100000000 n) 16 "_law_wide" 2
 c17:aV Pg w K mg base n (run Γ 100000000 n) 17 "_law_way" 4
 c18:aV Pg w K mg base n (run Γ 100000000 n) 18 "_law_net" 3
 c19:aV Pg w K mg base n (run Γ 100000000 n) 19 "_law_over" 3
 c20:aV Pg w K mg base n (run Γ 100000000 n) 20 "_law_is_stream" 2
 c21:aV Pg w K mg base n (run Γ 100000000 n) 21 "_law_whole" 1
 c22:aV Pg w K mg base n (run Γ 100000000 n) 22 "_law_side_room" 2
 c23:aV Pg w K mg base n (run Γ 100000000 n) 23 "_law_is_side" 2
 c24:aV Pg w K mg base n (run Γ 100000000 n) 24 "_law_shown" 2
 c25:aV Pg w K mg base n (run Γ 100000000 n) 25 "law" 1
set_option maxHeartbeats 0 in
theorem Hd{Pg:Program}{w:World}{K:PySem.W.Frag}{mg:Str->Option Value}{base:Heap}(T:Txt K)(X:K.In base)(G:base.Ns mainGlobals mg):∀n,Oks Pg w K mg base (mH T) n
 |0=>{
   c0:=cB (ps:=["net","step"]) X G T.D0 rfl ‹oh λ_ _=>rfl›
   c1:=cB (ps:=["net","step"]) X G T.D1 rfl ‹oh λ_ _=>rfl›
   c2:=cB (ps:=["net","stream","step"]) X G T.D2 rfl ‹yR λ_ _ _=>rfl›
   c3:=cB (ps:=["net","stream"]) X G T.D3 rfl ‹oh λ_ _=>rfl›
   c4:=cB (ps:=["net","stream","begun"]) X G T.D4 rfl ‹yR λ_ _ _=>rfl›
   c5:=cB (ps:=["net","come","place"]) X G T.D5 rfl ‹yR λ_ _ _=>rfl›
   c6:=cB (ps:=["stream","steps","loads"]) X G T.D6 rfl ‹yR λ_ _ _=>rfl›
   c7:=cB (ps:=["net"]) X G T.D7 rfl ‹DK λ_=>rfl›
   c8:=cB (ps:=["net","place"]) X G T.D8 rfl ‹oh λ_ _=>rfl›
   c9:=cB (ps:=["net","place"]) X G T.D9 rfl ‹oh λ_ _=>rfl›
   c10:=cB (ps:=["net","stream","place"]) X G T.D10 rfl ‹yR λ_ _ _=>rfl›
   c11:=cB (ps:=["net","stream"]) X G T.D11 rfl ‹oh λ_ _=>rfl›
   c12:=cB (ps:=["net"]) X G T.D12 rfl ‹DK λ_=>rfl›
   c13:=cB (ps:=["net"]) X G T.D13 rfl ‹DK λ_=>rfl›
   c14:=cB (ps:=["cell"]) X G T.D14 rfl ‹DK λ_=>rfl›
   Yp:=cB (ps:=["pool","base"]) X G T.D15 rfl ‹oh λ_ _=>rfl›
   c16:=cB (ps:=["pool","base"]) X G T.D16 rfl ‹oh λ_ _=>rfl›
   c17:=cB (ps:=["pool","many","most","longest"]) X G T.D17 rfl ‹lk4 λ_ _ _ _=>rfl›
   c18:=cB (ps:=["pool","places","count"]) X G T.D18 rfl ‹yR λ_ _ _=>rfl›
   c19:=cB (ps:=["net","stream","place"]) X G T.D19 rfl ‹yR λ_ _ _=>rfl›
   c20:=cB (ps:=["net","stream"]) X G T.D20 rfl ‹oh λ_ _=>rfl›
   c21:=cB (ps:=["thing"]) X G T.D21 rfl ‹DK λ_=>rfl›
   c22:=cB (ps:=["net","side"]) X G T.D22 rfl ‹oh λ_ _=>rfl›
   c23:=cB (ps:=["net","side"]) X G T.D23 rfl ‹oh λ_ _=>rfl›
   c24:=cB (ps:=["net","told"]) X G T.D24 rfl ‹oh λ_ _=>rfl›
   c25:=cB (ps:=["script"]) X G T.D25 rfl ‹DK λ_=>rfl›}|n+1=>have a:=Hd (Pg:=Pg) (w:=w) (base:=base) T X G n
   {c0:=cC (ps:=["net","step"]) X G T.D0 rfl rfl ‹oh λ_ _=>rfl› λ_ _ F=>d0 (cl:=mH T) F
    c1:=cC (ps:=["net","step"]) X G T.D1 rfl rfl ‹oh λ_ _=>rfl› λ_ _ F=>d1 (cl:=mH T) F
    c2:=cC (ps:=["net","stream","step"]) X G T.D2 rfl rfl ‹yR λ_ _ _=>rfl› λ_ _ F=>d2 (cl:=mH T) F
    c3:=cC (ps:=["net","stream"]) X G T.D3 rfl rfl ‹oh λ_ _=>rfl› λ_ _ F=>d3 (cl:=mH T) F (mg_none_of X G T.cO) (mg_none_of X G T.bU) a.c0 a.c2
    c4:=cC (ps:=["net","stream","begun"]) X G T.D4 rfl rfl ‹yR λ_ _ _=>rfl› λ_ _ F=>d4 (cl:=mH T) F (mg_none_of X G T.cO) (mg_none_of X G T.cP) a.c3 a.c1 a.c0
    c5:=cC (ps:=["net","come","place"]) X G T.D5 rfl rfl ‹yR λ_ _ _=>rfl› λ_ _ F=>d5 (cl:=mH T) F (mg_none_of X G T.lG) (mg_none_of X G T.bO) a.c0
    c6:=cC (ps:=["stream","steps","loads"]) X G T.D6 rfl rfl ‹yR λ_ _ _=>rfl› λ_ _ F=>d6 (cl:=mH T) F (mg_none_of X G T.cP)
    c7:=cC (ps:=["net"]) X G T.D7 rfl rfl ‹DK λ_=>rfl› λ_ _ F=>d7 (cl:=mH T) F (mg_none_of X G T.cO) (mg_none_of X G T.Jm) a.c4 a.c2 a.c5 a.c6
    c8:=cC (ps:=["net","place"]) X G T.D8 rfl rfl ‹oh λ_ _=>rfl› λ_ _ F=>d8 (cl:=mH T) F (mg_none_of X G T.dC)
    c9:=cC (ps:=["net","place"]) X G T.D9 rfl rfl ‹oh λ_ _=>rfl› λ_ _ F=>d9 (cl:=mH T) F (mg_none_of X G T.dC)
    c10:=cC (ps:=["net","stream","place"]) X G T.D10 rfl rfl ‹yR λ_ _ _=>rfl› λ_ _ F=>d10 (cl:=mH T) F (mg_none_of X G T.Ca) a.c9 a.c8
    c11:=cC (ps:=["net","stream"]) X G T.D11 rfl rfl ‹oh λ_ _=>rfl› λ_ _ F=>d11 (cl:=mH T) F a.c10
    c12:=cC (ps:=["net"]) X G T.D12 rfl rfl ‹DK λ_=>rfl› λ_ _ F=>d12 (cl:=mH T) F (mg_none_of X G T.bO)
    c13:=cC (ps:=["net"]) X G T.D13 rfl rfl ‹DK λ_=>rfl› λ_ _ F=>d13 (cl:=mH T) F (mg_none_of X G T.cO) (mg_none_of X G T.il) (mg_none_of X G T.bO) a.c7 a.c12 a.c4 a.c11 a.c6
    c14:=cC (ps:=["cell"]) X G T.D14 rfl rfl ‹DK λ_=>rfl› λ_ _ F=>d14 (cl:=mH T) F (mg_none_of X G T.Jo)
    Yp:=cC (ps:=["pool","base"]) X G T.D15 rfl rfl ‹oh λ_ _=>rfl› λ_ _ F=>d15 (cl:=mH T) F
    c16:=cC (ps:=["pool","base"]) X G T.D16 rfl rfl ‹oh λ_ _=>rfl› λ_ _ F=>d16 (cl:=mH T) F (mg_none_of X G T.bU) a.Yp
    c17:=cC (ps:=["pool","many","most","longest"]) X G T.D17 rfl rfl ‹lk4 λ_ _ _ _=>rfl› λ_ _ F=>d17 (cl:=mH T) F a.Yp a.c16
    c18:=cC (ps:=["pool","places","count"]) X G T.D18 rfl rfl ‹yR λ_ _ _=>rfl› λ_ _ F=>d18 (cl:=mH T) F (mg_none_of X G T.bU) (mg_none_of X G T.bO) a.Yp a.c17
    c19:=cC (ps:=["net","stream","place"]) X G T.D19 rfl rfl ‹yR λ_ _ _=>rfl› λ_ _ F=>d19 (cl:=mH T) F (mg_none_of X G T.cO) (mg_none_of X G T.bU)
    c20:=cC (ps:=["net","stream"]) X G T.D20 rfl rfl ‹oh λ_ _=>rfl› λ_ _ F=>d20 (cl:=mH T) F (mg_none_of X G T.cO) (mg_none_of X G T.bU) a.c19
    c21:=cC (ps:=["thing"]) X G T.D21 rfl rfl ‹DK λ_=>rfl› λ_ _ F=>d21 (cl:=mH T) F (mg_none_of X G T.zM) (mg_none_of X G T.Jp) (mg_none_of X G T.bf)
    c22:=cC (ps:=["net","side"]) X G T.D22 rfl rfl ‹oh λ_ _=>rfl› λ_ _ F=>d22 (cl:=mH T) F
    c23:=cC (ps:=["net","side"]) X G T.D23 rfl rfl ‹oh λ_ _=>rfl› λ_ _ F=>d23 (cl:=mH T) F (mg_none_of X G T.tL) (mg_none_of X G T.bf) (mg_none_of X G T.cP) (mg_none_of X G T.Jq) (mg_none_of X G T.il) (mg_none_of X G T.bO) a.c21
    c24:=cC (ps:=["net","told"]) X G T.D24 rfl rfl ‹oh λ_ _=>rfl› λ_ _ F=>d24 (cl:=mH T) F (mg_none_of X G T.tL) (mg_none_of X G T.bf) (mg_none_of X G T.cO) (mg_none_of X G T.cP) (mg_none_of X G T.bO) a.c23 a.c20 a.c19 a.c22 a.c21
    c25:=cC (ps:=["script"]) X G T.D25 rfl rfl ‹DK λ_=>rfl› λ_ _ F=>d25 (cl:=mH T) F (mg_none_of X G T.cP) a.c18 a.c14 a.c24 a.c13 T.NL}
set_option maxHeartbeats 0 in
theorem QD{Pg:Program}{w:World}{K:PySem.W.Frag}{mg:Str->Option Value}{h:Heap}{i:Addr}(T:Txt K)(X:K.In h)(G:h.Ns mainGlobals mg)(g:mg "law"=some (.ref i)):∃fd:FuncData,(∀(s:Shared)(u:Value),BindsTo s fd ⟨[u],[]⟩ [("script",u)])/\∀base:Heap,K.In base->base.Ns mainGlobals mg->m6 Pg w K mg base IK 40 i fd ["script"] (De K 1 (run Γ 100000000 40 25)):=by
 obtain⟨f,fd,a,F⟩:=T.D25.ex;have e:=g.symm.trans (mg_of X G a);cases e;refine⟨fd,λs u=>?_,λbase j l=>?_⟩;.obtain⟨oc,q,kV,m,r,t,cdv,ct,o,rfl,lk,p⟩:=F.ex;exact .of_eq rfl
 .have b:=Hd (Pg:=Pg) (w:=w) (base:=base) T j l 39;exact d25 (cl:=mH T) (k:=39) (n:=100000000) (c:=run Γ 100000000 39) F (mg_none_of X G T.cP) b.c18 b.c14 b.c24 b.c13 T.NL
end T
open PySem PySem.W PyProof.Rows
set_option maxRecDepth 100000 in
set_option maxHeartbeats 0 in
theorem PySem.Challenge.cw_hourhaul_k24_fullest_told_holds : PySem.Challenge.rw_hourhaul_k24_fullest_told.Holds := by
 w_on;o_law;k_head;(case hw=>w_witness2);k_fill;refine L2.Hx (l:=PySem.Challenge.rw_hourhaul_k24_fullest_told) (n:=63) (k:=40) (x:="script") (CX:=L2.IK) (sp:=λK=>HH.De K 1 (HH.run T.Γ 100000000 40 25)) rfl (by decide) rfl ⟨rfl,by decide,by decide⟩ (λw h Y=>PySem.W.kIn_of Y) ?F ?S ?C;case F=>
  intro w mg j h f G b;refine T.QD ?T f G b;constructor;iterate 26(· refine' HH.Qp ?a ?l ?c ?k;case a|l|c|k=>k_is)
  iterate 15(· k_is)
  .show map _ _=[];kernel_rfl
 case S=>intro K H a ns g m i;obtain⟨as,e⟩:=T.Ln ns g;exact HH.Cr i e
 case C=>exact λH s e o z=>z
