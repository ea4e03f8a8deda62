import PyProof.Rows.All
import Wide.All
import OpenK.AllK
import Wide.FinOn
import Lean
import PyProof.EqAt
import PyProof.EqKinds
import PyProof.TupleCall
import PySem.Str
import PySem.Builtin.Int.W1All
import PyProof.NeKinds
import PyProof.ZipIter
import PyProof.SumWalkG
import PyProof.MinMaxWalk
import PyProof.WalksMore
import PyProof.SeqI3
import PyProof.WalkInts
import PyProof.Rows.CallKwBuiltin
import PyProof.Rows.Tup
import PyProof.CollectIter
import PyProof.EnumMake
import PyProof.TupleOfSeq
import PyProof.ListNew
import PyProof.ReprLoop
import PyProof.StationsW
import PyProof.ExcClass3
import PyProof.Rows.CatchBare
import OpenK.KOwn
import KE.KIsAll
import PyProof.NsDelKeeps
import PyProof.RulesAs
import PyProof.ExcArgsOwn
import PyProof.ListRange
import KE.RegKIsAll
import KE.KRevIter
import PyProof.Rows.SortRuns
import KE.KSortTup
import PyProof.DictWalks
import KE.KDictList
import KE.KItemsList
import PyProof.ExcBaseAll.ValueError
import PySem.Challenge.RW_hourhaul_k30_bends_and_sides
set_option Elab.async false
set_option linter.all false
set_option maxRecDepth 100000
set_option genSizeOf false
set_option compiler.extract_closed false
set_option bootstrap.genMatcherCode false
open List(replicate getElem?_set_ne mem_map getElem?_set_self mem_cons map_cons size_toArray map_map mem_singleton mem_append length_map length_cons mem_cons_of_mem nodup_cons mem_of_getElem? length_append all_eq_true getElem?_append_left mem_append_right append_nil getElem?_map lookup_cons find?_cons append_assoc any_cons mem_append_left map_append filterMap_cons mem_cons_self all_cons replicate_succ map_nil map_congr_left foldl pairwise_cons getElem?_append_right drop_eq_getElem_cons getElem_mem getElem?_eq_getElem cons_append contains_iff_mem length_take getElem?_replicate length_range drop_eq_nil_iff toArray nodup_append sum_cons reverse_cons flatten_cons ext_getElem getElem?_set map any_eq_true of_mem_zip length_set nil_append length_nil map_set)
open PySem.W(mg_none_of kitOne mg_of mroIn keepIn findIn kitAny clsIn methodObj excIn KitX kitx_dict kia_one specialIn takesIn findObj handed_on)
open PySem.Heap(lt_size get?_push_of_some get?_push_size get?_update_other size_push get?_none_of_le get?_update_self SameBut)
open Nat(le_refl ne_of_lt lt_of_lt_of_le zero_le le_trans lt_irrefl le_of_lt zero_add)
open PySem.Builtin.Tuple(tupleExact tupleItemsOf)
open Bool(and_eq_true false_eq_true or_eq_true not_eq_true')
open Option(map_eq_some_iff bind_some bind_eq_some_iff isSome_map getD_none)
open PySem.Builtin.Slice(slicePlaces sliceAdjust sliceApplied)
open PySem.Builtin.List(listExtendWith listTooLong listLengthHint listSameRef)
open Array(length_toList toList)
open PySem.SeqAt.EqAt(int_str str_int none_bool none_int none_str bool_none bool_bool bool_int bool_str int_none int_bool int_int str_none str_bool str_str)
open Int(mul_comm sub_zero mul_add mul_zero mul_one mul_neg mul_sub)
open PySem.F(slot_tuple_add entry_tuple_add args_tuple_add_2 slot_tuple_mul slot_dict_get)
open PySem.SeqAt.RcAt(lists_lengths)
open PySem.SeqAt.RcNeAt(int_list str_list list_int list_str)
theorem iK{h:PySem.Heap}{o b:PySem.Obj}{a:PySem.Addr}(e:h.get? a=some o):(h.push b).get? a=some o:=PySem.Heap.get?_push_of_some _ e
theorem fM{b:Type}{l:List b}{i:Nat}{a:b}(h:l[i]?=some a):∃h:i<l.length,l[i]=a:=List.getElem?_eq_some_iff.mp h
theorem fU{b:Type}{l:List b}{i j:Nat}{a:b}(h:j≠i):(l.set i a)[j]?=l[j]?:=List.getElem?_set_ne (Ne.symm h)
theorem uy{n:Nat}:0<=n:=Nat.zero_le n
theorem eY{n:Nat}:n<=n:=Nat.le_refl n
section
namespace L2
open PySem PySem.Spec PyProof.Rows
variable{w:World}{h:Heap}{t' i:Nat}{M:Model}{A:Around}{s:Shared}{pos:Pos}{pins:List (Addr×Obj)}{K:PySem.W.Frag}{tg:Expr}{us:List Value}
noncomputable abbrev Key:=Sum Int Str
noncomputable def pC:Key->Value->Bool|.inl k,v=>Value.isInt k v|.inr x,v=>Value.isStrOf x v
noncomputable def adT(w:World):Key->Int|.inl k=>hashInt k|.inr x=>hashStr w x
theorem bB:∀{k:Key}{v:Value},pC k v=true->(∃i t,k=Sum.inl i/\v=Value.int i t)\/(∃x t,k=Sum.inr x/\v=Value.str x t)|.inl i,v,h=>by obtain⟨t,e⟩:=Value.isInt_shape (k:=i) (v:=v) h;exact .inl ⟨i,t,rfl,e⟩|.inr x,v,h=>by obtain⟨t,e⟩:=Value.isStrOf_shape (x:=x) (v:=v) h;exact .inr ⟨x,t,rfl,e⟩
theorem Eb(i:Int)(t:Tok):pC (.inl i) (.int i t)=true:=by simp[pC,Value.isInt]
theorem Et(x:Str)(t:Tok):pC (.inr x) (.str x t)=true:=by simp[pC,Value.isStrOf]
theorem Rv(a b:Int):decide ((Sum.inl a:Key)=Sum.inl b)=(a==b):=by
 by_cases e:a=b;.subst e;simp
 .have h:¬(Sum.inl a:Key)=Sum.inl b:=λq=>e (Sum.inl.inj q);rw[decide_eq_false h];exact(beq_eq_false_iff_ne.mpr e).symm
theorem U8(a b:Str):decide ((Sum.inr a:Key)=Sum.inr b)=decide (a=b):=by
 by_cases e:a=b;.subst e;simp
 .have h:¬(Sum.inr a:Key)=Sum.inr b:=λq=>e (Sum.inr.inj q);rw[decide_eq_false h,decide_eq_false e]
theorem Tc(a:Int)(b:Str):decide ((Sum.inl a:Key)=Sum.inr b)=false:=decide_eq_false (λq=>nomatch q)
theorem RL(a:Str)(b:Int):decide ((Sum.inr a:Key)=Sum.inl b)=false:=decide_eq_false (λq=>nomatch q)
noncomputable def aW(prog:Program)(w:World):PySem.KeyKind prog w Key where
 is:=pC;hash:=adT w;inj:=λv a b g f=>by
  rcases bB g with⟨i,t,rfl,rfl⟩|⟨x,t,rfl,rfl⟩
  . rcases bB f with⟨j,u,rfl,e⟩|⟨y,u,rfl,e⟩;.injection e with e1 _;rw[e1]
    .exact nomatch e
  . rcases bB f with⟨j,u,rfl,e⟩|⟨y,u,rfl,e⟩;.exact nomatch e
    .injection e with e1 _;rw[e1]
 byValue:=λk v h=>by rcases bB h with⟨i,t,rfl,rfl⟩|⟨x,t,rfl,rfl⟩<;>rfl
 pyHash:=λc h=>by
  rcases bB c with⟨i,t,rfl,rfl⟩|⟨x,t,rfl,rfl⟩;.exact wpAny_pyHash_int h
  .exact wpAny_pyHash_str h
 eqBool:=λl c h=>by
  rcases bB l with⟨i,t,rfl,rfl⟩|⟨x,t,rfl,rfl⟩
  . rcases bB c with⟨j,u,rfl,rfl⟩|⟨y,u,rfl,rfl⟩;.rw[Rv]at h;exact wpAny_eqBool_int h
    .rw[Tc]at h;exact int_str i t y u _ _ _ _ h
  . rcases bB c with⟨j,u,rfl,rfl⟩|⟨y,u,rfl,rfl⟩;.rw[RL]at h;exact str_int x t j u _ _ _ _ h
    .rw[U8]at h;exact wpAny_eqBool_str h
 «strs»:=λk x t v h=>by
  rcases bB h with⟨i,u,rfl,e⟩|⟨y,u,rfl,e⟩;.exact nomatch e
  .injection e with e1 _;subst e1;cases v<;>rfl
theorem yw(prog:Program)(w:World)(i:Int)(t:Tok):(aW prog w).is (.inl i) (.int i t)=true:=Eb i t
theorem yM(prog:Program)(w:World)(x:Str)(t:Tok):(aW prog w).is (.inr x) (.str x t)=true:=Et x t
inductive V where|non|bl(b:Bool)|int(i:Int)|str(x:Str)|byt(b:Array UInt8)|flt(b:UInt64)|ref(a:Addr)|ty(n:String)deriving DecidableEq
def RelV:V->Value->Prop|.non,u=>u=Value.none|.bl b,u=>u=Value.bool b|.int i,u=>∃t,u=Value.int i t|.str x,u=>∃t,u=Value.str x t|.byt b,u=>∃t,u=Value.bytes b t|.flt b,u=>∃t,u=Value.float b t|.ref a,u=>u=Value.ref a|.ty n,u=>u=Value.type n
abbrev Vals:List V->List Value->Prop:=Paired RelV
theorem Vals.length{xs:List V}{us:List Value}(r:Vals xs us):xs.length=us.length:=Paired.length r
theorem Vals.get:∀{xs:List V}{us:List Value}{i:Nat}{x:V},Vals xs us->xs[i]?=some x->∃u,us[i]?=some u/\RelV x u|_,_,_,_,.nil,e=>by simp at e|_,_,0,_,.cons r _,e=>by simp at e;subst e;exact⟨_,rfl,r⟩|_,_,i+1,x,.cons _ t,e=>by obtain⟨u,h1,a⟩:=Vals.get (i:=i) (x:=x) t (by simpa using e);exact⟨u,by simpa using h1,a⟩
theorem Vals.set{x:V}{u:Value}(r:RelV x u):∀{xs:List V}{us:List Value}(i:Nat),Vals xs us->Vals (xs.set i x) (us.set i u)|_,_,_,.nil=>.nil|_,_,0,.cons _ t=>.cons r t|_,_,i+1,.cons q t=>.cons q (Vals.set r i t)
theorem Vals.append:∀{xs ys:List V}{us ws:List Value},Vals xs us->Vals ys ws->Vals (xs++ys) (us++ws)|_,_,_,_,.nil,s=>s|_,_,_,_,.cons r t,s=>.cons r (Vals.append t s)
theorem Vals.take:∀{xs:List V}{us:List Value}(n:Nat),Vals xs us->Vals (xs.take n) (us.take n)|_,_,0,_=>.nil|_,_,_+1,.nil=>.nil|_,_,n+1,.cons r t=>.cons r (Vals.take n t)
theorem Vals.drop:∀{xs:List V}{us:List Value}(n:Nat),Vals xs us->Vals (xs.drop n) (us.drop n)|_,_,0,r=>r|_,_,_+1,.nil=>.nil|_,_,n+1,.cons _ t=>Vals.drop n t
def pU:Option V->Option Value->Prop|some v,some u=>RelV v u|none,none=>True|_,_=>False
def KV{κ:Type}:List (κ×V)->List (κ×Value)->Prop:=Paired λ(p:κ×V)(q:κ×Value)=>p.1=q.1/\RelV p.2 q.2
noncomputable def kV:Key->V|.inl i=>.int i|.inr x=>.str x
inductive HO where|lst(xs:List V)|tup(xs:List V)|dK(kvs:List (Key×V))|dT(kvs:List (List Key×V))|set(S:Int->Bool)(n:Nat)|ins(C dx:Addr)(fs:List (Str×V))|own(x:Addr)|xd(fs:List (Str×V))|met(f x:Addr)|wW(lo hi:Int)|dB(o:Obj)(u:HO)|QR(ps:Array Value)|ext(φ:Heap->Prop)
noncomputable abbrev Hp:=Addr->Option HO
variable{H:Hp}
noncomputable def upd(H:Hp)(a:Addr)(o:HO):Hp:=λb=>if b=a then some o else H b
theorem aL{a:Addr}{o:HO}:upd H a o a=some o:=by unfold upd;rw[if_pos rfl]
theorem aA{a b:Addr}{o:HO}(h:b≠a):upd H a o b=H b:=by unfold upd;rw[if_neg h]
theorem wA{a:Addr}{o u:HO}:upd (upd H a o) a u=upd H a u:=by funext b;unfold upd;split<;>rfl
theorem YQ{a b:Addr}{o u:HO}(h:H a=some o)(h':H b=some u)(d:o≠u):a≠b:=by intro e;subst e;rw[h]at h';exact d (Option.some.inj h')
theorem iw{a b:Addr}{o:HO}(h:H a=some o)(h':H b=none):a≠b:=by intro e;subst e;rw[h]at h';cases h'
section
variable(P:Program)(w:World)
def bw(H:Hp)(h:Heap)(a:Addr):HO->Prop|.lst xs=>xs.length<=sizeLine/\∃(b:List Value)(n:Nat),Vals xs b/\h.get? a=some {cls:=.type "list",data:=.seq b.toArray n}|.tup xs=>xs.length<=sizeLine/\∃b:List Value,Vals xs b/\IsTup h a b.toArray|.dK kvs=>kvs.length<=sizeLine/\(a==sysModules)=false/\∃vs,KV kvs vs/\h.DictOf (aW P w) a vs|.dT kvs=>kvs.length<=sizeLine/\(a==sysModules)=false/\∃xs:List (List Key×Addr×Value),Paired (λ(p:List Key×V)(q:List Key×Addr×Value)=>p.1=q.1/\H q.2.1=some (.tup (p.1.map kV))/\RelV p.2 q.2.2) kvs xs/\∃o es ep,h.get? a=some o/\o.ExactDict/\o.data=.dict es ep/\es.toList=xs.map (entryOfKey (tupleKind (aW P w)))/\(xs.map (·.1)).Nodup|.set S n=>h.SetOf (intKind P w) a S n|.ins C e fs=>H e=some (.own a)/\fs.length<=1000/\e≠a/\h.get? a=some (PySem.W.instObj C e)/\∃c,h.Ns1 e c/\(∀f,pU (fs.lookup f) (c f))/\PySem.Within c (fs.map (·.1))|.own _=>∃o,h.get? a=some o|.xd fs=>∃c,h.Ns1 a c/\∀f,pU (fs.lookup f) (c f)|.wW lo hi=>∃t u v,h.get? a=some {cls:=.type "range",data:=.fields #[.int lo t,.int hi u,.int 1 v]}|.dB o u=>h.get? a=some o/\bw H h a u|.QR ps=>h.get? a=some {cls:=.none,data:=.fields ps}|.met f x=>h.get? a=some (methodObj (.ref f) (.ref x))|.ext g=>g h/\(∃o,h.get? a=some o)/\∀h1 j:Heap,g h1->(∀o,h1.get? a=some o->j.get? a=some o)->g j
def jQ(H:Hp)(h:Heap):Prop:=∀a o,H a=some o->bw P w H h a o
end
section
variable{P:Program}{w:World}{H H':Hp}{h h':Heap}{a:Addr}{o:HO}
theorem bw.lt(x:bw P w H h a o):a<h.objs.size:=by cases o with|lst xs=>obtain⟨_,_,_,_,e⟩:=x;exact lt_size e|tup xs=>obtain⟨_,_,_,p⟩:=x;exact p.lt|dK kvs=>obtain⟨_,_,_,_,o,_,_,e,_⟩:=x;exact lt_size e|dT kvs=>obtain⟨_,_,_,_,o,_,_,e,_⟩:=x;exact lt_size e|set S n=>obtain⟨o,_,_,_,e,_⟩:=x;exact lt_size e|ins C b fs=>obtain⟨_,_,_,e,_⟩:=x;exact lt_size e|own y=>obtain⟨_,e⟩:=x;exact lt_size e|xd fs=>obtain⟨_,⟨_,_,_,e,_⟩,_⟩:=x;exact lt_size e|wW lo hi=>obtain⟨_,_,_,e⟩:=x;exact lt_size e|dB c u=>obtain⟨e,_⟩:=x;exact lt_size e|QR ps=>exact lt_size (show h.get? a=some _ from x)|met f y=>exact lt_size (show h.get? a=some _ from x)|ext g=>obtain⟨_,⟨_,e⟩,_⟩:=x;exact lt_size e
theorem Paired.Ra{g j:Type}{F G:g->j->Prop}:∀{c:List g}{e:List j},Paired F c e->(∀a b,F a b->G a b)->Paired G c e|_,_,.nil,_=>.nil|_,_,.cons r t,f=>.cons (f _ _ r) (Paired.Ra t f)
theorem bw.stay(x:bw P w H h a o)(k:∀b u,(b=a\/H b=some (.own a))->h.get? b=some u->h'.get? b=some u)(ho:∀b,H b=some (.own a)->H' b=some (.own a))(ht:∀b xs,H b=some (.tup xs)->H' b=some (.tup xs)):bw P w H' h' a o:=by induction o with|lst xs=>obtain⟨z,j,n,r,e⟩:=x;exact⟨z,j,n,r,k _ _ (.inl rfl) e⟩|tup xs=>obtain⟨z,j,r,g,e,c⟩:=x;exact⟨z,j,r,g,k _ _ (.inl rfl) e,c⟩|dK kvs=>obtain⟨z,y,vs,r,g,es,ep,e,c⟩:=x;exact⟨z,y,vs,r,g,es,ep,k _ _ (.inl rfl) e,c⟩|dT kvs=>obtain⟨z,y,xs,r,g,es,ep,e,c⟩:=x;exact⟨z,y,xs,Paired.Ra r λp q z=>⟨z.1,ht _ _ z.2.1,z.2.2⟩,g,es,ep,k _ _ (.inl rfl) e,c⟩|set S n=>obtain⟨g,es,ep,t,e,c⟩:=x;exact⟨g,es,ep,t,k _ _ (.inl rfl) e,c⟩|ins C E fs=>obtain⟨d,z,ne,e,l,⟨od,es,ep,m,c⟩,r⟩:=x;exact⟨ho _ d,z,ne,k _ _ (.inl rfl) e,l,⟨od,es,ep,k _ _ (.inr d) m,c⟩,r⟩|own y=>obtain⟨g,e⟩:=x;exact⟨g,k _ _ (.inl rfl) e⟩|xd fs=>obtain⟨l,⟨od,es,ep,e,c⟩,r⟩:=x;exact⟨l,⟨od,es,ep,k _ _ (.inl rfl) e,c⟩,r⟩|wW lo hi=>obtain⟨t,u,v,e⟩:=x;exact⟨t,u,v,k _ _ (.inl rfl) e⟩|dB g u B=>obtain⟨e,q⟩:=x;exact⟨k _ _ (.inl rfl) e,B q⟩|QR ps=>have e:h.get? a=some {cls:=.none,data:=.fields ps}:=x;show h'.get? a=some {cls:=.none,data:=.fields ps};exact k a _ (.inl rfl) e|met f y=>have e:h.get? a=some (methodObj (.ref f) (.ref y)):=x;show h'.get? a=some (methodObj (.ref f) (.ref y));exact k a _ (.inl rfl) e|ext G=>obtain⟨p,⟨o,e⟩,st⟩:=x;exact⟨st _ _ p λo q=>k _ _ (.inl rfl) q,⟨o,k _ _ (.inl rfl) e⟩,st⟩
theorem jQ.lt(x:jQ P w H h)(e:H a=some o):a<h.objs.size:=(x a o e).lt
theorem jQ.fresh(x:jQ P w H h)(e:h.objs.size<=a):H a=none:=by cases q:H a with|none=>rfl|some u=>exact absurd (lt_of_lt_of_le (x.lt q) e) (lt_irrefl _)
theorem jQ.kept(x:jQ P w H h)(k:∀b u,h.get? b=some u->h'.get? b=some u):jQ P w H h':=λa o e=>(x a o e).stay (λb u _ q=>k b u q) (λ_ q=>q) λ_ _ q=>q
theorem jQ.laid(x:jQ P w H h)(k:∀b u,h.get? b=some u->h'.get? b=some u)(j:h.objs.size<=a)(new:bw P w (upd H a o) h' a o):jQ P w (upd H a o) h':=λb u e=>by
 have f:=x.fresh j;by_cases g:b=a;.subst g;rw[aL]at e;cases e;exact new
 .rw[aA g]at e;exact(x b u e).stay (λc v _ q=>k c v q) (λc q=>by rw[aA (iw q f)];exact q) λc xs q=>by rw[aA (iw q f)];exact q
end
def Rd(H:Hp)(a:Addr)(u:HO):Prop:=H a=some u\/∃o,H a=some (.dB o u)
theorem Rd.ok{P:Program}{a:Addr}{u:HO}(r:Rd H a u)(x:jQ P w H h):bw P w H h a u:=by
 rcases r with r|⟨o,r⟩;.exact x a u r
 .obtain⟨_,q⟩:=x a _ r;exact q
def Zn:Option HO->Prop|some (.lst _)=>True|some (.dK _)=>True|some (.dT _)=>True|some (.set _ _)=>True|some (.ins _ _ _)=>True|some (.ext _)=>True|_=>False
section
variable{P:Program}{w:World}{H:Hp}{h h':Heap}{x e:Addr}{o':HO}
theorem jQ.write(ok:jQ P w H h)(f:Zn (H x))(he:e=x\/H e=some (.own x))(k:∀b u,b≠e->h.get? b=some u->h'.get? b=some u)(j:∃u,h'.get? e=some u)(new:bw P w (upd H x o') h' x o'):jQ P w (upd H x o') h':=λb u q=>by
 have m:∀c y,H c=some (.own y)->c≠x:=λc y r z=>by subst z;rw[r]at f;exact f
 have l:∀c xs,H c=some (.tup xs)->c≠x:=λc xs r z=>by subst z;rw[r]at f;exact f
 by_cases g:b=x;.subst g;rw[aL]at q;cases q;exact new
 . rw[aA g]at q;by_cases a:b=e
   . have n:H b=some (.own x):=by
      rcases he with z|z;.exact absurd (a.trans z) g
      .rw[a];exact z
     rw[q]at n;cases n;obtain⟨v,o⟩:=j;exact⟨v,by rw[a];exact o⟩
   . refine(ok b u q).stay (λc v hc r=>k c v ?_ r) (λc r=>by rw[aA (m c b r)];exact r) λc xs r=>by rw[aA (l c xs r)];exact r
     rcases hc with rfl|hc;.exact a
     . rintro rfl;rcases he with z|z;.exact m c b hc z
       .rw[hc]at z;cases z;exact g rfl
end
structure Un(fs ex:List Addr)(H H':Hp)(h h':Heap):Prop where
 keep:∀b o,h.get? b=some o->H b=none->b∉fs->b∉ex->h'.get? b=some o
 slot:∀b o,h.get? b=some o->H b=none->b∈fs->b∉ex->∃sl,h'.get? b=some {o with slots:=sl}free:∀b o,h.get? b=some o->H b=none->b∉ex->H' b=none
 there:∀b o,h.get? b=some o->b∉ex->∃o',h'.get? b=some o'
 tups:∀b xs,H b=some (.tup xs)->H' b=some (.tup xs)pZ:∀b o u,H b=some (.dB o u)->H' b=some (.dB o u)tG:∀b ps,H b=some (.QR ps)->∃more,H' b=some (.QR (ps++more))
section
variable{fs fs' ex ex':List Addr}{H H1 H2:Hp}{h h1 h2 h':Heap}{a x e:Addr}{o:HO}
theorem Un.any(u:Un fs ex H H1 h h1){b:Addr}{c:Obj}(q:h.get? b=some c)(n:H b=none)(f:b∉ex):∃sl,h1.get? b=some {c with slots:=sl}:=by
 by_cases g:b∈fs;.exact u.slot b c q n g f
 .exact⟨c.slots,u.keep b c q n g f⟩
theorem Un.kept(k:∀b u,h.get? b=some u->h'.get? b=some u):Un fs ex H H h h':=⟨λb c q _ _ _=>k b c q,λb c q _ _ _=>⟨c.slots,k b c q⟩,λ_ _ _ n _=>n,λb c q _=>⟨c,k b c q⟩,λ_ _ q=>q,λ_ _ _ q=>q,λ_ ps q=>⟨#[],by rw[q];simp⟩⟩
theorem Un.refl:Un fs ex H H h h:=Un.kept λ_ _ q=>q
theorem Un.laid(k:∀b u,h.get? b=some u->h'.get? b=some u)(f:h.objs.size<=a)(c:H a=none):Un fs ex H (upd H a o) h h' where
 keep:=λb u q _ _ _=>k b u q;slot:=λb u q _ _ _=>⟨u.slots,k b u q⟩;free:=λb u q n _=>by rw[aA (ne_of_lt (lt_of_lt_of_le (lt_size q) f))];exact n
 there:=λb u q _=>⟨u,k b u q⟩;tups:=λb xs q=>by rw[aA (iw q c)];exact q
 pZ:=λb u xs q=>by rw[aA (iw q c)];exact q
 tG:=λb ps q=>⟨#[],by rw[aA (iw q c),q];simp⟩
theorem Un.write(f:Zn (H x))(he:e=x\/H e=some (.own x))(k:∀b u,b≠e->h.get? b=some u->h'.get? b=some u)(g:∃u,h'.get? e=some u):Un fs ex H (upd H x o) h h':=by
 have l:∀b,H b=none->b≠x:=λb n z=>by subst z;rw[n]at f;exact f
 have m:∀b,H b=none->b≠e:=λb n z=>by
  subst z;rcases he with r|r;.exact l b n r
  .rw[n]at r;cases r
 have j:∀b u,H b=some u->¬ Zn (some u)->b≠x:=λb u q nm z=>by subst z;rw[q]at f;exact nm f
 refine⟨λb u q n _ _=>k b u (m b n) q,λb u q n _ _=>⟨u.slots,k b u (m b n) q⟩,λb u q n _=>by rw[aA (l b n)];exact n,λb u q _=>?_,λb xs q=>by rw[aA (j b _ q λz=>z)];exact q,λb u xs q=>by rw[aA (j b _ q λz=>z)];exact q,λb ps q=>⟨#[],by rw[aA (j b _ q λz=>z),q];simp⟩⟩;by_cases c:b=e;.subst c;exact g
 .exact⟨u,k b u c q⟩
end
noncomputable def trk(h:Heap)(H:Hp):List Addr:=(List.range h.objs.size).filter λa=>(H a).isSome
noncomputable def v5(h:Heap)(H:Hp):Heap:=PySem.W.hideAll h (trk h H)
theorem El(h:Heap)(H:Hp):(v5 h H).objs.size=h.objs.size:=PySem.W.hideAll_size _ _
theorem Hm{b:Addr}{o:Obj}(e:h.get? b=some o)(n:H b=none):(v5 h H).get? b=some o:=PySem.W.hideAll_get _ e λa=>by have q:(H b).isSome=true:=(List.mem_filter.mp a).2;rw[n]at q;simp at q
theorem Mw{b:Addr}{o:Obj}(e:(v5 h H).get? b=some o):h.get? b=some o/\H b=none:=by have a:h.get? b=some o:=PySem.W.of_hideAll (trk h H) e;refine⟨a,?_⟩;cases q:H b with|none=>rfl|some x=>have c:b∈trk h H:=List.mem_filter.mpr ⟨List.mem_range.mpr (lt_size a),by simp[q]⟩;have z:(v5 h H).get? b=none:=PySem.W.hideAll_none (trk h H) c;rw[z]at e;cases e
structure Mod(K:PySem.W.Frag)(mg:Str->Option Value)(base:Heap):Prop where
 qt:K.In base
 glob:base.Ns mainGlobals mg
 blt:∃mb,base.Ns builtinsNs mb/\∀x:Str,x≠"__name__"->mb x=bootBuiltins x
 nolimit:base.NoLimit
structure Cx where
 prog:Program
 w:World
 K:PySem.W.Frag
 mg:Str->Option Value
 base:Heap
 A:Around
 N:List Str
 s₀:Shared
 H₀:Hp
 env:Env
 outer:List Env
 stack:List Env
 ex:List Addr
 fn:Str->Bool
 calm:Bool
 pn:List (Addr×Obj)xe:Value->Shared->Prop
variable{X:Cx}
noncomputable def frs(l:List Env):List Addr:=l.filterMap (·.frame)
noncomputable abbrev Cx.fs(X:Cx):List Addr:=frs X.outer
def uX(a:Scope)(x:Str):Prop:=a.names.lookup x=some .local\/a.names.lookup x=some .cell\/a.names.lookup x=some .free
def Loc(a:Scope)(x:Str):Prop:=a.names.lookup x=some .local\/a.names.lookup x=some .cell
def Look(env:Env)(h:Heap)(m:Str->Option Value)(x:Str)(u:Value):Prop:=(env.kindOf x=some .local/\m x=some u)\/((env.kindOf x=some .cell\/env.kindOf x=some .free)/\∃c,env.cells.lookup x=some c/\h.IsCell c (some u))
structure Cx.Ok(X:Cx):Prop where
 mod:Mod X.K X.mg X.base
 kind:X.env.scope.kind=.function
 glob:X.env.globals=mainGlobals
 blt:X.env.builtins=builtinsNs
 above:X.s₀.heap.objs.size<=X.env.locals
 inj:∀x y c,X.env.cells.lookup x=some c->X.env.cells.lookup y=some c->x=y
 has:∀x,(X.env.kindOf x=some .cell\/X.env.kindOf x=some .free)->∃c,X.env.cells.lookup x=some c
 cab:∀x c,X.fn x=true->X.env.cells.lookup x=some c->X.s₀.heap.objs.size<=c
 hd:X.calm=true->X.A.handled=none
 frames:X.A.frames=some X.stack
 OJ:X.stack=X.outer\/(X.stack=X.env::X.outer/\X.env.frame=some X.env.locals)Vy:∀b∈X.ex,b≠X.env.locals/\∀x c,X.env.cells.lookup x=some c->c≠b
 bs:∀b o,X.base.get? b=some o->X.s₀.heap.get? b=some o/\X.H₀ b=none
 Gb:X.base.objs.size<=X.s₀.heap.objs.size
 ue:∀b o,X.base.get? b=some o->b∉X.ex
 wX:∀b∈X.ex,b∉X.fs
 lO:X.s₀.heap.FunFrames X.base X.outer
 Ks:∀b∈X.fs,X.H₀ b=none
structure Inv(X:Cx)(pins:List (Addr×Obj))(σ:List (Option V))(H:Hp)(s:Shared):Prop where
 ok:X.Ok
 os:s.os=X.s₀.os
 bare:AllBare s.gens
 base:Un X.fs X.ex X.H₀ H X.s₀.heap s.heap
 loc:∃m,s.heap.Ns X.env.locals m/\∀(i:Nat)(x:Str)(v:V),X.N[i]?=some x->σ[i]?=some (some v)->uX X.env.scope x->∃u,RelV v u/\Look X.env s.heap m x u
 cell:∀x c,X.env.cells.lookup x=some c->∃v,s.heap.IsCell c v
 free:H X.env.locals=none
 fV:∀x c,X.env.cells.lookup x=some c->H c=none
 pin:∀p∈X.pn++pins,s.heap.get? p.1=some p.2/\H p.1=none/\p.1≠X.env.locals/\p.1∉X.fs/\∀v,p.2.data≠.cell v
 hok:jQ X.prog X.w H s.heap
 len:σ.length=X.N.length
section
variable{X:Cx}{pins:List (Addr×Obj)}{σ:List (Option V)}{H H':Hp}{s:Shared}{h':Heap}
theorem Cx.Ok.Oo(ok:X.Ok){b:Addr}{o:Obj}(e:X.base.get? b=some o):b∉X.fs:=λa=>by have:=(ok.lO.mem a).1;rw[e]at this;cases this
theorem Inv.bs(I:Inv X pins σ H s):∀b o,X.base.get? b=some o->s.heap.get? b=some o/\H b=none:=λb o e=>⟨I.base.keep b o (I.ok.bs b o e).1 (I.ok.bs b o e).2 (I.ok.Oo e) (I.ok.ue b o e),I.base.free b o (I.ok.bs b o e).1 (I.ok.bs b o e).2 (I.ok.ue b o e)⟩
theorem Inv.bk(I:Inv X pins σ H s):∀b o,X.base.get? b=some o->s.heap.get? b=some o:=λb o e=>(I.bs b o e).1
theorem Inv.mod(I:Inv X pins σ H s):Mod X.K X.mg X.base:=I.ok.mod
theorem Inv.MP(I:Inv X pins σ H s):X.K.In s.heap:=I.ok.mod.qt.keeps I.bk
theorem Inv.lt(I:Inv X pins σ H s):X.env.locals<s.heap.objs.size:=let⟨_,hn,_⟩:=I.loc;hn.lt
theorem Inv.sz(I:Inv X pins σ H s):X.s₀.heap.objs.size<=s.heap.objs.size:=le_trans I.ok.above (le_of_lt I.lt)
theorem Inv.aew(I:Inv X pins σ H s){a:Addr}(h:s.heap.objs.size<=a):a∉X.fs:=λb=>by obtain⟨_,o,ho,_⟩:=I.ok.lO.mem b;exact absurd (lt_of_lt_of_le (lt_size ho) (le_trans I.sz h)) (lt_irrefl _)
theorem Inv.Ja(I:Inv X pins σ H s):∀x c,X.env.cells.lookup x=some c->c≠X.env.locals:=λx c e z=>by obtain⟨v,o,ho,hd⟩:=I.cell x c e;obtain⟨m,⟨f,es,ep,a,b,_⟩,_⟩:=I.loc;rw[z,a]at ho;cases ho;rw[b]at hd;cases hd
theorem Inv.lO(I:Inv X pins σ H s):s.heap.FunFrames X.base X.outer:=by
 have all:∀(l:List Env),(∀b∈frs l,b∈X.fs)->X.s₀.heap.FunFrames X.base l->s.heap.FunFrames X.base l:=by intro l;induction l with|nil=>intro _ _;trivial|cons env r g=>intro hs j;obtain⟨k,⟨L,o,a,m,ho,hd⟩,hr⟩:=j;have c:L∈X.fs:=hs L (by unfold frs;rw[filterMap_cons,a];exact mem_cons_self);obtain⟨sl,e⟩:=I.base.slot L o ho (I.ok.Ks L c) c λz=>I.ok.wX L z c;exact⟨k,⟨L,_,a,m,e,hd⟩,g (λb f=>hs b (by unfold frs;rw[filterMap_cons,a];exact mem_cons_of_mem _ f)) hr⟩
 exact all X.outer (λ_ f=>f) I.ok.lO
theorem Inv.stack(I:Inv X pins σ H s):s.heap.FunFrames X.base X.stack:=by
 rcases I.ok.OJ with e|⟨e,a⟩;.rw[e];exact I.lO
 .rw[e];obtain⟨m,b,_⟩:=I.loc;refine .cons (by rw[I.ok.kind];decide) a b ?_ I.lO;exact get?_none_of_le (le_trans I.ok.Gb I.ok.above)
theorem Inv.rF(I:Inv X pins σ H s):∀b∈frs X.stack,b∈X.env.locals::X.fs:=λb a=>by
 rcases I.ok.OJ with e|⟨e,c⟩;.rw[e]at a;exact mem_cons_of_mem _ a
 .rw[e]at a;unfold frs at a;rw[filterMap_cons,c]at a;exact a
theorem Inv.p8(I:Inv X pins σ H s):∀b∈frs X.stack,H b=none:=λb hb=>by
 rcases mem_cons.mp (I.rF b hb)with e|hb;.rw[e];exact I.free
 .obtain⟨_,o,ho,_⟩:=I.ok.lO.mem hb;exact I.base.free b o ho (I.ok.Ks b hb) λz=>I.ok.wX b z hb
theorem Inv.step{g':Array GenState}{d':Drawn}{ch:List Addr}(I:Inv X pins σ H s)(f:∀b∈ch,(b∈X.ex\/X.s₀.heap.objs.size<=b)/\b≠X.env.locals/\(∀x c,X.env.cells.lookup x=some c->c≠b)/\∀p∈X.pn++pins,p.1≠b)(keep:∀b o,b≠X.env.locals->b∉X.fs->b∉ch->s.heap.get? b=some o->H b=none->h'.get? b=some o)(slot:∀b o,b≠X.env.locals->b∈X.fs->b∉ch->s.heap.get? b=some o->H b=none->∃sl,h'.get? b=some {o with slots:=sl})(free:∀b o,b∉ch->s.heap.get? b=some o->H b=none->H' b=none)(there:∀b o,b∉ch->s.heap.get? b=some o->∃B,h'.get? b=some B)(tups:∀b xs,H b=some (.tup xs)->H' b=some (.tup xs))(pZ:∀b o u,H b=some (.dB o u)->H' b=some (.dB o u))(tG:∀b ps,H b=some (.QR ps)->∃more,H' b=some (.QR (ps++more)))(ns:∀m,s.heap.Ns X.env.locals m->h'.Ns X.env.locals m)(hok:jQ X.prog X.w H' h')(O:AllBare g'):Inv X pins σ H' {s with heap:=h',gens:=g',drawn:=d',toks:=t'}:=by
 have C:∀b o,X.s₀.heap.get? b=some o->b≠X.env.locals:=λb o e=>ne_of_lt (lt_of_lt_of_le (lt_size e) I.ok.above);have j:∀b o,X.s₀.heap.get? b=some o->b∉X.ex->b∉ch:=λb o e a y=>by
  rcases(f b y).1 with z|z;.exact a z
  .exact absurd (lt_of_lt_of_le (lt_size e) z) (lt_irrefl _)
 have g:∀x c,X.env.cells.lookup x=some c->∀v,s.heap.IsCell c v->h'.IsCell c v:=λx c e v⟨o,ho,hd⟩=>by
  have E:c∉ch:=λz=>(f c z).2.2.1 x c e rfl;by_cases hc:c∈X.fs;.obtain⟨sl,q⟩:=slot c o (I.Ja x c e) hc E ho (I.fV x c e);exact⟨_,q,hd⟩
  .exact⟨o,keep c o (I.Ja x c e) hc E ho (I.fV x c e),hd⟩
 refine⟨I.ok,I.os,O,⟨λb o e n y a=>?_,λb o e n y a=>?_,λb o e n a=>?_,λb o e a=>?_,λb xs e=>tups b xs (I.base.tups b xs e),λb o xs e=>pZ b o xs (I.base.pZ b o xs e),λb ps e=>?_⟩,?_,λx c e=>?_,?_,λx c e=>?_,λp L=>?_,hok,I.len⟩;.exact keep b o (C b o e) y (j b o e a) (I.base.keep b o e n y a) (I.base.free b o e n a)
 .obtain⟨sl,t⟩:=I.base.slot b o e n y a;obtain⟨J,G⟩:=slot b _ (C b o e) y (j b o e a) t (I.base.free b o e n a);exact⟨J,G⟩
 .obtain⟨B,t⟩:=I.base.there b o e a;exact free b B (j b o e a) t (I.base.free b o e n a)
 .obtain⟨B,t⟩:=I.base.there b o e a;exact there b B (j b o e a) t
 .obtain⟨m1,t⟩:=I.base.tG b ps e;obtain⟨Q,G⟩:=tG b _ t;exact⟨m1++Q,by rw[G,Array.append_assoc]⟩
 . obtain⟨m,U,W⟩:=I.loc;refine⟨m,ns m U,λi x v t G Y=>?_⟩;obtain⟨u,r,l⟩:=W i x v t G Y;refine⟨u,r,?_⟩;rcases l with l|⟨k,c,e,z⟩;.exact .inl l
   .exact .inr ⟨k,c,e,g x c e _ z⟩
 .obtain⟨v,z⟩:=I.cell x c e;exact⟨v,g x c e v z⟩
 .obtain⟨m,⟨o,_,_,ho,_⟩,_⟩:=I.loc;exact free _ o (λz=>(f _ z).2.1 rfl) ho I.free
 .obtain⟨v,o,ho,hd⟩:=I.cell x c e;exact free c o (λz=>(f c z).2.2.1 x c e rfl) ho (I.fV x c e)
 .obtain⟨e,n,ne,N,d⟩:=I.pin p L;have E:p.1∉ch:=λz=>(f p.1 z).2.2.2 p L rfl;exact⟨keep p.1 p.2 ne N E e n,free p.1 p.2 E e n,ne,N,d⟩
theorem Inv.un(I:Inv X pins σ H s)(u:Un X.fs [] H H' s.heap h')(hok:jQ X.prog X.w H' h'):Inv X pins σ H' {s with heap:=h',toks:=t'}:=by obtain⟨m,⟨o,es,ep,ho,r⟩,_⟩:=id I.loc;obtain⟨sl,j⟩:=u.any ho I.free (by simp);exact I.step (g':=s.gens) (d':=s.drawn) (ch:=[]) (λ_ z=>nomatch z) (λb o _ c _ e n=>u.keep b o e n c (by simp)) (λb o _ c _ e n=>u.slot b o e n c (by simp)) (λb o _ e n=>u.free b o e n (by simp)) (λb o _ e=>u.there b o e (by simp)) u.tups u.pZ u.tG (λp k=>by obtain⟨q,f,g,a,l⟩:=k;rw[ho]at a;cases a;exact⟨_,f,g,j,l⟩) hok I.bare
theorem Inv.call{g':Array GenState}{d':Drawn}{ch:List Addr}(I:Inv X pins σ H s)(u:Un (frs X.stack) ch H H' s.heap h')(hok:jQ X.prog X.w H' h')(l:AllBare g')(a:∀b∈ch,(b∈X.ex\/X.s₀.heap.objs.size<=b)/\b≠X.env.locals/\(∀x c,X.env.cells.lookup x=some c->c≠b)/\∀p∈X.pn++pins,p.1≠b):Inv X pins σ H' {s with heap:=h',gens:=g',drawn:=d',toks:=t'}:=by obtain⟨m,⟨o,es,ep,ho,r⟩,_⟩:=id I.loc;obtain⟨sl,g⟩:=u.any ho I.free λz=>(a _ z).2.1 rfl;exact I.step (ch:=ch) a (λb o g q hc e n=>u.keep b o e n (λz=>(mem_cons.mp (I.rF b z)).elim g q) hc) (λb o _ _ hc e n=>u.any e n hc) (λb o hc e n=>u.free b o e n hc) (λb o hc e=>u.there b o e hc) u.tups u.pZ u.tG (λy t=>by obtain⟨B,j,k,f,v⟩:=t;rw[ho]at f;cases f;exact⟨_,j,k,g,v⟩) hok l
theorem Inv.turned{it:Addr}(I:Inv X pins σ H s)(k:∀b o,b≠it->s.heap.get? b=some o->h'.get? b=some o)(g:H it=none)(f:it≠X.env.locals)(h1:it∈X.ex\/X.s₀.heap.objs.size<=it)(j:∀x c,X.env.cells.lookup x=some c->c≠it)(l:∀p∈X.pn++pins,p.1≠it):Inv X pins σ H {s with heap:=h',toks:=t'}:=by
 have a:∀b u,H b=some u->b≠it:=λb u e z=>by rw[z,g]at e;cases e
 refine I.step (g':=s.gens) (d':=s.drawn) (ch:=[it]) (λb t=>?_) (λb o _ _ hc e _=>k b o (λz=>hc (by simp[z])) e) (λb o _ _ hc e _=>⟨o.slots,k b o (λz=>hc (by simp[z])) e⟩) (λ_ _ _ _ n=>n) (λb o hc e=>⟨o,k b o (λz=>hc (by simp[z])) e⟩) (λ_ _ e=>e) (λ_ _ _ e=>e) (λb ps e=>⟨#[],by rw[e];simp⟩) (λm y=>?_) (λb u e=>?_) I.bare
 . have e:b=it:=by simpa using t
   subst e;exact⟨h1,f,j,l⟩
 .obtain⟨o,es,ep,ho,r⟩:=y;exact⟨o,es,ep,k _ o (Ne.symm f) ho,r⟩
 . refine(I.hok b u e).stay (λc v hc q=>k c v ?_ q) (λ_ q=>q) λ_ _ q=>q;rcases hc with z|z;.rw[z];exact a b u e
   .exact a c _ z
theorem Inv.tok(I:Inv X pins σ H s)(t:Nat):Inv X pins σ H {s with toks:=t}:=I.un (h':=s.heap) (t':=t) Un.refl I.hok
theorem Inv.kept{t':Nat}(I:Inv X pins σ H s)(k:∀b u,s.heap.get? b=some u->h'.get? b=some u):Inv X pins σ H {s with heap:=h',toks:=t'}:=I.un (Un.kept k) (I.hok.kept k)
theorem Inv.laid{a:Addr}{o:HO}{t':Nat}(I:Inv X pins σ H s)(k:∀b u,s.heap.get? b=some u->h'.get? b=some u)(c:s.heap.objs.size<=a)(new:bw X.prog X.w (upd H a o) h' a o):Inv X pins σ (upd H a o) {s with heap:=h',toks:=t'}:=I.un (Un.laid k c (I.hok.fresh c)) (I.hok.laid k c new)
theorem Inv.write{x e:Addr}{o:HO}{t':Nat}(I:Inv X pins σ H s)(c:Zn (H x))(he:e=x\/H e=some (.own x))(k:∀b u,b≠e->s.heap.get? b=some u->h'.get? b=some u)(a:∃u,h'.get? e=some u)(new:bw X.prog X.w (upd H x o) h' x o):Inv X pins σ (upd H x o) {s with heap:=h',toks:=t'}:=I.un (Un.write c he k a) (I.hok.write c he k a new)
theorem Inv.BX{a:List (Addr×Obj)}(I:Inv X pins σ H s)(h:∀p∈a,s.heap.get? p.1=some p.2/\H p.1=none/\p.1≠X.env.locals/\p.1∉X.fs/\∀v,p.2.data≠.cell v):Inv X a σ H s:=⟨I.ok,I.os,I.bare,I.base,I.loc,I.cell,I.free,I.fV,λp b=>(mem_append.mp b).elim (λz=>I.pin p (mem_append_left _ z)) (h p),I.hok,I.len⟩
theorem sZ{N:List Str}(c:N.Nodup){j:Nat}{x:Str}(a:N[i]?=some x)(b:N[j]?=some x):i=j:=by obtain⟨h1,e⟩:=fM a;obtain⟨g,f⟩:=fM b;exact(List.getElem_inj c).mp (e.trans f.symm)
theorem uG{E:Value->Shared->Prop}{x:Str}{v:V}{u:Value}{Q:Unit->Shared->Prop}(I:Inv X pins σ H s)(hN:X.N.Nodup)(hi:X.N[i]?=some x)(l:Loc X.env.scope x)(r:RelV v u)(h:∀s',Inv X pins (σ.set i (some v)) H s'->(∃a,SameBut a s.heap s'.heap/\(a=X.env.locals\/X.env.cells.lookup x=some a))->Q () s')(hf:X.fn x=true\/X.env.scope.names.lookup x=some .local:=by first|exact .inl rfl|exact .inr rfl|assumption):wpAny M A (storeName X.env x u) Q E s:=by
 obtain⟨m,hn,hl⟩:=id I.loc;have O:(X.env.scope.kind==.class||(X.env.scope.kind==.module&&X.env.locals !=X.env.globals))=false:=by rw[I.ok.kind];rfl
 have C:i<σ.length:=by rw[I.len];exact(fM hi).1
 have Ja:=I.Ja;have f:∀{a:Addr}{h':Heap},(∃o,s.heap.get? a=some o/\H a=none)->SameBut a s.heap h'->jQ X.prog X.w H h':=λ{a h'}ha hs b ob e=>by
  obtain⟨_,_,t⟩:=ha;refine(I.hok b ob e).stay (λc Z hc q=>(hs.2 c ?_).trans q) (λ_ q=>q) λ_ _ q=>q;rintro rfl;rcases hc with rfl|hc;.rw[t]at e;cases e
  .rw[t]at hc;cases hc
 rcases l with hk|hk
 . refine wpAny_storeName_local hk hn (λh' ac hs=>?_) O;obtain⟨oL,_,_,ae,_⟩:=id hn;refine h _ ⟨I.ok,I.os,I.bare,⟨λb o e n G l=>?_,λb o e n G l=>?_,I.base.free,λb o e l=>?_,I.base.tups,I.base.pZ,I.base.tG⟩,⟨_,ac,λj y v' g B e3=>?_⟩,λy c e=>?_,I.free,I.fV,λp hp=>?_,f ⟨oL,ae,I.free⟩ hs,by simpa using I.len⟩ ⟨_,hs,.inl rfl⟩;.exact(hs.2 b (ne_of_lt (lt_of_lt_of_le (lt_size e) I.ok.above))).trans (I.base.keep b o e n G l)
   .obtain⟨sl,g⟩:=I.base.slot b o e n G l;exact⟨sl,(hs.2 b (ne_of_lt (lt_of_lt_of_le (lt_size e) I.ok.above))).trans g⟩
   .obtain⟨o',g⟩:=I.base.there b o e l;exact⟨o',(hs.2 b (ne_of_lt (lt_of_lt_of_le (lt_size e) I.ok.above))).trans g⟩
   . by_cases J:j=i;.subst J;rw[hi]at g;cases g;rw[getElem?_set_self C]at B;cases B;exact⟨u,r,.inl ⟨hk,by simp⟩⟩
     . rw[fU J]at B;obtain⟨u',r',q⟩:=hl j y v' g B e3;refine⟨u',r',?_⟩;rcases q with⟨k,e⟩|⟨k,c,e,z⟩;.refine .inl ⟨k,?_⟩;have:y≠x:=λe=>J (sZ hN g (e▸hi));simp[this,e]
       .exact .inr ⟨k,c,e,z.sameBut hs (Ja y c e)⟩
   .obtain⟨Z,z⟩:=I.cell y c e;exact⟨Z,z.sameBut hs (Ja y c e)⟩
   .obtain⟨e,n,ne,nf,d⟩:=I.pin p hp;exact⟨(hs.2 p.1 ne).trans e,n,ne,nf,d⟩
 . have L:X.fn x=true:=by
    rcases hf with z|z;.exact z
    .rw[z]at hk;cases hk
   obtain⟨c,hc⟩:=I.ok.has x (.inl hk);obtain⟨Z,z⟩:=I.cell x c hc;refine wpAny_storeName_cell I.ok.kind hk hc z (λh' U hs=>?_);obtain⟨oc,W,af⟩:=id z;refine h {s with heap:=h'} ⟨I.ok,I.os,I.bare,⟨λb o e n G l=>?_,λb o e n G l=>?_,I.base.free,λb o e l=>?_,I.base.tups,I.base.pZ,I.base.tG⟩,⟨m,hn.sameBut hs (Ne.symm (Ja x c hc)),λj y v' g B e3=>?_⟩,λy c' e=>?_,I.free,I.fV,λp hp=>?_,f ⟨oc,W,I.fV x c hc⟩ hs,by simpa using I.len⟩ ⟨c,hs,.inr hc⟩;.exact(hs.2 b (ne_of_lt (lt_of_lt_of_le (lt_size e) (I.ok.cab x c L hc)))).trans (I.base.keep b o e n G l)
   .obtain⟨sl,g⟩:=I.base.slot b o e n G l;exact⟨sl,(hs.2 b (ne_of_lt (lt_of_lt_of_le (lt_size e) (I.ok.cab x c L hc)))).trans g⟩
   .obtain⟨o',g⟩:=I.base.there b o e l;exact⟨o',(hs.2 b (ne_of_lt (lt_of_lt_of_le (lt_size e) (I.ok.cab x c L hc)))).trans g⟩
   . by_cases J:j=i;.subst J;rw[hi]at g;cases g;rw[getElem?_set_self C]at B;cases B;exact⟨u,r,.inr ⟨.inl hk,c,hc,U⟩⟩
     . rw[fU J]at B;obtain⟨u',r',q⟩:=hl j y v' g B e3;refine⟨u',r',?_⟩;rcases q with q|⟨k,c',e,z'⟩;.exact .inl q
       .refine .inr ⟨k,c',e,z'.sameBut hs ?_⟩;rintro rfl;exact J (sZ hN g (I.ok.inj _ _ _ e hc▸hi))
   . by_cases Y:c'=c;.subst Y;exact⟨_,U⟩
     .obtain⟨w2,z2⟩:=I.cell y c' e;exact⟨w2,z2.sameBut hs Y⟩
   .obtain⟨e,n,ne,nf,d⟩:=I.pin p hp;refine⟨(hs.2 p.1 ?_).trans e,n,ne,nf,d⟩;intro q;rw[q,W]at e;have q':oc=p.2:=Option.some.inj e;exact d Z (by rw[<-q'];exact af)
theorem je{E:Value->Shared->Prop}{x:Str}{v:V}{u:Value}{Q:Unit->Shared->Prop}(I:Inv X pins σ H s)(b:X.N.Nodup)(hi:X.N[i]?=some x)(c:Loc X.env.scope x)(r:RelV v u)(h:∀a,Inv X pins (σ.set i (some v)) H a->Q () a)(e:X.fn x=true\/X.env.scope.names.lookup x=some .local:=by first|exact .inl rfl|exact .inr rfl|assumption):wpAny M A (storeName X.env x u) Q E s:=uG I b hi c r (λa f _=>h a f) e
end
abbrev XK:=Value->Option Addr->Hp->Prop
noncomputable abbrev St:=List (Option V)
abbrev VK:=V->Hp->Prop
abbrev TE:=St->Hp->VK->Prop
variable{te:TE}
abbrev TT:=St->Hp->(Bool->Hp->Prop)->Prop
abbrev TA:=St->Hp->(List V->Hp->Prop)->Prop
structure Ends where
 nx:St->Hp->Prop
 rt:VK
 bk:St->Hp->Prop:=λ_ _=>False
 ct:St->Hp->Prop:=λ_ _=>False
abbrev TS:=Ends->St->Hp->Prop
inductive EP(X:Cx)(pins:List (Addr×Obj))(σ:St)(Q:VK)(u:Value)(s':Shared):Prop where|mk(v:V)(H':Hp)(q0:Inv X pins σ H' s')(q1:RelV v u)(q2:Q v H')
def TP(X:Cx)(pins:List (Addr×Obj))(σ:St)(Q:Bool->Hp->Prop)(b:Bool)(c:Shared):Prop:=∃a,Inv X pins σ a c/\Q b a
inductive AP(X:Cx)(pins:List (Addr×Obj))(σ:St)(Q:List V->Hp->Prop)(us:List Value)(s':Shared):Prop where|mk(vs:List V)(H':Hp)(q0:Inv X pins σ H' s')(q1:Vals vs us)(q2:Q vs H')
def SP(X:Cx)(pins:List (Addr×Obj))(D:Ends)(f:Flow)(b:Shared):Prop:=match f with|.next=>∃σ' a,Inv X pins σ' a b/\D.nx σ' a|.brk=>∃σ' a,Inv X pins σ' a b/\D.bk σ' a|.cont=>∃σ' a,Inv X pins σ' a b/\D.ct σ' a|.ret u=>∃v σ' a,Inv X pins σ' a b/\RelV v u/\D.rt v a
def PE(X:Cx)(e:Expr)(t:TE):Prop:=∀(pins:List (Addr×Obj))(s:Shared)(σ:St)(H:Hp)(Q:VK),Inv X pins σ H s->t σ H Q->wpAny (model X.prog X.w) X.A (eval e X.env) (EP X pins σ Q) X.xe s
def PT(X:Cx)(e:Expr)(t:TT):Prop:=∀(pins:List (Addr×Obj))(s:Shared)(σ:St)(H:Hp)(Q:Bool->Hp->Prop),Inv X pins σ H s->t σ H Q->wpAny (model X.prog X.w) X.A (isTrue e X.env (eval e X.env)) (TP X pins σ Q) X.xe s
def PW(X:Cx)(e:Expr)(t:TT):Prop:=∀(a:Sem Value)(pins:List (Addr×Obj))(s:Shared)(σ:St)(H:Hp)(Q:Bool->Hp->Prop),Inv X pins σ H s->t σ H Q->wpAny (model X.prog X.w) X.A (isTrue e X.env a) (TP X pins σ Q) X.xe s
theorem PW.pt{e:Expr}{t:TT}(h:PW X e t):PT X e t:=h _
def PA(X:Cx)(es:List Expr)(t:TA):Prop:=∀(pos:Pos)(pins:List (Addr×Obj))(s:Shared)(σ:St)(H:Hp)(Q:List V->Hp->Prop),Inv X pins σ H s->t σ H Q->wpAny (model X.prog X.w) X.A (spliced (backTo pos (starEach es X.env))) (AP X pins σ Q) X.xe s
def PS(X:Cx)(st:Stmt)(t:TS):Prop:=∀(pins:List (Addr×Obj))(s:Shared)(σ:St)(H:Hp)(D:Ends),Inv X pins σ H s->t D σ H->wpAny (model X.prog X.w) X.A (exec st X.env) (SP X pins D) X.xe s
def pO(X:Cx)(st:List Stmt)(t:TS):Prop:=∀(pins:List (Addr×Obj))(s:Shared)(σ:St)(H:Hp)(D:Ends),Inv X pins σ H s->t D σ H->wpAny (model X.prog X.w) X.A (execs st X.env) (SP X pins D) X.xe s
theorem bV{b:Type}{t:Sem b}{Q c:b->Shared->Prop}{E:Value->Shared->Prop}(h:wpAny M A t Q E s)(e:∀a s,Q a s->c a s):wpAny M A t c E s:=wpAny_mono h e λ_ _ x=>x
section
variable{X:Cx}
def Uw(i:Nat):TE:=λσ H Q=>∃v,σ[i]?=some (some v)/\Q v H
def tC(v:V):TE:=λ_ H Q=>Q v H
theorem eX{x:Str}(f:X.N[i]?=some x)(g:uX X.env.scope x)(hd:(x==("__debug__":Str))=false:=by decide)(b:(x==("__classdict__":Str))=false:=by decide):PE X (.Name x pos) (Uw i):=by
 intro pins s σ H Q I h;obtain⟨v,e,h⟩:=h;obtain⟨m,j,k⟩:=I.loc;obtain⟨u,r,l⟩:=k i x v f e g;have fin:EP X pins σ Q u s:=⟨v,H,I,r,h⟩;rcases l with⟨hk,n⟩|⟨hk,c,hc,a⟩;.exact wpAny_Name (wpAny_loadName_local I.ok.kind hk j n fin) hd
 . rcases hk with hk|hk;.exact wpAny_Name (wpAny_loadName_cell I.ok.kind hk hc a fin) hd
   .exact wpAny_Name (wpAny_loadName_free I.ok.kind hk hc a fin b) hd
theorem sO{i j pos}:PE X (.Constant (.int i) j pos) (tC (.int i)):=λ_ _ _ H _ I h=>wpAny_Constant_int ⟨.int i,H,I.tok _,⟨_,rfl⟩,h⟩
theorem XX{b j pos}:PE X (.Constant (.bool b) j pos) (tC (.bl b)):=λ_ _ _ H _ I h=>Constant_bool ⟨.bl b,H,I,rfl,h⟩
theorem Ro{j pos}:PE X (.Constant .none j pos) (tC .non):=λ_ _ _ H _ I h=>Constant_none ⟨.non,H,I,rfl,h⟩
def Gl(X:Cx)(x:Str):Prop:=X.env.kindOf x=some .globalImplicit
theorem qy{E:Value->Shared->Prop}{σ:St}{x:Str}{u:Value}{Q:Value->Shared->Prop}(I:Inv X pins σ H s)(a:Gl X x)(b:X.mg x=some u)(h:Q u s)(hd:(x==("__debug__":Str))=false:=by decide):wpAny (model X.prog X.w) X.A (eval (.Name x pos) X.env) Q E s:=Calls.Name_function_global I.ok.kind a (Calls.loadGlobal_global (by rw[I.ok.glob];exact I.mod.glob.keeps I.bk) b h) hd
theorem mz{E:Value->Shared->Prop}{σ:St}{x:Str}{u:Value}{Q:Value->Shared->Prop}(I:Inv X pins σ H s)(a:Gl X x)(b:X.mg x=none)(c:bootBuiltins x=some u)(h:Q u s)(e:x≠"__name__":=by decide)(hd:(x==("__debug__":Str))=false:=by decide):wpAny (model X.prog X.w) X.A (eval (.Name x pos) X.env) Q E s:=by obtain⟨g,h1,f⟩:=I.mod.blt;exact Calls.Name_function_global I.ok.kind a (Calls.loadGlobal_builtin (by rw[I.ok.glob];exact I.mod.glob.keeps I.bk) b (by rw[I.ok.blt];exact h1.keeps I.bk) ((f x e).trans c) h) hd
theorem gh{x:Str}{v:V}{u:Value}(a:Gl X x)(b:X.mg x=some u)(r:RelV v u)(hd:(x==("__debug__":Str))=false:=by decide):PE X (.Name x pos) (tC v):=λ_ _ _ H _ I h=>qy I a b ⟨v,H,I,r,h⟩ hd
theorem CV{x:Str}{v:V}{u:Value}(a:Gl X x)(b:X.mg x=none)(c:bootBuiltins x=some u)(r:RelV v u)(e:x≠"__name__":=by decide)(hd:(x==("__debug__":Str))=false:=by decide):PE X (.Name x pos) (tC v):=λ_ _ _ H _ I h=>mz I a b c ⟨v,H,I,r,h⟩ e hd
variable{a b:Expr}{ta tb:TE}{pos:Pos}
def PC(X:Cx)(op:CmpOp)(a b:Expr)(t:TE):Prop:=∀(pins:List (Addr × Obj))(s:Shared)(σ:St)(H:Hp)(Q:VK),Inv X pins σ H s->t σ H Q->wpAny (model X.prog X.w) X.A (eval a X.env) (λv c=>wpAny (model X.prog X.w) X.A (eval b X.env) (λu e=>wpAny (model X.prog X.w) X.A (compareOp op v u) (EP X pins σ Q) X.xe e) X.xe c) X.xe s
def tB(t:TE):TT:=λσ H Q=>t σ H λx e=>∃c,x=.bl c/\Q c e
theorem Us{op:CmpOp}{t:TE}(h:PC X op a b t)(h1:behindInMarks op b=false:=by first|exact aaa _ (by decide) (by decide)|rfl):PT X (.Compare a [op] [b] pos) (tB t):=by intro pins s σ H Q I e;refine wpAny_isTrue_Compare1 (bV (h pins s σ H _ I e) λv s1 h1=>bV h1 λu s2 f=>bV f λc s3⟨x,H1,I1,r1,q1⟩=>?_) h1;obtain⟨d,rfl,q⟩:=q1;cases r1;exact wpAny_truthy_bool ⟨H1,I1,q⟩
theorem J9{e:Expr}{t:TE}(h:PE X e t)(he:∀c,isTrue e X.env c=(do let v<-c;standAt e.pos;holding [v] (truthy v)):=by intro _;rfl):PT X e (tB t):=by intro pins s σ H Q I f;refine isTrue_plain (bV (h pins s σ H _ I f) λv s1⟨x,H1,I1,r1,q1⟩=>?_) (he _);obtain⟨d,rfl,q⟩:=q1;cases r1;exact wpAny_truthy_bool ⟨H1,I1,q⟩
variable{tA tB':TT}{rest:List Expr}
def aet(t u:TT):TT:=λσ H Q=>t σ H λc e=>if c=true then u σ e Q else Q false e
def tOr(t u:TT):TT:=λσ H Q=>t σ H λc e=>if c=true then Q true e else u σ e Q
def adl(t:TT):TT:=λσ H Q=>t σ H λc e=>Q (!c) e
theorem Og(f:PT X a tA):PW X (.BoolOp .And [a] pos) tA:=by intro wh pins s σ H Q I h;refine isTrue_and (bV (f pins s σ H Q I h) λc s1 e=>?_);cases c with|true=>exact isTrue_and_nil e|false=>exact e
theorem Gz(f:PT X a tA):PW X (.BoolOp .Or [a] pos) tA:=by intro wh pins s σ H Q I h;refine isTrue_or (bV (f pins s σ H Q I h) λc s1 e=>?_);cases c with|false=>exact isTrue_or_nil e|true=>exact e
theorem Q9(f:PT X a tA)(g:PW X (.BoolOp .And (b::rest) pos) tB'):PW X (.BoolOp .And (a::b::rest) pos) (aet tA tB'):=by intro wh pins s σ H Q I h;refine isTrue_and (bV (f pins s σ H _ I h) λc s1⟨e,I1,q1⟩=>?_);cases c with|true=>exact g wh pins s1 σ e Q I1 q1|false=>exact⟨e,I1,q1⟩
theorem Qf(f:PT X a tA)(g:PW X (.BoolOp .Or (b::rest) pos) tB'):PW X (.BoolOp .Or (a::b::rest) pos) (tOr tA tB'):=by intro wh pins s σ H Q I h;refine isTrue_or (bV (f pins s σ H _ I h) λc s1⟨e,I1,q1⟩=>?_);cases c with|true=>exact⟨e,I1,q1⟩|false=>exact g wh pins s1 σ e Q I1 q1
theorem Jv(e:PT X a tA):PT X (.UnaryOp .Not a pos) (adl tA):=by intro pins s σ H Q I h;exact isTrue_not (e pins s σ H (λc f=>Q (!c) f) I h)
def YZ(ta tb:TE):TE:=λσ H Q=>ta σ H λx e=>∃c,x=.bl c/\if c=true then tb σ e Q else Q (.bl false) e
def Yg(ta:TE):TE:=λσ H Q=>ta σ H λx e=>∃c,x=.bl c/\Q (.bl (!c)) e
theorem Vn{op}{t:TE}(h:PE X a t):PE X (.BoolOp op [a] pos) t:=λpins s σ H Q I c=>BoolOp_one (h pins s σ H Q I c)
theorem Ue(f:PE X a ta)(g:PE X (.BoolOp .And (b::rest) pos) tb):PE X (.BoolOp .And (a::b::rest) pos) (YZ ta tb):=by intro pins s σ H Q I h;refine BoolOp_and (bV (f pins s σ H _ I h) λv s1⟨x,H1,I1,r1,e⟩=>?_);obtain⟨c,rfl,e⟩:=e;cases r1;refine wpAny_truthy_bool ?_;cases c with|true=>exact g pins s1 σ H1 Q I1 e|false=>exact⟨.bl false,H1,I1,rfl,e⟩
theorem Jh(f:PE X a ta):PE X (.UnaryOp .Not a pos) (Yg ta):=by intro pins s σ H Q I h;refine UnaryOp_ (bV (f pins s σ H _ I h) λv s1⟨x,H1,I1,r1,e⟩=>?_);obtain⟨c,rfl,e⟩:=e;cases r1;exact not_of (wpAny_truthy_bool ⟨.bl (!c),H1,I1,rfl,e⟩)
def tIf(t:TT)(ta tb:TE):TE:=λσ H Q=>t σ H λc e=>if c=true then ta σ e Q else tb σ e Q
theorem Jc{c:Expr}(hc:PT X c tA)(f:PE X a ta)(g:PE X b tb):PE X (.IfExp c a b pos) (tIf tA ta tb):=by intro pins s σ H Q I h;refine wpAny_IfExp (bV (hc pins s σ H _ I h) λd s1⟨e,I1,q1⟩=>?_);cases d with|true=>exact f pins s1 σ e Q I1 q1|false=>exact g pins s1 σ e Q I1 q1
end
def gJ(K:PySem.W.Frag)(H:Hp)(a:Addr)(xs:List V):Prop:=Rd H a (.lst xs)\/∃(o:Obj)(b:Array Value)(n:Nat),K.lookup a=some o/\o.cls=.type "list"/\o.dict=none/\o.data=.seq b n/\b.size<=sizeLine/\Vals xs b.toList
def lR(K:PySem.W.Frag)(H:Hp)(a:Addr)(xs:List V):Prop:=Rd H a (.tup xs)\/∃(o:Obj)(b:Array Value)(n:Nat),K.lookup a=some o/\o.cls=.type "tuple"/\o.data=.seq b n/\b.size<=sizeLine/\Vals xs b.toList
noncomputable def aeh:Value->Option V|.none=>some .non|.bool b=>some (.bl b)|.int i _=>some (.int i)|.str x _=>some (.str x)|.bytes b _=>some (.byt b)|.float b _=>some (.flt b)|.ref a=>some (.ref a)|.type n=>some (.ty n)|_=>none
theorem RelV.abs{x:V}{u:Value}(r:RelV x u):aeh u=some x:=by cases x with|non=>cases r;rfl|bl _=>cases r;rfl|int _=>obtain⟨t,rfl⟩:=r;rfl|str _=>obtain⟨t,rfl⟩:=r;rfl|byt _=>obtain⟨t,rfl⟩:=r;rfl|flt _=>obtain⟨t,rfl⟩:=r;rfl|ref _=>cases r;rfl|ty _=>cases r;rfl
theorem RelV.inj{x y:V}{u:Value}(r:RelV x u)(q:RelV y u):x=y:=Option.some.inj (r.abs.symm.trans q.abs)
theorem Vals.inj:∀{xs ys:List V}{us:List Value},Vals xs us->Vals ys us->xs=ys|_,_,_,.nil,.nil=>rfl|_,_,_,.cons r t,.cons a t'=>by rw[r.inj a,Vals.inj t t']
section
variable{X:Cx}{pins:List (Addr×Obj)}{σ:St}{H:Hp}{s:Shared}{a:Addr}{xs ys:List V}
theorem gJ.of(h:H a=some (.lst xs)):gJ K H a xs:=.inl (.inl h)
theorem lR.of(h:H a=some (.tup xs)):lR K H a xs:=.inl (.inl h)
theorem Inv.list(I:Inv X pins σ H s)(h:gJ X.K H a xs):∃b:List Value,Vals xs b/\PlainL s.heap a b.toArray/\xs.length<=sizeLine:=by
 rcases h with h|⟨o,b,n,c,hc,hd,hs,hz,r⟩;.obtain⟨z,b,n,r,e⟩:=h.ok I.hok;exact⟨b,r,⟨_,n,e,rfl,rfl,rfl⟩,z⟩
 .refine⟨b.toList,r,⟨o,n,I.MP a o c,hc,hd,by simpa using hs⟩,?_⟩;have e:=r.length;simp only[length_toList]at e;omega
theorem Inv.tuple(I:Inv X pins σ H s)(h:lR X.K H a xs):∃b:List Value,Vals xs b/\IsTup s.heap a b.toArray/\xs.length<=sizeLine:=by
 rcases h with h|⟨o,b,n,c,hc,hs,hz,r⟩;.obtain⟨z,b,r,p⟩:=h.ok I.hok;exact⟨b,r,p,z⟩
 .refine⟨b.toList,r,⟨o,I.MP a o c,hc,n,by simpa using hs⟩,?_⟩;have e:=r.length;simp only[length_toList]at e;omega
theorem Inv.yq(I:Inv X pins σ H s)(h:gJ X.K H a xs)(h':gJ X.K H a ys):xs=ys:=by
 obtain⟨b,r,⟨o,n,e,_,_,d⟩,_⟩:=I.list h;obtain⟨its',f,⟨g,j,c,_,_,d'⟩,_⟩:=I.list h';rw[e]at c;cases c;rw[d]at d';injection d' with d1 _;have:b=its':=by simpa using congrArg toList d1
 subst this;exact r.inj f
theorem Inv.uN(I:Inv X pins σ H s)(h:lR X.K H a xs)(h':lR X.K H a ys):xs=ys:=by
 obtain⟨b,r,⟨o,e,_,n,d⟩,_⟩:=I.tuple h;obtain⟨its',f,⟨g,c,_,j,d'⟩,_⟩:=I.tuple h';rw[e]at c;cases c;rw[d]at d';injection d' with d1 _;have:b=its':=by simpa using congrArg toList d1
 subst this;exact r.inj f
end
noncomputable abbrev Cx.wish(X:Cx)(E:Value->Shared->Prop):Cx:={X with xe:=E}
noncomputable abbrev Cx.YF(X:Cx):Cx:=X.wish λ_ _=>False
theorem Cx.Ok.wish{X:Cx}(ok:X.Ok)(E:Value->Shared->Prop):(X.wish E).Ok:=⟨ok.mod,ok.kind,ok.glob,ok.blt,ok.above,ok.inj,ok.has,ok.cab,ok.hd,ok.frames,ok.OJ,ok.Vy,ok.bs,ok.Gb,ok.ue,ok.wX,ok.lO,ok.Ks⟩
theorem Cx.Ok.j7{E:Value->Shared->Prop}(ok:(X.wish E).Ok):X.Ok:=⟨ok.mod,ok.kind,ok.glob,ok.blt,ok.above,ok.inj,ok.has,ok.cab,ok.hd,ok.frames,ok.OJ,ok.Vy,ok.bs,ok.Gb,ok.ue,ok.wX,ok.lO,ok.Ks⟩
section
variable{X:Cx}{pins:List (Addr×Obj)}{σ:St}{H:Hp}{s:Shared}{E:Value->Shared->Prop}
theorem Inv.wish(I:Inv X pins σ H s)(E:Value->Shared->Prop):Inv (X.wish E) pins σ H s:=⟨I.ok.wish E,I.os,I.bare,I.base,I.loc,I.cell,I.free,I.fV,I.pin,I.hok,I.len⟩
theorem Inv.j7(I:Inv (X.wish E) pins σ H s):Inv X pins σ H s:=⟨I.ok.j7,I.os,I.bare,I.base,I.loc,I.cell,I.free,I.fV,I.pin,I.hok,I.len⟩
theorem SP.j7{D:Ends}{f:Flow}{b:Shared}(h:SP (X.wish E) pins D f b):SP X pins D f b:=by cases f with|next=>obtain⟨σ',a,I,q⟩:=h;exact⟨σ',a,I.j7,q⟩|brk=>obtain⟨σ',a,I,q⟩:=h;exact⟨σ',a,I.j7,q⟩|cont=>obtain⟨σ',a,I,q⟩:=h;exact⟨σ',a,I.j7,q⟩|ret u=>obtain⟨v,σ',a,I,r,q⟩:=h;exact⟨v,σ',a,I.j7,r,q⟩
theorem pO.YF{st:List Stmt}{t:TS}(h:pO X.YF st t):pO X st t:=λpins s σ H D I a=>wpAny_mono (h pins s σ H D (I.wish _) a) (λ_ _ q=>q.j7) λ_ _ z=>False.elim z
end
section
variable{X:Cx}{st:Stmt}{rest:List Stmt}{t u:TS}{e:Expr}{te:TE}{pos:Pos}
def ZX:TS:=λD σ H=>D.nx σ H
def ac1(t u:TS):TS:=λD σ H=>t {D with nx:=u D} σ H
theorem qj:pO X [] ZX:=λ_ _ σ H _ I h=>wpAny_execs_nil ⟨σ,H,I,h⟩
theorem jf(h1:PS X st t)(a:pO X rest u):pO X (st::rest) (ac1 t u):=by intro pins s σ H D I h;refine wpAny_execs_cons (bV (h1 pins s σ H {D with nx:=u D} I h) λf s1 q=>?_);cases f with|next=>obtain⟨σ',b,c,q⟩:=q;exact a pins s1 σ' b D c q|ret v=>exact q|brk=>exact q|cont=>exact q
theorem BW(h1:PS X st t):pO X [st] t:=by intro pins s σ H D I h;refine wpAny_execs_cons (bV (h1 pins s σ H D I h) λf s1 q=>?_);cases f with|next=>exact wpAny_execs_nil q|ret v=>exact q|brk=>exact q|cont=>exact q
theorem Inv.quiet{σ:St}(I:Inv X pins σ H s):interactive X.env=false:=by simp[interactive,I.ok.kind]
def XS(te:TE):TS:=λD σ H=>te σ H λ_ a=>D.nx σ a
theorem Bx(he:PE X e te)(hs:swapsWith e none pos.line X.env=pure false:=by rfl):PS X (.Expr e pos) (XS te):=by intro pins s σ H D I h;exact wpAny_Expr_any (bV (he pins s σ H _ I h) λv s1⟨x,H1,I1,r1,q1⟩=>⟨σ,H1,I1,q1⟩) I.quiet hs
def aev(te:TE):TS:=λD σ H=>te σ H D.rt
theorem vA(he:PE X e te):PS X (.Return (some e) pos) (aev te):=by intro pins s σ H D I h;exact wpAny_Return_some (bV (he pins s σ H _ I h) λv s1⟨x,H1,I1,r1,q1⟩=>⟨x,σ,H1,I1,r1,q1⟩)
def adf(c:TT)(t u:TS):TS:=λD σ H=>c σ H λb a=>if b=true then t D σ a else u D σ a
theorem CG{c:Expr}{a b:List Stmt}{f:TT}(hc:PT X c f)(j:pO X a t)(k:pO X b u):PS X (.If c a b pos) (adf f t u):=by intro pins s σ H D I h;refine wpAny_If (bV (hc pins s σ H _ I h) λd s1⟨g,I1,q1⟩=>?_);cases d with|true=>exact j pins s1 σ g D I1 q1|false=>exact k pins s1 σ g D I1 q1
def Gy:TS:=λ_ _ _=>False
theorem yr:PS X st Gy:=λ_ _ _ _ _ _ h=>h.elim
theorem Ex{sts:List Stmt}:pO X sts Gy:=λ_ _ _ _ _ _ h=>h.elim
end
abbrev TG:=V->St->Hp->(St->Hp->Prop)->Prop
abbrev Gm:=List V->St->Hp->(St->Hp->Prop)->Prop
def PG(X:Cx)(a:Expr)(t:TG):Prop:=∀(pins:List (Addr × Obj))(s:Shared)(σ:St)(H:Hp)(v:V)(u:Value)(Q:St->Hp->Prop),Inv X pins σ H s->RelV v u->t v σ H Q->wpAny (model X.prog X.w) X.A (assign a X.env u) (λ_ c=>∃σ' b,Inv X pins σ' b c/\Q σ' b) X.xe s
def PGs(X:Cx)(b:List Expr)(t:Gm):Prop:=∀(pins:List (Addr × Obj))(s:Shared)(σ:St)(H:Hp)(vs:List V)(us:List Value)(Q:St->Hp->Prop),Inv X pins σ H s->Vals vs us->t vs σ H Q->wpAny (model X.prog X.w) X.A (assignInOrder ((assignEach b X.env).map (·.2)) us) (λ_ c=>∃σ' a,Inv X pins σ' a c/\Q σ' a) X.xe s
abbrev JX:=V->V->V->Hp->(Hp->Prop)->Prop
def Rx(X:Cx)(t:JX):Prop:=∀(pins:List (Addr × Obj))(s:Shared)(σ:St)(H:Hp)(o i v:V)(a iv u:Value)(Q:Hp->Prop),Inv X pins σ H s->RelV o a->RelV i iv->RelV v u->t o i v H Q->wpAny (model X.prog X.w) X.A (setItem a iv u) (λ_ c=>∃b,Inv X pins σ b c/\Q b) X.xe s
abbrev WD:=V->V->Hp->VK->Prop
def QM(X:Cx)(op:Operator)(t:WD):Prop:=∀(pins:List (Addr × Obj))(s:Shared)(σ:St)(H:Hp)(x y:V)(v u:Value)(Q:VK),Inv X pins σ H s->RelV x v->RelV y u->t x y H Q->wpAny (model X.prog X.w) X.A (inplaceOp op v u) (EP X pins σ Q) X.xe s
section
variable{X:Cx}{pos:Pos}
def j8(i:Nat):TG:=λv σ H Q=>Q (σ.set i (some v)) H
theorem aD{x:Str}(a:X.N.Nodup)(hi:X.N[i]?=some x)(b:Loc X.env.scope x)(c:X.fn x=true\/X.env.scope.names.lookup x=some .local:=by first|exact .inl rfl|exact .inr rfl|assumption):PG X (.Name x pos) (j8 i):=by intro pins s σ H v u Q I r h;exact wpAny_assign_Name (je I a hi b r (λf e=>⟨_,H,e,h⟩) c)
def Ux:Gm:=λvs σ H Q=>vs=[]/\Q σ H
def JH(t:TG)(u:Gm):Gm:=λvs σ H Q=>∃v r,vs=v::r/\t v σ H λσ' a=>u r σ' a Q
theorem cu:PGs X [] Ux:=by intro pins s σ H vs us Q I r h;obtain⟨e,h⟩:=h;subst e;cases r;exact assignInOrder_nil ⟨σ,H,I,h⟩
theorem aH{e:Expr}{es:List Expr}{t:TG}{u:Gm}(h1:PG X e t)(b:PGs X es u)(hs:(assignEach (e::es) X.env).map (·.2)=assign e X.env::(assignEach es X.env).map (·.2):=by rfl):PGs X (e::es) (JH t u):=by intro pins s σ H vs us Q I r h;obtain⟨v,g,c,h⟩:=h;subst c;cases r with|cons r f=>rw[hs];refine assignInOrder_cons (bV (h1 pins s σ H _ _ _ I r h) λ_ s1⟨a,H1,I1,q1⟩=>?_);exact b pins s1 a H1 _ _ Q I1 f q1
def Th(K:PySem.W.Frag)(n:Nat)(t:Gm):TG:=λv σ H Q=>∃a xs,v=.ref a/\lR K H a xs/\xs.length=n/\t xs σ H Q
theorem dC{es:List Expr}{k:Nat}{t:Gm}{n:Nat}(hc:X.calm=true)(h:PGs X es t)(g:(assignEach es X.env).length=n:=by rfl)(hst:(assignEach es X.env).findIdx? (·.1)=none:=by rfl):PG X (.Tuple es k pos) (Th X.K n t):=by intro pins s σ H v u Q I r c;obtain⟨a,xs,j,l,m,c⟩:=c;subst j;cases r;obtain⟨p,f,ht,hz⟩:=I.tuple l;refine assign_Tuple_tuple (I.ok.hd hc) ht (by simp[g,<-m,f.length]) hst λh' q=>?_;have x:Inv X pins σ H {s with heap:=h'}:=I.kept (t':=s.toks) λb o e=>q b o (ne_of_lt (lt_size e)) e;exact h pins _ σ H xs _ Q x (by simpa using f) c
def adV(to a:TE)(t:JX):TG:=λv σ H Q=>to σ H λo b=>a σ b λi c=>t o i v c λe=>Q σ e
theorem Rg{o i:Expr}{to b:TE}{t:JX}(ho:PE X o to)(hi:PE X i b)(hs:Rx X t)(c:∀ v,assign (.Subscript o i pos) X.env v=(do
  let a<-holding [v] (eval o X.env)let iv<-holding [v,a] (eval i X.env)standAt pos
  holding [v,a,iv] (setItem a iv v)release [v,a,iv] []):=by intro _;rfl):PG X (.Subscript o i pos) (adV to b t):=by intro pins s σ H v u Q I r h;rw[c];refine wpAny_bind (wpAny_holding (bV (ho pins s σ H _ I h) λa s1⟨x,H1,I1,r1,q1⟩=>?_));refine wpAny_bind (wpAny_holding (bV (hi pins s1 σ H1 _ I1 q1) λiv s2⟨y,H2,I2,r2,q2⟩=>?_));refine wpAny_bind (wpAny_standAt (wpAny_bind (wpAny_holding (bV (hs pins s2 σ H2 x y v a iv u _ I2 r1 r2 r q2) λ_ s3⟨e,I3,q3⟩=>?_))));exact wpAny_release ⟨σ,e,I3,q3⟩
def Ve(te:TE)(g:TG):TS:=λD σ H=>te σ H λx a=>g x σ a D.nx
theorem RK{e:Expr}{g:TG}(he:PE X e te)(a:PG X tg g)(hs:swapsWithSole [tg] e pos.line X.env=pure false:=by rfl)(b:swappedStores [tg] e X.env=pure none:=by rfl)(h1:(assignEach [tg] X.env).map (·.2)=[assign tg X.env]:=by rfl):PS X (.Assign [tg] e pos) (Ve te g):=by intro pins s σ H D I h;refine wpAny_Assign_stores (bV (he pins s σ H _ I h) λv s1⟨x,H1,I1,r1,q1⟩=>?_) hs b;rw[h1];exact bV (a pins s1 σ H1 x v _ I1 r1 q1) λ_ s2 q=>q
theorem oG{x:Str}{e:Expr}{a:Pos}(b:X.N.Nodup)(hi:X.N[i]?=some x)(c:Loc X.env.scope x)(he:PE X e te)(hs:swapsWith e (some (.Name x a)) pos.line X.env=pure false:=by rfl)(f:X.fn x=true\/X.env.scope.names.lookup x=some .local:=by first|exact .inl rfl|exact .inr rfl|assumption):PS X (.Assign [.Name x a] e pos) (Ve te (j8 i)):=by intro pins s σ H D I h;refine wpAny_Assign_Name (bV (he pins s σ H _ I h) λv s1⟨y,H1,I1,r1,q1⟩=>?_) hs;exact je I1 b hi c r1 (λs2 g=>⟨_,H1,g,q1⟩) f
def aex(i j:Nat)(a:TA):TS:=λD σ H=>a σ H λvs b=>∃v w,vs=[v,w]/\D.nx ((σ.set i (some v)).set j (some w)) b
theorem Vx{j:Nat}{x y:Str}{a b:Expr}{r:TA}{g k pt:Pos}{kt k2 Vz}(hc:X.calm=true)(t:X.N.Nodup)(hi:X.N[i]?=some x)(C:X.N[j]?=some y)(l:i≠j)(u:X.env.scope.names.lookup x=some .local)(z:X.env.scope.names.lookup y=some .local)(E:PA X [a,b] r)(G:swappedStores [.Tuple [.Name x g,.Name y k] kt pt] (.Tuple [a,b] k2 Vz) X.env=pure (some [x,y]))(hs:swapsWithSole [.Tuple [.Name x g,.Name y k] kt pt] (.Tuple [a,b] k2 Vz) pos.line X.env=pure false:=by rfl):PS X (.Assign [.Tuple [.Name x g,.Name y k] kt pt] (.Tuple [a,b] k2 Vz) pos) (aex i j r):=by
 intro pins s σ H D I h;rw[exec_Assign_arm];refine wpAny_bind (wpAny_standAt ?_);rw[hs];refine wpAny_bind (wpAny_pure ?_);rw[if_neg (by decide)];refine wpAny_bind (Tuple_ (bV (E _ pins s σ H _ I h) λus s1⟨vs,H1,I1,r1,m⟩=>?_));obtain⟨v,w,J,m⟩:=m;subst J;obtain⟨c,f,rfl,L,O⟩:∃c f,us=[c,f]/\RelV v c/\RelV w f:=by cases r1 with|cons p q=>cases q with|cons p' Q=>cases Q;exact⟨_,_,rfl,p,p'⟩
 refine wpAny_newObj_type ?_ (by show 2<=sizeLine;decide);have U:Inv X pins σ H1 {s1 with heap:=s1.heap.push {cls:=.type "tuple",data:=.seq [c,f].toArray}}:=I1.kept (t':=s1.toks) λb o e=>iK e;rw[G];refine wpAny_bind (wpAny_pure ?_);show wpAny (model X.prog X.w) X.A (do rule "assign.swapped-stores";let items<-unpackItems (.ref s1.heap.objs.size) 2 none;assignInOrder [λv=>bindName X.env y v,λv=>bindName X.env x v] items.reverse;pure Flow.next) _ _ _;refine wpAny_bind (wpAny_rule (wpAny_bind (unpackItems_tuple (items:=#[c,f]) (I.ok.hd hc) (IsTup.new s1.heap _) λh' n=>?_)));have W:=U.kept (h':=h') (t':=s1.toks) λb o e=>n b o (ne_of_lt (lt_size e)) e;show wpAny _ _ (assignInOrder [λv=>bindName X.env y v,λv=>bindName X.env x v] [f,c]>>=λ_=>pure Flow.next) _ _ _;refine wpAny_bind (assignInOrder_cons (wpAny_bindName (je W t C (.inl z) O (λs2 Y=>?_) (.inr z))));refine assignInOrder_cons (wpAny_bindName (je Y t hi (.inl u) L (λs3 B=>assignInOrder_nil (wpAny_pure ?_)) (.inr u)));rw[List.set_comm _ _ (Ne.symm l)]at B;exact⟨_,H1,B,m⟩
def aeb(i:Nat)(te:TE)(a:WD):TS:=λD σ H=>∃x,σ[i]?=some (some x)/\te σ H λy b=>a x y b λz c=>D.nx (σ.set i (some z)) c
theorem Uo{x:Str}{e:Expr}{op:Operator}{o:WD}{b:Pos}(p:X.N.Nodup)(hi:X.N[i]?=some x)(j:Loc X.env.scope x)(he:PE X e te)(ho:QM X op o)(q:X.fn x=true\/X.env.scope.names.lookup x=some .local:=by first|exact .inl rfl|exact .inr rfl|assumption):PS X (.AugAssign (.Name x b) op e pos) (aeb i te o):=by
 intro pins s σ H D I h;obtain⟨v,t,h⟩:=h;obtain⟨m,B,C⟩:=I.loc;have n:uX X.env.scope x:=by rcases j with k|k;exact .inl k;exact .inr (.inl k)
 obtain⟨u,r,l⟩:=C i x v hi t n;refine wpAny_AugAssign_Name ?_;have go:wpAny (model X.prog X.w) X.A (eval e X.env) (λw f=>wpAny (model X.prog X.w) X.A (inplaceOp op u w) (λr g=>wpAny (model X.prog X.w) X.A (storeName X.env x r) (λ_=>SP X pins D .next) X.xe g) X.xe f) X.xe s:=by refine bV (he pins s σ H _ I h) λw s1⟨y,H1,I1,r1,q1⟩=>?_;refine bV (ho pins s1 σ H1 v y u w _ I1 r r1 q1) λz s2⟨J,H2,I2,r2,q2⟩=>?_;exact je I2 p hi j r2 (λs3 E=>⟨_,H2,E,q2⟩) q
 rcases l with⟨hk,G⟩|⟨hk,c,hc,a⟩;.exact wpAny_loadName_local I.ok.kind hk B G go
 . rcases hk with hk|hk;.exact wpAny_loadName_cell I.ok.kind hk hc a go
   . rcases j with k|k;.have:X.env.scope.names.lookup x=some .free:=hk;rw[k]at this;cases this
     .have:X.env.scope.names.lookup x=some .free:=hk;rw[k]at this;cases this
def Yh(to b te:TE)(c:V->V->Hp->VK->Prop)(a:WD)(e:JX):TS:=λD σ H=>to σ H λo f=>b σ f λi g=>c o i g λx j=>te σ j λy k=>a x y k λz l=>e o i z l λm=>D.nx σ m
def Zr(X:Cx)(t:V->V->Hp->VK->Prop):Prop:=∀(pins:List (Addr × Obj))(s:Shared)(σ:St)(H:Hp)(o i:V)(a iv:Value)(Q:VK),Inv X pins σ H s->RelV o a->RelV i iv->t o i H Q->wpAny (model X.prog X.w) X.A (getItem a iv) (EP X pins σ Q) X.xe s
theorem Mh{o i e:Expr}{to g:TE}{j:V->V->Hp->VK->Prop}{b:WD}{k:JX}{op:Operator}{c:Pos}(ho:PE X o to)(hi:PE X i g)(n:Zr X j)(he:PE X e te)(p:QM X op b)(hs:Rx X k)(q:∀a iv new,augStore i a iv new=(do holding [new,a,iv] (setItem a iv new);release [new,a,iv] [];pure .next):=by intros;rfl):PS X (.AugAssign (.Subscript o i c) op e pos) (Yh to g te j b k):=by intro pins s σ H D I h;refine wpAny_AugAssign_SubscriptAny (bV (ho pins s σ H _ I h) λa s1⟨l,H1,I1,r1,q1⟩=>?_) q;refine bV (hi pins s1 σ H1 _ I1 q1) λiv s2⟨m,H2,I2,r2,q2⟩=>?_;refine bV (n pins s2 σ H2 l m a iv _ I2 r1 r2 q2) λf s3⟨r,H3,I3,r3,q3⟩=>?_;refine bV (he pins s3 σ H3 _ I3 q3) λv s4⟨t,H4,I4,r4,q4⟩=>?_;refine bV (p pins s4 σ H4 r t f v _ I4 r3 r4 q4) λnew s5⟨u,H5,I5,r5,q5⟩=>?_;exact bV (hs pins s5 σ H5 l m u a iv new _ I5 r1 r2 r5 q5) λ_ s6⟨x,I6,q6⟩=>⟨σ,x,I6,q6⟩
def WM(f:Int->Int->Int):WD:=λx y H Q=>∃i j,x=.int i/\y=.int j/\Q (.int (f i j)) H
theorem UJ:QM X .Add (WM λi j=>i+j):=by intro pins s σ H x y v u Q I r1 a h;obtain⟨i,j,b,c,q⟩:=h;subst b;subst c;obtain⟨t,rfl⟩:=r1;obtain⟨t',rfl⟩:=a;exact iadd_int ⟨.int _,H,I.tok _,⟨_,rfl⟩,q⟩
theorem Ur:QM X .Sub (WM λi j=>i-j):=by intro pins s σ H x y v u Q I r1 a h;obtain⟨i,j,b,c,q⟩:=h;subst b;subst c;obtain⟨t,rfl⟩:=r1;obtain⟨t',rfl⟩:=a;exact isub_int ⟨.int _,H,I.tok _,⟨_,rfl⟩,q⟩
end
section
variable{X:Cx}{pos:Pos}
def Q8(c:TT)(tb:TS):TS:=λD σ H=>∃W:Nat->St->Hp->Prop,(∃m,W m σ H)/\∀m σ H,W m σ H->c σ H λb a=>if b=true then ∃N:St->Hp->Prop,(∀σ' e,N σ' e->∃f,f<m/\W f σ' e)/\tb {D with nx:=N,ct:=N,bk:=D.nx} σ a else D.nx σ a
theorem Hk{c:Expr}{body:List Stmt}{t:TT}{tb:TS}(u:PassesOwn (model X.prog X.w) X.A X.env X.xe)(hc:PT X c t)(C:pO X body tb):PS X (.While c body [] pos) (Q8 t tb):=by intro pins s σ H D I h;obtain⟨W,⟨m0,E⟩,g⟩:=h;refine wpAny_While (codeAny_whileLoop (λn G=>∃σ' x,Inv X pins σ' x G/\W n σ' x) ?_ m0 ⟨σ,H,I,E⟩);rintro n s1⟨e,y,J,L⟩;refine wpAny_passesOwn u (bV (hc pins s1 e y _ J (g n e y L)) λb s2⟨z,I2,k⟩=>?_);cases b with
 |true=>obtain⟨N,B,k⟩:=k;rw[if_pos rfl];refine wpAny_passesOwn u (bV (C pins s2 e z _ I2 k) λf s3 l=>?_);cases f with|next=>obtain⟨a,j,m,o⟩:=l;obtain⟨p,q,r⟩:=B a j o;exact⟨p,q,a,j,m,r⟩|cont=>obtain⟨a,j,m,o⟩:=l;obtain⟨p,q,r⟩:=B a j o;exact⟨p,q,a,j,m,r⟩|brk=>exact l|ret v=>exact l
 |false=>rw[if_neg Bool.false_ne_true];exact wpAny_execs_nil ⟨e,z,I2,k⟩
end
structure It where
 go:Nat->Hp->Prop
 O3:Nat->Hp->V->Hp->Prop
 stop:Nat->Hp->Prop
def sG(X:Cx)(pins:List (Addr×Obj))(H:Hp)(b:Addr):Prop:=H b=none/\b≠X.env.locals/\b∉X.fs/\(b∈X.ex\/X.s₀.heap.objs.size<=b)/\(∀x c,X.env.cells.lookup x=some c->c≠b)/\∀p∈X.pn++pins,p.1≠b
theorem Inv.GR{σ:St}{f:Hp}{b:Addr}(I:Inv X pins σ H s)(a:s.heap.objs.size<=b)(g:f b=none):sG X pins f b:=by
 refine⟨g,Nat.ne_of_gt (lt_of_lt_of_le I.lt a),I.aew a,.inr (le_trans I.sz a),λx c e z=>?_,λp j z=>?_⟩;.obtain⟨v,q⟩:=I.cell x c e;exact absurd (lt_of_lt_of_le q.lt (by rw[z];exact a)) (lt_irrefl _)
 .exact absurd (lt_of_lt_of_le (lt_size (I.pin p j).1) (by rw[z];exact a)) (lt_irrefl _)
structure Turn(P:Program)(w:World)(K:PySem.W.Frag)(tg:Expr)(J:It)(fp:List Addr)(it:Addr)(tn:Nat->Heap->Prop):Prop where
 mem:it∈fp
 obj:∀i h,tn i h->∀b∈fp,∃o,h.get? b=some o/\∀v,o.data≠.cell v
 keep:∀i h h',tn i h->(∀b∈fp,∀o,h.get? b=some o->h'.get? b=some o)->tn i h'
 item:∀(X:Cx),X.prog=P->X.w=w->X.K=K->X.calm=true->∀(i:Nat)(pins:List (Addr×Obj))(s:Shared)(σ:St)(H:Hp)(E:Value->Shared->Prop),Inv X pins σ H s->(∀b∈fp,sG X pins H b)->tn i s.heap->J.go i H->wpAny (model P w) X.A (pyNext (.ref it)) (λr s1=>∃u,r=some u/\wpAny (model P w) X.A (letOwnedTupleGo tg (.ref it) u) (λ_ s2=>∃x H',Inv X pins σ H' s2/\RelV x u/\J.O3 i H x H'/\tn (i+1) s2.heap/\∀b∈fp,H' b=none) E s1) E s
 done:∀(X:Cx),X.prog=P->X.w=w->X.K=K->X.calm=true->∀(i:Nat)(pins:List (Addr×Obj))(s:Shared)(σ:St)(H:Hp)(E:Value->Shared->Prop),Inv X pins σ H s->(∀b∈fp,sG X pins H b)->tn i s.heap->J.stop i H->wpAny (model P w) X.A (pyNext (.ref it)) (λr s1=>r=none/\Inv X pins σ H s1) E s
 self:∀(A:Around)(i:Nat)(s:Shared)(Q:Value->Shared->Prop)(E:Value->Shared->Prop),tn i s.heap->Q (.ref it) s->wpAny (model P w) A (pyIter (.ref it)) Q E s
abbrev TI:=St->Hp->(It->Hp->Prop)->Prop
def PIE(X:Cx)(pins:List (Addr×Obj))(σ:St)(tg:Expr)(R:It->Hp->Prop)(a:Value)(s2:Shared):Prop:=∃(it:Addr)(e:List Addr)(f:Nat->Heap->Prop)(J:It)(c:Hp),a=.ref it/\Inv X pins σ c s2/\Turn X.prog X.w X.K tg J e it f/\f 0 s2.heap/\(∀b∈e,sG X pins c b)/\R J c
def PI(X:Cx)(tg iter:Expr)(a:TI):Prop:=∀(pins:List (Addr × Obj))(s:Shared)(σ:St)(H:Hp)(R:It->Hp->Prop),Inv X pins σ H s->a σ H R->wpAny (model X.prog X.w) X.A (eval iter X.env) (λv s1=>wpAny (model X.prog X.w) X.A (pyIter v) (PIE X pins σ tg R) X.xe s1) X.xe s
theorem BL{E:Value->Shared->Prop}{it:Addr}{u:Value}{o:Obj}{n:String}{vs:Array Value}{Q:Unit->Shared->Prop}(ho:s.heap.get? it=some o)(hc:o.cls=.type n)(hd:o.data=.fields vs)(b:["enumerate","zip","dict_itemiterator","dict_reverseitemiterator","odict_iterator","itertools.zip_longest","itertools.pairwise"].contains n=false)(a:Q () s):wpAny M A (letOwnedTupleGo tg (.ref it) u) Q E s:=by unfold letOwnedTupleGo;cases tg<;>first|exact wpAny_pure a|(cases u<;>first|exact wpAny_pure a|(refine wpAny_bind (wpAny_load ho ?_);rw[hc,hd];show wpAny M A (if(["enumerate","zip","dict_itemiterator","dict_reverseitemiterator","odict_iterator","itertools.zip_longest","itertools.pairwise"].contains n&&vs[0]?==some (rawInt _))=true then _ else _) Q E s;rw[if_neg (by intro h;rw[b,Bool.false_and]at h;cases h)];exact wpAny_pure a))
noncomputable def Uj(K:PySem.W.Frag)(a:Addr):It:=⟨λi H=>∃xs x,gJ K H a xs/\xs[i]?=some x,λi H x b=>b=H/\∀xs,gJ K H a xs->xs[i]?=some x,λi H=>∃xs,gJ K H a xs/\xs.length<=i⟩
noncomputable def WR(K:PySem.W.Frag)(a:Addr):It:=⟨λi H=>∃xs x,lR K H a xs/\xs[i]?=some x,λi H x b=>b=H/\∀xs,lR K H a xs->xs[i]?=some x,λi H=>∃xs,lR K H a xs/\xs.length<=i⟩
noncomputable def Wm(lo:Int)(n:Nat):It:=⟨λi _=>i<n,λi H x a=>a=H/\x=.int (lo+i),λi _=>n<=i⟩
theorem FW{P:Program}(a it:Addr):Turn P w K tg (Uj K a) [it] it (λi h=>h.IsListIter it a i)where
 mem:=by simp
 obj:=λi h st b f=>by
  have e:b=it:=by simpa using f
  subst e;obtain⟨o,e,c,d⟩:=st;exact⟨o,e,λv z=>by rw[d]at z;cases z⟩
 keep:=λi h h' st k=>st.at λo e=>k it (by simp) o e;item:=by intro X m n q hc i pins s σ H E I j st r;subst m n q;obtain⟨xs,x,l,t⟩:=r;obtain⟨y,B,p,hz⟩:=I.list l;obtain⟨u,C,G⟩:=B.get t;obtain⟨f0,f1,f2,f3,f4,f5⟩:=j it (by simp);refine wpAny_pyNext_list_item st p.isList (x:=u) (by simpa using C) λh' g J=>?_;have L:Inv X pins σ H {s with heap:=h'}:=I.turned (t':=s.toks) (λb o f e=>(J.2 b f).trans e) f0 f1 f3 f4 f5;obtain⟨o,e,c,d⟩:=id g;exact⟨u,rfl,BL (s:={s with heap:=h'}) e c d (by decide) ⟨x,H,L,G,⟨rfl,λys N=>by rw[I.yq N l];exact t⟩,g,λb f=>(j b f).1⟩⟩
 done:=by intro X m n q hc i pins s σ H E I j st r;subst m n q;obtain⟨xs,l,t⟩:=r;obtain⟨y,B,p,hz⟩:=I.list l;obtain⟨f0,f1,f2,f3,f4,f5⟩:=j it (by simp);have Q:=B.length;exact wpAny_pyNext_list_end (I.ok.hd hc) st p.isList (by simp;omega) λh' O=>⟨rfl,I.turned (t':=s.toks) (λb o f e=>O b o f e) f0 f1 f3 f4 f5⟩
 self:=λ_ _ _ _ _ st h=>wpAny_pyIter_listiter st h
theorem Az{P:Program}(a it:Addr):Turn P w K tg (WR K a) [it] it (λi h=>h.IsTupleIter it a i)where
 mem:=by simp
 obj:=λi h st b f=>by
  have e:b=it:=by simpa using f
  subst e;obtain⟨o,e,c,d⟩:=st;exact⟨o,e,λv z=>by rw[d]at z;cases z⟩
 keep:=λi h h' st k=>st.at λo e=>k it (by simp) o e;item:=by intro X n q r hc i pins s σ H E I l st t;subst n q r;obtain⟨xs,x,m,y⟩:=t;obtain⟨g,B,p,hz⟩:=I.tuple m;obtain⟨u,C,G⟩:=B.get y;obtain⟨f0,f1,f2,f3,f4,f5⟩:=l it (by simp);refine wpAny_pyNext_tuple_item st (show s.heap.IsTuple a g.toArray from p) (x:=u) (by simpa using C) λh' j J=>?_;have L:Inv X pins σ H {s with heap:=h'}:=I.turned (t':=s.toks) (λb o f e=>(J.2 b f).trans e) f0 f1 f3 f4 f5;obtain⟨o,e,c,d⟩:=id j;exact⟨u,rfl,BL (s:={s with heap:=h'}) e c d (by decide) ⟨x,H,L,G,⟨rfl,λys N=>by rw[I.uN N m];exact y⟩,j,λb f=>(l b f).1⟩⟩
 done:=by intro X n q r hc i pins s σ H E I l st t;subst n q r;obtain⟨xs,m,y⟩:=t;obtain⟨g,B,p,hz⟩:=I.tuple m;obtain⟨f0,f1,f2,f3,f4,f5⟩:=l it (by simp);have Q:=B.length;exact wpAny_pyNext_tuple_end (I.ok.hd hc) st (show s.heap.IsTuple a g.toArray from p) (by simp;omega) λh' O=>⟨rfl,I.turned (t':=s.toks) (λb o f e=>O b o f e) f0 f1 f3 f4 f5⟩
 self:=λ_ _ _ _ _ st h=>wpAny_pyIter_tupleiter st h
theorem Ak{P:Program}(it:Addr)(lo:Int)(n:Nat):Turn P w K tg (Wm lo n) [it] it (λi h=>IsRangeIter h it (lo+(i:Nat)*1) ((n:Int)-(i:Nat)) 1)where
 mem:=by simp
 obj:=λi h st b a=>by
  have e:b=it:=by simpa using a
  subst e;exact⟨_,st,λv z=>by have p:Data.fields _=Data.cell v:=z;cases p⟩
 keep:=λi h h' st k=>k it (by simp) _ st;item:=by intro X g j l hc i pins s σ H E I f st m;subst g j l;obtain⟨f0,f1,f2,f3,f4,f5⟩:=f it (by simp);have W:=Walks.range (prog:=X.prog) (w:=X.w) (I.ok.hd hc) it lo 1 n;refine W.item i s _ _ m st λv h' tk q c kk=>?_;obtain⟨t,rfl⟩:=q;have r:Inv X pins σ H {s with heap:=h',toks:=tk}:=I.turned (λb o a e=>kk b o (by simpa using a) e) f0 f1 f3 f4 f5;refine⟨_,rfl,BL (s:={s with heap:=h',toks:=tk}) (n:="range_iterator") c rfl rfl (by decide) ⟨.int (lo+i),H,r,⟨t,?_⟩,⟨rfl,rfl⟩,c,λb a=>(f b a).1⟩⟩;rw[mul_one]
 done:=by intro X g j l hc i pins s σ H E I f st m;subst g j l;obtain⟨f0,f1,f2,f3,f4,f5⟩:=f it (by simp);exact wpAny_pyNext_range_end (I.ok.hd hc) st (by have:n<=i:=m;omega) λh' u=>⟨rfl,I.turned (t':=s.toks) (λb o a e=>u b o a e) f0 f1 f3 f4 f5⟩
 self:=λ_ _ _ _ _ st h=>wpAny_pyIter_rangeiter st h
section
variable{X:Cx}{tg:Expr}
theorem xT{σ:St}{R:It->Hp->Prop}{E:Value->Shared->Prop}{lo hi:Int}{t u v:Tok}{tk:Nat}(I:Inv X pins σ H s)(h1:-(2^62)<=lo)(c:lo<2^62)(f:-(2^62)<=hi)(g:hi<2^62)(q:R (Wm lo (hi-lo).toNat) H):wpAny (model X.prog X.w) X.A (pyIter (.ref s.heap.objs.size)) (PIE X pins σ tg R) E {s with heap:=s.heap.push {cls:=.type "range",data:=.fields #[.int lo t,.int hi u,.int 1 v]},toks:=tk}:=by
 refine wpAny_pyIter_range (IsRange.new ..) (small_one h1 c f g) ?_;have a:Inv X pins σ H {s with heap:=s.heap.push {cls:=.type "range",data:=.fields #[.int lo t,.int hi u,.int 1 v]},toks:=tk}:=I.kept λb o e=>iK e;refine⟨(s.heap.push {cls:=.type "range",data:=.fields #[.int lo t,.int hi u,.int 1 v]}).objs.size,[(s.heap.push {cls:=.type "range",data:=.fields #[.int lo t,.int hi u,.int 1 v]}).objs.size],_,_,H,rfl,a.kept (t':=tk) λb o e=>iK e,Ak _ lo (hi-lo).toNat,?_,λb j=>?_,q⟩
 . have k:lo+((0:Nat):Int)*1=lo:=by simp
   have l:(((hi-lo).toNat:Nat):Int)-((0:Nat):Int)=Builtin.Range.rangeSize lo hi 1:=by rw[rangeSize_one];split<;>omega
   show IsRangeIter _ _ (lo+((0:Nat):Int)*1) ((((hi-lo).toNat:Nat):Int)-((0:Nat):Int)) 1;rw[k,l];exact get?_push_size _ rfl
 . have e:b=(s.heap.push {cls:=.type "range",data:=.fields #[.int lo t,.int hi u,.int 1 v]}).objs.size:=by simpa using j
   subst e;exact a.GR (eY) (a.hok.fresh (eY))
def YM(a:TA):TI:=λσ H R=>a σ H λvs b=>∃j:Int,vs=[.int j]/\-(2^62)<=j/\j<2^62/\R (Wm 0 j.toNat) b
def ZM(a:TA):TI:=λσ H R=>a σ H λvs b=>∃i j:Int,vs=[.int i,.int j]/\(-(2^62)<=i/\i<2^62/\-(2^62)<=j/\j<2^62)/\R (Wm i (j-i).toNat) b
theorem uA{a:Expr}{c:TA}{p:Pos}(f:Gl X "range")(g:X.mg "range"=none)(k:PA X [a] c)(hs:starEach [a] X.env=[(false,eval a X.env)]:=by rfl):PI X tg (.Call (.Name "range" p) [a] [] pos) (YM c):=by intro pins s σ H R I h;refine Call_ (mz I f g boot_range (PyProof.Rows.callWith_type1 (bV (k pos pins s σ H _ I h) λus s1⟨vs,H1,I1,r1,b⟩=>?_) hs rfl));obtain⟨j,e,b,l,q⟩:=b;subst e;cases r1 with|cons r m=>cases m;obtain⟨t,rfl⟩:=r;exact call_range_1 (xT I1 (by omega) (by omega) b l (by simpa using q))
theorem Ej{a b:Expr}{k:TA}{p:Pos}(l:Gl X "range")(m:X.mg "range"=none)(n:PA X [a,b] k)(hs:starEach [a,b] X.env=[(false,eval a X.env),(false,eval b X.env)]:=by rfl)(c:starEach [b] X.env=[(false,eval b X.env)]:=by rfl):PI X tg (.Call (.Name "range" p) [a,b] [] pos) (ZM k):=by intro pins s σ H R I h;refine Call_ (mz I l m boot_range (PyProof.Rows.callWith_type1 (bV (n pos pins s σ H _ I h) λus s1⟨vs,H1,I1,r1,f⟩=>?_) (by rw[hs,c]) (by rw[c];rfl)));obtain⟨i,j,e,⟨f,o,u,v⟩,q⟩:=f;subst e;cases r1 with|cons r g=>cases g with|cons x g=>cases g;obtain⟨t,rfl⟩:=r;obtain⟨t',rfl⟩:=x;exact call_range_2 (xT I1 f o u v q)
def acJ(e:TI)(g:TG)(tb:TS):TS:=λD σ H=>e σ H λJ f=>∃W:Nat->Nat->St->Hp->Prop,(∃m,W 0 m σ f)/\∀i m σ H,W i m σ H->(J.stop i H/\D.nx σ H)\/(J.go i H/\∃N:St->Hp->Prop,(∀σ' a,N σ' a->∃c,c<m/\W (i+1) c σ' a)/\∀x a,J.O3 i H x a->g x σ a λb j=>tb {D with nx:=N,ct:=N,bk:=D.nx} b j)
noncomputable def rN(a:List Addr)(h:Heap):List (Addr×Obj):=a.filterMap λb=>(h.get? b).map λo=>(b,o)
theorem jE{a:List Addr}{b:Addr}{o:Obj}(c:b∈a)(e:h.get? b=some o):(b,o)∈rN a h:=List.mem_filterMap.mpr ⟨b,c,by rw[e];rfl⟩
theorem Ga{a:List Addr}{p:Addr×Obj}(c:p∈rN a h):p.1∈a/\h.get? p.1=some p.2:=by obtain⟨b,f,e⟩:=List.mem_filterMap.mp c;cases q:h.get? b with|none=>rw[q]at e;cases e|some o=>rw[q]at e;have g:(b,o)=p:=Option.some.inj e;subst g;exact⟨f,q⟩
theorem Inv.pinned{σ:St}{a:List Addr}(I:Inv X pins σ H s)(g:∀b∈a,sG X pins H b)(ho:∀b∈a,∃o,s.heap.get? b=some o/\∀v,o.data≠.cell v):Inv X (pins++rN a s.heap) σ H s:=I.BX λp j=>(mem_append.mp j).elim (λz=>I.pin p (mem_append_right _ z)) λz=>by obtain⟨c,e⟩:=Ga z;obtain⟨f0,f1,f2,_⟩:=g p.1 c;obtain⟨o,f,d⟩:=ho p.1 c;rw[e]at f;cases f;exact⟨e,f0,f1,f2,d⟩
theorem Inv.nY{a:List (Addr×Obj)}{σ:St}(I:Inv X (pins++a) σ H s):Inv X pins σ H s:=I.BX λp b=>I.pin p (mem_append_right _ (mem_append_left _ b))
theorem zK{iter:Expr}{body:List Stmt}{Y:TI}{g:TG}{tb:TS}(y:PassesOwn (model X.prog X.w) X.A X.env X.xe)(hc:X.calm=true)(hi:PI X tg iter Y)(hg:PG X tg g)(c:pO X body tb)(hs:∀x,foldedSetIterable iter X.env x=pure x:=by intro _;rfl):PS X (.For tg iter body [] pos) (acJ Y g tb):=by
 intro pins s σ H D I h;refine wpAny_For (bV (hi pins s σ H _ I h) λv s1 h1=>bV h1 λac s2 h2=>?_) hs;obtain⟨it,z,Z,J,H2,e,I2,T,O,f2,W,⟨m0,w0⟩,B⟩:=h2;subst e--what stays true of the iterator's objects through the loop
 have j:∀{q:Hp},(∀b∈z,q b=none)->∀b∈z,sG X pins q b:=λhn b c=>⟨hn b c,(f2 b c).2⟩;refine codeAny_forLoop_any (λn s'=>∃i σ' q,Inv X pins σ' q s'/\Z i s'.heap/\(∀b∈z,q b=none)/\W i n σ' q) ?_ m0 ⟨0,σ,H2,I2,O,λb c=>(f2 b c).1,w0⟩;rintro n s3⟨i,k,L,I3,C,E,w3⟩;rcases B i n k L w3 with⟨stop,qn⟩|⟨go,N,hN,step⟩;.refine wpAny_passesOwn y (bV (T.done X rfl rfl rfl hc i pins s3 k L X.xe I3 (j E) C stop) λr s4⟨hr,I4⟩=>?_);subst hr;exact wpAny_execs_nil ⟨k,L,I4,qn⟩
 . refine wpAny_passesOwn y (bV (T.item X rfl rfl rfl hc i pins s3 k L X.xe I3 (j E) C go) λr s4⟨u,hr,h4⟩=>?_);subst hr;refine wpAny_passesOwn y (bV h4 λ_ s5⟨x,H5,I5,r5,y5,st5,fr5⟩=>?_);have Q:=I5.pinned (j fr5) (T.obj _ _ st5);refine wpAny_passesOwn y (bV (hg _ s5 k H5 x u _ Q r5 (step x H5 y5)) λ_ s6⟨U,H6,I6,q6⟩=>?_);refine wpAny_passesOwn y (bV (c _ s6 U H6 _ I6 q6) λf s7 t=>?_);have again:∀{a:St}{l:Hp},Inv X (pins++rN z s5.heap) a l s7->N a l->∃m,m<n/\∃i σ' q,Inv X pins σ' q s7/\Z i s7.heap/\(∀b∈z,q b=none)/\W i m σ' q:=λ{a l}p G=>by obtain⟨m',hm,w7⟩:=hN a l G;refine⟨m',hm,i+1,a,l,p.nY,T.keep _ _ _ st5 λb c o e=>(p.pin (b,o) (mem_append_right _ (mem_append_right _ (jE c e)))).1,λb c=>?_,w7⟩;obtain⟨o,e,d⟩:=T.obj _ _ st5 b c;exact(p.pin (b,o) (mem_append_right _ (mem_append_right _ (jE c e)))).2.1
   cases f with|next=>obtain⟨a,l,p,G⟩:=t;exact again p G|cont=>obtain⟨a,l,p,G⟩:=t;exact again p G|brk=>obtain⟨a,l,p,t⟩:=t;exact⟨a,l,p.nY,t⟩|ret v=>obtain⟨x7,a,l,p,r7,t⟩:=t;exact⟨x7,a,l,p.nY,r7,t⟩
end
abbrev R2:=V->V->Hp->VK->Prop
def iH(X:Cx)(f:Value->Value->Sem Value)(r:R2):Prop:=∀(pins:List (Addr × Obj))(s:Shared)(σ:St)(H:Hp)(x y:V)(v u:Value)(Q:VK),Inv X pins σ H s->RelV x v->RelV y u->r x y H Q->wpAny (model X.prog X.w) X.A (f v u) (EP X pins σ Q) X.xe s
def UnR(X:Cx)(f:Value->Sem Value)(r:V->Hp->VK->Prop):Prop:=∀(pins:List (Addr × Obj))(s:Shared)(σ:St)(H:Hp)(x:V)(v:Value)(Q:VK),Inv X pins σ H s->RelV x v->r x H Q->wpAny (model X.prog X.w) X.A (f v) (EP X pins σ Q) X.xe s
def dU(X:Cx)(f:Value)(r:List V->Hp->VK->Prop):Prop:=∀(pins:List (Addr × Obj))(s:Shared)(σ:St)(H:Hp)(xs:List V)(us:List Value)(Q:VK),Inv X pins σ H s->Vals xs us->r xs H Q->wpAny (model X.prog X.w) X.A (call f us) (EP X pins σ Q) X.xe s
def TQ(r:R2)(a tb:TE):TE:=λσ H Q=>a σ H λx b=>tb σ b λy c=>r x y c Q
def tUn(r:V->Hp->VK->Prop)(a:TE):TE:=λσ H Q=>a σ H λx b=>r x b Q
def rI(C:Int->Int->Prop)(g:Int->Int->V):R2:=λx y H Q=>∃i j,x=.int i/\y=.int j/\C i j/\Q (g i j) H
def Qg(g:Int->Int->V):R2:=λx y H Q=>∃i j,x=.int i/\y=.int j/\Q (g i j) H
def rU(g:Int->V):V->Hp->VK->Prop:=λx H Q=>∃i,x=.int i/\Q (g i) H
section
variable{X:Cx}{a b c:Expr}{ta tb tc:TE}{pos:Pos}
theorem RN(l:PE X a ta)(m:PE X b tb){σ:St}{R:V->V->Hp->Prop}(I:Inv X pins σ H s)(h:ta σ H λx k=>tb σ k λy e=>R x y e){Q:Value->Shared->Prop}{f:Value->Value->Sem Value}(n:∀v u s2 x y e,Inv X pins σ e s2->RelV x v->RelV y u->R x y e->wpAny (model X.prog X.w) X.A (f v u) Q X.xe s2):wpAny (model X.prog X.w) X.A (eval a X.env) (λv g=>wpAny (model X.prog X.w) X.A (eval b X.env) (λu j=>wpAny (model X.prog X.w) X.A (f v u) Q X.xe j) X.xe g) X.xe s:=by refine bV (l pins s σ H _ I h) λv s1⟨x,k,I1,r1,q1⟩=>?_;refine bV (m pins s1 σ k _ I1 q1) λu s2⟨y,e,I2,r2,q2⟩=>?_;exact n v u s2 x y e I2 r1 r2 q2
theorem Y7{op:Operator}{r:R2}(ho:iH X (binaryOp op) r)(e:PE X a ta)(f:PE X b tb):PE X (.BinOp a op b pos) (TQ r ta tb):=by intro pins s σ H Q I h;exact wpAny_BinOp (RN e f I h λv u s2 x y g j k l q=>ho pins s2 σ g x y v u Q j k l q)
theorem XM{op:UnaryOp}{r:V->Hp->VK->Prop}(ho:UnR X (unaryOp op) r)(e:PE X a ta):PE X (.UnaryOp op a pos) (tUn r ta):=by intro pins s σ H Q I h;exact UnaryOp_ (bV (e pins s σ H _ I h) λv s1⟨x,H1,I1,r1,q1⟩=>ho pins s1 σ H1 x v Q I1 r1 q1)
theorem opI{f:Value->Value->Sem Value}{C:Int->Int->Prop}{g:Int->Int->Int}(rule:∀(i j:Int)(t u:Tok)(s:Shared)(Q:Value->Shared->Prop)(E:Value->Shared->Prop),C i j->Q (.int (g i j) s.toks) {s with toks:=s.toks+1}->wpAny (model X.prog X.w) X.A (f (.int i t) (.int j u)) Q E s):iH X f (rI C λi j=>.int (g i j)):=by intro pins s σ H x y v u Q I e k h;obtain⟨i,j,rfl,rfl,hc,q⟩:=h;obtain⟨t,rfl⟩:=e;obtain⟨t',rfl⟩:=k;exact rule i j t t' s _ _ hc ⟨.int (g i j),H,I.tok _,⟨_,rfl⟩,q⟩
theorem ZW{f:Value->Value->Sem Value}{g:Int->Int->Int}(rule:∀(i j:Int)(t u:Tok)(s:Shared)(Q:Value->Shared->Prop)(E:Value->Shared->Prop),Q (.int (g i j) s.toks) {s with toks:=s.toks+1}->wpAny (model X.prog X.w) X.A (f (.int i t) (.int j u)) Q E s):iH X f (Qg λi j=>.int (g i j)):=by intro pins s σ H x y v u Q I e k h;obtain⟨i,j,rfl,rfl,q⟩:=h;obtain⟨t,rfl⟩:=e;obtain⟨t',rfl⟩:=k;exact rule i j t t' s _ _ ⟨.int (g i j),H,I.tok _,⟨_,rfl⟩,q⟩
theorem XF{f:Value->Value->Sem Value}{g:Int->Int->Bool}(rule:∀(i j:Int)(t u:Tok)(s:Shared)(Q:Value->Shared->Prop)(E:Value->Shared->Prop),Q (.bool (g i j)) s->wpAny (model X.prog X.w) X.A (f (.int i t) (.int j u)) Q E s):iH X f (Qg λi j=>.bl (g i j)):=by intro pins s σ H x y v u Q I e k h;obtain⟨i,j,rfl,rfl,q⟩:=h;obtain⟨t,rfl⟩:=e;obtain⟨t',rfl⟩:=k;exact rule i j t t' s _ _ ⟨.bl (g i j),H,I,rfl,q⟩
def adR(i j:Int):Prop:=0<=j/\j<=1000000/\i.natAbs<2^64
def Vl(i j:Int):Prop:=(-(2^64)<i/\i<2^64)\/(-(2^64)<j/\j<2^64)
theorem Vl.ok{i j:Int}(h:Vl i j):IntMulOk i j:=by
 rcases h with⟨h1,e⟩|⟨h1,e⟩;.exact .of_left (intBits_le_64 h1 e)
 .exact .of_right (intBits_le_64 h1 e)
theorem U0:iH X (binaryOp .Add) (Qg λi j=>.int (i+j)):=ZW λ_ _ _ _ _ _ _ q=>add_int q
theorem Sv:iH X (binaryOp .Sub) (Qg λi j=>.int (i-j)):=ZW λ_ _ _ _ _ _ _ q=>sub_int q
theorem Tq:iH X (binaryOp .Mult) (rI Vl λi j=>.int (i*j)):=opI λ_ _ _ _ _ _ _ hc q=>mul_int q hc.ok
theorem Ss:iH X (binaryOp .Mod) (rI (λ_ j=>0<j) λi j=>.int (i%j)):=opI λi j _ _ _ _ _ hc q=>by have h1:(0:Int)<j:=hc;exact mod_int' (by omega) (by rw[Int.fmod_eq_emod_of_nonneg i (by omega)];exact q)
theorem Ud:iH X (binaryOp .Pow) (rI adR λi j=>.int (i^j.toNat)):=opI λ_ _ _ _ _ _ _ hc q=>pow_int_small hc.1 hc.2.1 hc.2.2 q
theorem unI{f:Value->Sem Value}{g:Int->Int}(rule:∀(i:Int)(t:Tok)(s:Shared)(Q:Value->Shared->Prop)(E:Value->Shared->Prop),Q (.int (g i) s.toks) {s with toks:=s.toks+1}->wpAny (model X.prog X.w) X.A (f (.int i t)) Q E s):UnR X f (rU λi=>.int (g i)):=by intro pins s σ H x v Q I e h;obtain⟨i,rfl,q⟩:=h;obtain⟨t,rfl⟩:=e;exact rule i t s _ _ ⟨.int (g i),H,I.tok _,⟨_,rfl⟩,q⟩
theorem U5:UnR X (unaryOp .USub) (rU λi=>.int (-i)):=unI λ_ _ _ _ _ q=>neg_int q
end
section
variable{X:Cx}{a b c:Expr}{ta tb tc:TE}{pos:Pos}
theorem UG{σ:St}{Q:VK}{k f:Bool}(I:Inv X pins σ H s)(q:Q (.bl k) H)(e:k=f):EP X pins σ Q (.bool f) s:=by subst e;exact⟨.bl k,H,I,rfl,q⟩
theorem ZC:iH X (compareOp .Lt) (Qg λi j=>.bl (decide (i<j))):=XF λ_ _ _ _ _ _ _ q=>lt_int q
theorem ZV:iH X (compareOp .Gt) (Qg λi j=>.bl (decide (j<i))):=XF λ_ _ _ _ _ _ _ q=>gt_int q
theorem Nf:iH X (compareOp .IsNot) (λx y H Q=>y=.non/\Q (.bl (!decide (x=.non))) H):=by intro pins s σ H x y v u Q I e f h;obtain⟨rfl,q⟩:=h;cases f;refine isnot_none_gen (UG I q ?_);cases x<;>first|(cases e;rfl)|(obtain⟨t,rfl⟩:=e;rfl)
theorem adx{op:CmpOp}{es:List Expr}{k:Nat}{p:Pos}(e:(op==CmpOp.In)=false)(f:(op==CmpOp.NotIn)=false):behindInMarks op (.Set es k p)=false:=by show(k==0&&(op==CmpOp.In||op==CmpOp.NotIn)&&_)=false;rw[e,f];cases(k==0)<;>rfl
theorem dN(b:Expr){op:CmpOp}(h:op≠.In:=by decide)(e:op≠.NotIn:=by decide):behindInMarks op b=false:=by
 have f:(op==CmpOp.In)=false:=by cases op<;>first|rfl|exact absurd rfl h
 have g:(op==CmpOp.NotIn)=false:=by cases op<;>first|rfl|exact absurd rfl e
 cases b<;>first|rfl|exact adx f g
theorem Lw{op:CmpOp}{r:R2}(ho:iH X (compareOp op) r)(e:PE X a ta)(f:PE X b tb)(g:behindInMarks op b=false):PE X (.Compare a [op] [b] pos) (TQ r ta tb):=by intro pins s σ H Q I h;exact wpAny_Compare1 (RN e f I h λv u s2 x y j k l m q=>ho pins s2 σ j x y v u Q k l m q) g
def Zg(t:TE):TT:=λσ H Q=>t σ H λx e=>∃k,x=.bl k/\Q k e
theorem DK{op:CmpOp}{r:R2}(ho:iH X (compareOp op) r)(f:PE X a ta)(g:PE X b tb)(j:behindInMarks op b=false):PT X (.Compare a [op] [b] pos) (Zg (TQ r ta tb)):=by intro pins s σ H Q I h;refine wpAny_isTrue_Compare1 (bV (f pins s σ H _ I h) λv s1⟨x,H1,I1,r1,q1⟩=>bV (g pins s1 σ H1 _ I1 q1) λu s2⟨y,H2,I2,r2,q2⟩=>bV (ho pins s2 σ H2 x y v u _ I2 r1 r2 q2) λc s3⟨z,H3,I3,r3,k,e,q3⟩=>?_) j;subst e;cases r3;exact wpAny_truthy_bool ⟨H3,I3,q3⟩
theorem rR:(sizeLine:Nat)<2^63:=by rw[sizeLine_eq];decide
theorem An:iH X (binaryOp .Add) (λx y H Q=>∃i j,x=.str i/\y=.str j/\i.length+j.length<=sizeLine/\Q (.str (i++j)) H):=by intro pins s σ H x y v u Q I e f h;obtain⟨i,j,rfl,rfl,hz,q⟩:=h;obtain⟨t,rfl⟩:=e;obtain⟨t',rfl⟩:=f;exact add_str (λt' tk=>⟨.str (i++j),H,I.tok _,⟨_,rfl⟩,q⟩) hz
theorem vals1{x:V}(r:Vals [x] us):∃u,us=[u]/\RelV x u:=by cases r with|cons r1 e=>cases e;exact⟨_,rfl,r1⟩
theorem vals2{x y:V}(r:Vals [x,y] us):∃u e,us=[u,e]/\RelV x u/\RelV y e:=by cases r with|cons r1 f=>cases f with|cons g j=>cases j;exact⟨_,_,rfl,r1,g⟩
theorem Ec(hc:X.calm=true):dU X (.builtin "max") (λxs H Q=>∃i j,xs=[.int i,.int j]/\Q (.int (if j>i then j else i)) H):=by
 intro pins s σ H xs us Q I r h;obtain⟨i,j,rfl,q⟩:=h;obtain⟨u,f,rfl,⟨t,rfl⟩,⟨t',rfl⟩⟩:=vals2 r;refine max_two_ints (I.ok.hd hc) λh' tk k=>⟨_,H,I.kept k,?_,q⟩;by_cases e:j>i;.rw[if_pos e,if_pos e];exact⟨_,rfl⟩
 .rw[if_neg e,if_neg e];exact⟨_,rfl⟩
theorem Em(hc:X.calm=true):dU X (.builtin "min") (λxs H Q=>∃i j,xs=[.int i,.int j]/\Q (.int (if j<i then j else i)) H):=by
 intro pins s σ H xs us Q I r h;obtain⟨i,j,rfl,q⟩:=h;obtain⟨u,f,rfl,⟨t,rfl⟩,⟨t',rfl⟩⟩:=vals2 r;refine min_two_ints (I.ok.hd hc) λh' tk k=>⟨_,H,I.kept k,?_,q⟩;by_cases e:j<i;.rw[if_pos e,if_pos e];exact⟨_,rfl⟩
 .rw[if_neg e,if_neg e];exact⟨_,rfl⟩
end
theorem pU.some_of{v:V}{o:Option Value}(r:pU (some v) o):∃u,o=some u/\RelV v u:=by cases o with|none=>exact(show False from r).elim|some u=>exact⟨u,rfl,r⟩
structure iW(k:Nat)(A:Around):Prop where
 hd:A.handled=none
 dp:A.depth+3*k+5<recursionLimit
 un:A.units+16*k+200<cLine
theorem iW.deeper{k:Nat}{A:Around}(r:iW (k+1) A)(env:Env):iW k (A.deeper env):=⟨r.hd,by have:=r.dp;show A.depth+1+3*k+5<_;omega,by have:=r.un;show A.units+3+16*k+200<_;omega⟩
theorem iW.depth{k:Nat}{A:Around}(r:iW k A):A.depth<recursionLimit:=by have:=r.dp;omega
def adu:TA:=λ_ H Q=>Q [] H
def Xv(a:TE)(b:TA):TA:=λσ H Q=>a σ H λx c=>b σ c λxs e=>Q (x::xs) e
section
variable{X:Cx}{e:Expr}{es:List Expr}{te:TE}{t:TA}{pos:Pos}
theorem dO:PA X [] adu:=λ_ _ _ _ H Q I h=>Calls.spliced_nil ⟨[],H,I,.nil,h⟩
theorem bD(a:PE X e te)(hr:PA X es t)(hs:starEach (e::es) X.env=(false,eval e X.env)::starEach es X.env:=by rfl):PA X (e::es) (Xv te t):=by intro pos pins s σ H Q I h;rw[hs];show wpAny _ _ (spliced ((false,eval e X.env)::backTo pos (starEach es X.env))) _ _ s;refine Calls.spliced_cons (bV (a pins s σ H _ I h) λu s1⟨x,H1,I1,r1,q1⟩=>?_);exact bV (hr pos pins s1 σ H1 _ I1 q1) λus s2⟨xs,H2,I2,r2,q2⟩=>⟨x::xs,H2,I2,.cons r1 r2,q2⟩
def ac7(t:TA):TE:=λσ H Q=>t σ H λxs a=>xs.length<=sizeLine/\∀p,a p=none->Q (.ref p) (upd a p (.tup xs))
def acf(t:TA):TE:=λσ H Q=>t σ H λxs a=>xs.length<=sizeLine/\∀p,a p=none->Q (.ref p) (upd a p (.lst xs))
theorem GQ{x1}(h:PA X es t):PE X (.Tuple es x1 pos) (ac7 t):=by intro pins s σ H Q I a;refine wpAny_Tuple_spliced (bV (h pos pins s σ H _ I a) λus s1⟨xs,H1,I1,r,z,q⟩=>⟨by rw[<-r.length];exact z,?_⟩);have c:H1 s1.heap.objs.size=none:=I1.hok.fresh (eY);refine⟨.ref s1.heap.objs.size,upd H1 s1.heap.objs.size (.tup xs),I1.laid (t':=s1.toks) (λb u e=>iK e) (eY) ?_,rfl,q _ c⟩;exact⟨z,us,r,⟨_,get?_push_size _ rfl,rfl,_,rfl⟩⟩
theorem Vj(h:PA X es t):PE X (.List es pos) (acf t):=by intro pins s σ H Q I a;refine wpAny_List_spliced (bV (h pos pins s σ H _ I a) λus s1⟨xs,H1,I1,r,z,q⟩=>⟨by rw[<-r.length];exact z,?_⟩);have c:H1 s1.heap.objs.size=none:=I1.hok.fresh (eY);refine⟨.ref s1.heap.objs.size,upd H1 s1.heap.objs.size (.lst xs),I1.laid (t':=s1.toks) (λb u e=>iK e) (eY) ?_,rfl,q _ c⟩;exact⟨z,us,0,r,get?_push_size _ rfl⟩
end
abbrev Sp:=List V->Hp->VK->XK->Prop
abbrev Gn:=List Env->Hp->Shared->XK->Value->Shared->Prop
structure Ls(P:Program)(w:World)(K:PySem.W.Frag)(mg:Str->Option Value)(base:Heap)(A:Around)(outer:List Env)(s:Shared)(H:Hp):Prop where
 frames:A.frames=some outer
 mod:Mod K mg base
 bs:∀b o,base.get? b=some o->s.heap.get? b=some o/\H b=none
 Gb:base.objs.size<=s.heap.objs.size
 lO:s.heap.FunFrames base outer
 Ks:∀b∈frs outer,H b=none
 hok:jQ P w H s.heap
 bare:AllBare s.gens
def CE(outer:List Env)(P:Program)(w:World)(H:Hp)(s:Shared)(Q:VK)(u:Value)(a:Shared):Prop:=∃v b,a.os=s.os/\AllBare a.gens/\Un (frs outer) [] H b s.heap a.heap/\jQ P w b a.heap/\RelV v u/\Q v b
def CR(CX:Gn)(outer:List Env)(P:Program)(w:World)(H:Hp)(s:Shared)(Q:VK)(E:XK)(r:Result)(a:Shared):Prop:=match r with|.ok (.ret u)=>CE outer P w H s Q u a|.ok _=>False|.error e=>CX outer H s E e a
structure jh(P:Program)(w:World)(K:PySem.W.Frag)(mg:Str->Option Value)(base:Heap)(CX:Gn)(k:Nat)(f:Addr)(fd:FuncData)(ps:List Str)(sp:Sp):Prop where
 len:∀vs H Q E,sp vs H Q E->vs.length=ps.length
 run:∀(A:Around)(outer:List Env)(s:Shared)(H:Hp)(args:Args)(us:List Value)(vs:List V)(Q:VK)(E:XK),iW k A->Ls P w K mg base A outer s H->BindsTo s fd args (ps.zip us)->Vals vs us->sp vs H Q E->codeAny (model P w) A (.call (.ref f) args) (CR CX outer P w H s Q E) s
section
variable{X:Cx}{pins:List (Addr×Obj)}{σ:St}{H:Hp}{s s':Shared}
theorem Inv.env0(I:Inv X pins σ H s):Ls X.prog X.w X.K X.mg X.base X.A X.stack s H:=⟨I.ok.frames,I.ok.mod,I.bs,le_trans I.ok.Gb I.sz,I.stack,I.p8,I.hok,I.bare⟩
theorem Inv.after{Q:VK}{u:Value}(I:Inv X pins σ H s)(h:CE X.stack X.prog X.w H s Q u s'):EP X pins σ Q u s':=by obtain⟨v,c,os,bare,un,hok,r,q⟩:=h;obtain⟨e,g,d,t,a⟩:=s';obtain rfl:a=s.os:=os;exact⟨v,c,I.call (h':=e) (g':=g) (d':=d) (t':=t) (ch:=[]) un hok bare (λb z=>absurd z (by simp)),r,q⟩
end
def Zw(sp:Sp)(a:List V)(E:XK)(t:TA):TE:=λσ H Q=>t σ H λvs b=>sp (vs++a) b Q E
def Binds(K:PySem.W.Frag)(fd:FuncData)(ps:List Str)(a:List Value):Prop:=∀(s:Shared)(us:List Value),K.In s.heap->(us++a).length=ps.length->BindsTo s fd ⟨us,[]⟩ (ps.zip (us++a))
theorem Binds.all{fd:FuncData}{ps:List Str}(h:∀us:List Value,us.length=ps.length->bindArgs fd ⟨us,[]⟩=pure (ps.zip us)):Binds K fd ps []:=λs us _ a=>by rw[append_nil]at a ⊢;exact .of_eq (h us a)
def Passes(CX:Gn)(X:Cx)(E:XK):Prop:=∀(pins:List (Addr×Obj))(σ:St)(H:Hp)(s:Shared)(e:Value)(a:Shared),Inv X pins σ H s->CX X.stack H s E e a->X.xe e a
section
variable{X:Cx}{CX:Gn}{k:Nat}{f C:Addr}{fd:FuncData}{ps:List Str}{sp:Sp}{QS:List V}{ds:List Value}{E:XK}{x m:Str}{p pos apos:Pos}{e o:Expr}{es:List Expr}{ta:TE}{t:TA}
theorem UW{σ:St}{Q:VK}{vs:List V}(F:jh X.prog X.w X.K X.mg X.base CX k f fd ps sp)(hr:iW k X.A)(c:Binds X.K fd ps ds)(hd:Vals QS ds)(g:Passes CX X E)(I:Inv X pins σ H s)(r:Vals vs us)(h:sp (vs++QS) H Q E):wpAny (model X.prog X.w) X.A (call (.ref f) us) (EP X pins σ Q) X.xe s:=by
 have b:Vals (vs++QS) (us++ds):=r.append hd;have j:(us++ds).length=ps.length:=by rw[<-b.length];exact F.len _ _ _ _ h
 refine wpAny_call (codeAny_mono (F.run X.A X.stack s H ⟨us,[]⟩ (us++ds) (vs++QS) Q E hr I.env0 (c s us I.MP j) b h) λr l a=>?_);cases r with|error e=>exact g pins σ H s e l I a|ok fl=>cases fl with|ret u=>exact I.after a|next=>exact False.elim a|brk=>exact False.elim a|cont=>exact False.elim a
theorem vq(F:jh X.prog X.w X.K X.mg X.base CX k f fd ps sp)(hr:iW k X.A)(b:Gl X x)(c:X.mg x=some (.ref f))(g:keepIn X.K (.ref f)=true)(j:Binds X.K fd ps ds)(hd:Vals QS ds)(l:Passes CX X E)(n:PA X (e::es) t)(a:(x==("__debug__":Str))=false:=by decide)(he:starEach (e::es) X.env=(false,eval e X.env)::starEach es X.env:=by rfl)(hpl:(backTo pos (starEach es X.env)).any (·.1)=false:=by rfl):PE X (.Call (.Name x p) (e::es) [] pos) (Zw sp QS E t):=by intro pins s σ H Q I h;refine wpAny_Call_Name_kw (qy I b c ?_ a);refine PySem.W.callWith_K (h₀:=X.base) I.ok.mod.qt g (bV (n pos pins s σ H _ I h) λus s1⟨vs,H1,I1,r,q⟩=>⟨I1.MP,?_⟩) he hpl;exact UW F hr j hd l I1 r q
end
structure aO(N P:List Str)(sc:Scope):Prop where
 kind:sc.kind=.function
 co:sc.isCoroutine=false
 gen:sc.isGenerator=false
 nd:N.Nodup
 pre:N.take P.length=P
 par:∀x∈P,sc.names.lookup x=some .local\/sc.names.lookup x=some .cell
 VB:∀y∈sc.names,y.2≠.free
theorem ur{kindOf:Str->Option NameKind}{x:Str}:∀{binds:List (Str×Value)}{m:Str->Option Value},(∀v,(x,v)∉binds)->bindL kindOf binds m x=m x
 |[],_,_=>rfl|(n,v)::r,m,h=>by
   unfold bindL;rw[ur λw a=>h w (mem_cons_of_mem _ a)];split
   . have:x≠n:=by rintro rfl;exact h v mem_cons_self
     simp[this]
   .rfl
theorem uU{kindOf:Str->Option NameKind}{x:Str}:∀{binds:List (Str×Value)}{m:Str->Option Value},(∀v,(x,v)∉binds)->bindC kindOf binds m x=m x
 |[],_,_=>rfl|(n,v)::r,m,h=>by
   unfold bindC;rw[uU λw a=>h w (mem_cons_of_mem _ a)];split;.rfl
   . have:x≠n:=by rintro rfl;exact h v mem_cons_self
     simp[this]
theorem uZ{kindOf:Str->Option NameKind}{x:Str}{v:Value}:∀{P:List Str}{vs:List Value}{i:Nat}{m:Str->Option Value},P.Nodup->P[i]?=some x->vs[i]?=some v->kindOf x=some .local->bindL kindOf (P.zip vs) m x=some v|[],_,_,_,_,h,_,_=>by simp at h|_::_,[],_,_,_,_,h,_=>by simp at h|p::P,w::vs,0,m,nd,h1,a,b=>by simp at h1 a;subst h1;subst a;show bindL kindOf ((p,w)::P.zip vs) m p=_;unfold bindL;rw[ur λv c=>(nodup_cons.mp nd).1 (of_mem_zip c).1,if_pos b];simp|p::P,w::vs,i+1,m,nd,h1,a,b=>by show bindL kindOf ((p,w)::P.zip vs) m x=_;unfold bindL;exact uZ (i:=i) (nodup_cons.mp nd).2 (by simpa using h1) (by simpa using a) b
theorem uE{kindOf:Str->Option NameKind}{x:Str}{v:Value}:∀{P:List Str}{vs:List Value}{i:Nat}{m:Str->Option Value},P.Nodup->P[i]?=some x->vs[i]?=some v->kindOf x≠some .local->bindC kindOf (P.zip vs) m x=some v|[],_,_,_,_,h,_,_=>by simp at h|_::_,[],_,_,_,_,h,_=>by simp at h|p::P,w::vs,0,m,nd,h1,a,b=>by simp at h1 a;subst h1;subst a;show bindC kindOf ((p,w)::P.zip vs) m p=_;unfold bindC;rw[uU λv c=>(nodup_cons.mp nd).1 (of_mem_zip c).1,if_neg b];simp|p::P,w::vs,i+1,m,nd,h1,a,b=>by show bindC kindOf ((p,w)::P.zip vs) m x=_;unfold bindC;exact uE (i:=i) (nodup_cons.mp nd).2 (by simpa using h1) (by simpa using a) b
noncomputable def start(N:List Str)(vs:List V):St:=vs.map some++replicate (N.length-vs.length) none
noncomputable def lU(CX:Gn)(P:Program)(w:World)(K:PySem.W.Frag)(mg:Str->Option Value)(base:Heap)(N:List Str)(qual:Str)(scope:Scope)(f:Addr)(b:Value)(A:Around)(outer:List Env)(s:Shared)(H:Hp)(E:XK):Cx where prog:=P;w:=w;K:=K;mg:=mg;base:=base;A:=A.deeper (envOfC qual scope s.heap.objs.size f b);N:=N;s₀:=s;H₀:=H;env:=envOfC qual scope s.heap.objs.size f b;outer:=outer;stack:=envOfC qual scope s.heap.objs.size f b::outer;ex:=[];calm:=true;fn:=λ_=>true;pn:=[];xe:=λe c=>wpAny (model P w) (A.deeper (envOfC qual scope s.heap.objs.size f b)) (leaving (envOfC qual scope s.heap.objs.size f b) e) (λ_ a=>CX outer H s E e a) (λg a=>CX outer H s E g a) c
theorem yC{a:Scope}{n:Nat}{x:Str}(h:a.names.lookup x=some .cell):∃c,(cellsFrom n a.names []).lookup x=some c:=by have q:=PySem.W.cellsFrom_some a.names n [] (.inl h);exact Option.isSome_iff_exists.mp q
theorem Ez{CX:Gn}{P:Program}{mg:Str->Option Value}{base:Heap}{N ps:List Str}{qual:Str}{scope:Scope}{f:Addr}{t:Value}{outer:List Env}{s1:Shared}{E:XK}{vs:List V}(S:aO N ps scope)(hd:A.handled=none)(j:Ls P w K mg base A outer s H)(J:vs.length=ps.length)(r:Vals vs us)(x:InCallC s s.heap.objs.size (bindL (envOfC qual scope s.heap.objs.size f t).kindOf (ps.zip us) λ_=>none) (cellsFrom (s.heap.objs.size+1) scope.names []) (bindC (envOfC qual scope s.heap.objs.size f t).kindOf (ps.zip us) λ_=>none) s1):Inv (lU CX P w K mg base N qual scope f t A outer s H E) [] (start N vs) H s1:=by
 have hpl:ps.length<=N.length:=by have:=congrArg List.length S.pre;rw[length_take]at this;omega
 obtain⟨h1,tk,rfl,B⟩:=x.done;have l:∀b:Addr,b∉(lU CX P w K mg base N qual scope f t A outer s H E).ex:=λb z=>absurd (show b∈([]:List Addr)from z) (by simp);refine⟨⟨j.mod,S.kind,rfl,rfl,eY,λy z c h1 g=>?_,λy hy=>?_,λy c _ h=>?_,λ_=>hd,Around.frames_deeper j.frames,.inr ⟨rfl,rfl⟩,λb z=>absurd z (l b),j.bs,j.Gb,λb _ _=>l b,λb z=>absurd z (l b),j.lO,j.Ks⟩,rfl,j.bare,Un.kept B,⟨_,x.toInCall.ns,λi y v h1 g L=>?_⟩,λy c h=>⟨_,x.cell y c h⟩,j.hok.fresh (eY),λy c h=>?_,λp m=>absurd (show p∈([]:List (Addr×Obj))from m) (by simp),j.hok.kept B,?_⟩;.exact name_of_addr x.apart (PySem.mem_of_lookup h1) (PySem.mem_of_lookup g)
 . have hy:scope.names.lookup y=some .cell\/scope.names.lookup y=some .free:=hy;rcases hy with hy|hy;.exact yC hy
   .exact absurd rfl (S.VB _ (PySem.mem_of_lookup hy))
 .exact le_of_lt (x.above y c (PySem.mem_of_lookup h))
 . have hi:i<vs.length:=by
    unfold start at g;by_cases hi:i<vs.length;.exact hi
    .rw[getElem?_append_right (by simpa using hi)]at g;rw[getElem?_replicate]at g;split at g<;>cases g
   have G:vs[i]?=some v:=by unfold start at g;rw[getElem?_append_left (by simpa using hi),getElem?_map]at g;cases e:vs[i]?with|none=>rw[e]at g;cases g|some a=>rw[e]at g;cases g;rfl
   obtain⟨u,C,I⟩:=r.get G;have m:ps[i]?=some y:=by rw[<-S.pre,List.getElem?_take_of_lt (by omega)];exact h1
   have o:ps.Nodup:=by rw[<-S.pre];exact S.nd.sublist (List.take_sublist _ _)
   refine⟨u,I,?_⟩;rcases S.par y (mem_of_getElem? m)with k|k;.exact .inl ⟨k,uZ o m C k⟩
   .obtain⟨c,e⟩:=yC (n:=s.heap.objs.size+1) k;refine .inr ⟨.inl k,c,e,?_⟩;have q:=x.cell y c e;rw[uE o m C (by show scope.names.lookup y≠_;rw[k];decide)]at q;exact q
 .exact j.hok.fresh (le_of_lt (x.above y c (PySem.mem_of_lookup h)))
 .unfold start;show _=N.length;rw[length_append,length_map,List.length_replicate];omega
theorem Py{CX:Gn}{P:Program}{w:World}{K:PySem.W.Frag}{mg:Str->Option Value}{base:Heap}{k:Nat}{f:Addr}{name qual:Str}{a:Arguments}{body:List Stmt}{scope:Scope}{G kV l L cdv ct oc:Value}{O od:Option Addr}{p:Array (Option Value)}{N ps:List Str}{sp:Sp}(lk:K.lookup f=some ⟨oc,od,.func (PySem.W.fnOf name qual a body scope G kV l L O cdv ct),p⟩)(z:PySem.W.codeIn K cdv qual=true)(S:aO N ps scope)(len:∀vs H Q E,sp vs H Q E->vs.length=ps.length)(g:∀(A:Around)(outer:List Env)(s:Shared)(H:Hp)(vs:List V)(Q:VK)(E:XK),iW k (A.deeper (envOfC qual scope s.heap.objs.size f cdv))->sp vs H Q E->∃t,pO (lU CX P w K mg base N qual scope f cdv A outer s H E) body t/\t {nx:=λ_ c=>Q .non c,rt:=Q} (start N vs) H):jh P w K mg base CX (k+1) f (PySem.W.fnOf name qual a body scope G kV l L O cdv ct) ps sp:=by
 refine⟨len,λA outer s H args us vs Q E hr m Y r hsp=>?_⟩;have Z:=len _ _ _ _ hsp;have U:K.In s.heap:=m.mod.qt.keeps λb o e=>(m.bs b o e).1;have lim:s.heap.NoLimit:=m.mod.nolimit.keeps λb o e=>(m.bs b o e).1;have j:∀y∈ps.zip us,scope.names.lookup y.1=some .local\/(scope.names.lookup y.1=some .cell/\((cellsFrom (s.heap.objs.size+1) scope.names []).lookup y.1).isSome=true):=λ⟨n,v⟩hy=>by
  rcases S.par n (of_mem_zip hy).1 with q|q;.exact .inl q
  .exact .inr ⟨q,PySem.W.cellsFrom_some _ _ _ (.inl q)⟩
 refine codeAny_call_function hr.depth (U _ _ lk) rfl S.co S.gen rfl (PySem.W.codeRec_of U z) (Y _ _ _ _ ?_);refine wpAny_newFunctionEnv_cells S.kind j λenv he s1 x=>?_;subst he;refine⟨lim.keeps x.toInCall.keep,codeAny_func ?_⟩;obtain⟨t,ht,hq⟩:=g A outer s H vs Q E (hr.deeper _) hsp;have I:Inv (lU CX P w K mg base N qual scope f cdv A outer s H E) [] (start N vs) H s1:=Ez S hr.hd m Z r x;refine wpAny_mono (ht [] s1 (start N vs) H _ I hq) (λfl B hs=>?_) λe B hs=>hs;have fin:∀{σ':St}{c:Hp}{v:V}{u:Value},Inv (lU CX P w K mg base N qual scope f cdv A outer s H E) [] σ' c B->RelV v u->Q v c->CE outer P w H s Q u B:=λ{σ' c v u}J C q=>⟨v,c,J.os,J.bare,J.base,J.hok,C,q⟩;cases fl with|ret u=>obtain⟨v,σ',c,J,C,q⟩:=hs;exact fin J C q|next=>obtain⟨σ',c,J,q⟩:=hs;exact fin (v:=V.non) (u:=Value.none) J rfl q|brk=>obtain⟨_,_,_,q⟩:=hs;exact False.elim q|cont=>obtain⟨_,_,_,q⟩:=hs;exact False.elim q
section
variable{X:Cx}{x:Str}{p pos:Pos}{e:Expr}{es:List Expr}{t:TA}{id T:String}{r:List V->Hp->VK->Prop}
def tCB(r:List V->Hp->VK->Prop)(t:TA):TE:=λσ H Q=>t σ H λvs a=>r vs a Q
theorem dD(hc:dU X (.builtin id) r)(b:Gl X x)(c:X.mg x=none)(f:bootBuiltins x=some (.builtin id))(g:PA X (e::es) t)(j:x≠"__name__":=by decide)(a:(x==("__debug__":Str))=false:=by decide)(he:starEach (e::es) X.env=(false,eval e X.env)::starEach es X.env:=by rfl)(hpl:(backTo pos (starEach es X.env)).any (·.1)=false:=by rfl):PE X (.Call (.Name x p) (e::es) [] pos) (tCB r t):=by intro pins s σ H Q I h;refine wpAny_Call_Name_kw (mz I b c f ?_ j a);exact PyProof.Rows.callWith_builtin1 (bV (g pos pins s σ H _ I h) λus s1⟨vs,H1,I1,r1,q1⟩=>hc pins s1 σ H1 vs us Q I1 r1 q1) he hpl
theorem o6(hc:dU X (.type T) r)(b:Gl X x)(c:X.mg x=none)(f:bootBuiltins x=some (.type T))(g:PA X (e::es) t)(j:x≠"__name__":=by decide)(a:(x==("__debug__":Str))=false:=by decide)(he:starEach (e::es) X.env=(false,eval e X.env)::starEach es X.env:=by rfl)(hpl:(backTo pos (starEach es X.env)).any (·.1)=false:=by rfl):PE X (.Call (.Name x p) (e::es) [] pos) (tCB r t):=by intro pins s σ H Q I h;refine wpAny_Call_Name_kw (mz I b c f ?_ j a);exact PyProof.Rows.callWith_type1 (bV (g pos pins s σ H _ I h) λus s1⟨vs,H1,I1,r1,q1⟩=>hc pins s1 σ H1 vs us Q I1 r1 q1) he hpl
end
end L2
namespace HT
open PySem PyProof.Rows
section
variable{prog:Program}{w:World}{A:Around}{E:Value->Shared->Prop}{s:Shared}
theorem Mp{t b:Addr}{vs ws:List Value}{Q:Value->Shared->Prop}(ht:IsTup s.heap t vs.toArray)(m:IsTup s.heap b ws.toArray)(j:vs≠[])(h1:ws=[]->Q (.ref t) s)(o:ws≠[]->Q (.ref s.heap.objs.size) {s with heap:=s.heap.push {cls:=.type "tuple",data:=.seq (vs++ws).toArray}})(hsz:vs.length+ws.length<=sizeLine):wpAny (model prog w) A (binaryOp .Add (.ref t) (.ref b)) Q E s:=by
 obtain⟨⟨cls,dd,data,sl⟩,ho,hc,n,hd⟩:=id ht;obtain⟨⟨k,c,data2,f⟩,a,g,l,h⟩:=id m;simp only at hc hd g h;subst hc hd g h;have e:vs.toArray++ws.toArray=(vs++ws).toArray:=by simp
 by_cases i:ws=[];.exact concat_meets ⟨_,ho,rfl⟩ ⟨_,a,rfl⟩ noFill_tuple_add seq_tuple_add slot_tuple_add entry_tuple_add (args_tuple_add_2 _ _) (tuple_addW1 t b vs.toArray ws.toArray n l dd c sl f (by simpa using j) (by simp[i])) ⟨ho,a,h1 i⟩
 .refine concat_meets ⟨_,ho,rfl⟩ ⟨_,a,rfl⟩ noFill_tuple_add seq_tuple_add slot_tuple_add entry_tuple_add (args_tuple_add_2 _ _) (tuple_addW2 t b vs.toArray ws.toArray n l dd c sl f (by simpa using j) (by simpa using i) (by rw[size_toArray,size_toArray];exact hsz)) ⟨ho,a,?_⟩;rw[e];exact o i
noncomputable def dR(n d:Nat):Option Int->Nat|none=>d|some v=>if v<0 then(v+(n:Int)).toNat else min v.toNat n
theorem Sg(n d:Nat)(hd:d<=n)(o:Option Int):dR n d o<=n:=by cases o with|none=>exact hd|some v=>
   show(if v<0 then(v+(n:Int)).toNat else min v.toNat n)<=n;by_cases a:v<0;.rw[if_pos a];omega
   .rw[if_neg a];exact Nat.min_le_right _ _
theorem Dp(v:Int)(n d:Nat):(if v<0 then max (v+(n:Int)) 0 else min v (n:Int))=((dR n d (some v):Nat):Int):=by
 show(if v<0 then max (v+(n:Int)) 0 else min v (n:Int))=(((if v<0 then(v+(n:Int)).toNat else min v.toNat n):Nat):Int);by_cases a:v<0;.simp only[if_pos a];omega
 .simp only[if_neg a];omega
theorem Ar(lo hi:Option Int)(n:Nat):sliceAdjust lo hi 1 (n:Int)=(((dR n 0 lo:Nat):Int),((dR n n hi:Nat):Int)):=by
 have h1:¬((1:Int)<0):=by omega
 unfold sliceAdjust;simp only[h1,if_false];refine Prod.ext ?_ ?_;.cases lo with|none=>rfl|some v=>exact Dp v n 0
 .cases hi with|none=>rfl|some v=>exact Dp v n n
theorem zR(i j:Nat):slicePlaces (i:Int) (j:Int) 1=j-i:=by
 unfold slicePlaces;have h1:(1:Int)>0:=by omega
 simp only[h1,if_true,Int.ediv_one];split<;>omega
theorem sV{v:Value}{o:Option Int}{Q:Option Int->Shared->Prop}(p:IsPart v o)(h:Q o s):wpAny (model prog w) A (Builtin.Slice.slicePartIndex v) Q E s:=by cases p with|none=>exact slicePart_none h|int i t=>exact slicePart_int h
theorem jc{sl:Addr}{c e:Value}{lo hi:Option Int}{n:Nat}{Q:Int×Int×Nat->Shared->Prop}(hs:s.heap.IsSliceOf sl c e .none)(f:IsPart c lo)(g:IsPart e hi)(h:Q (((dR n 0 lo:Nat):Int),1,dR n n hi-dR n 0 lo) s):wpAny (model prog w) A (sliceApplied (.ref sl) (pure (n:Int))) Q E s:=by obtain⟨os,a,i,b⟩:=id hs;unfold sliceApplied Builtin.Slice.sliceFields;refine wpAny_bind (wpAny_bind (wpAny_field a b (x:=c) rfl (wpAny_bind (wpAny_field a b (x:=e) rfl (wpAny_bind (wpAny_field a b (x:=.none) rfl (wpAny_pure ?_)))))));refine wpAny_bind (slicePart_none ?_);show wpAny _ _ (if((1:Int)==0)=true then _ else _) _ _ s;rw[if_neg (by decide)];refine wpAny_bind (sV f (wpAny_bind (sV g (wpAny_bind (wpAny_pure ?_)))));show wpAny _ _ (match sliceAdjust lo hi 1 (n:Int)with|(lo,hi)=>pure (lo,(1:Int),slicePlaces lo hi 1)) _ _ s;rw[Ar lo hi n];show wpAny _ _ (pure (((dR n 0 lo:Nat):Int),(1:Int),slicePlaces ((dR n 0 lo:Nat):Int) ((dR n n hi:Nat):Int) 1)) _ _ s;rw[zR];exact wpAny_pure h
theorem Hd(xs:Array Value)(i k:Nat):((List.range k).filterMap λ(m:Nat)=>xs[((i:Int)+(m:Int)*1).toNat]?).toArray=((xs.toList.drop i).take k).toArray:=by
 have e:(λ(m:Nat)=>xs[((i:Int)+(m:Int)*1).toNat]?)=λm=>xs[i+m]?:=by
  funext m;have:((i:Int)+(m:Int)*1).toNat=i+m:=by omega
  rw[this]
 rw[e];have:=pick_run xs i k;rw[List.filterMap_map]at this;have a:((λx=>xs[x]?)∘ λx=>i+x)=λm=>xs[i+m]?:=rfl;rw[a]at this;rw[this]
theorem nF{t sl:Addr}{items:Array Value}{g i:Value}{lo hi:Option Int}{Q:Value->Shared->Prop}(ht:IsTup s.heap t items)(hs:s.heap.IsSliceOf sl g i .none)(j:IsPart g lo)(k:IsPart i hi)(l:¬(dR items.size 0 lo=0/\dR items.size items.size hi=items.size))(h:Q (.ref s.heap.objs.size) {s with heap:=s.heap.push {cls:=.type "tuple",data:=.seq ((items.toList.drop (dR items.size 0 lo)).take (dR items.size items.size hi-dR items.size 0 lo)).toArray}})(hsz:items.size<=sizeLine):wpAny (model prog w) A (getItem (.ref t) (.ref sl)) Q E s:=by
 have a:sizeOk (.seq ((items.toList.drop (dR items.size 0 lo)).take (dR items.size items.size hi-dR items.size 0 lo)).toArray):=by show((items.toList.drop (dR items.size 0 lo)).take (dR items.size items.size hi-dR items.size 0 lo)).toArray.size<=sizeLine;rw[size_toArray,length_take,List.length_drop,length_toList];omega
 have o:dR items.size items.size hi<=items.size:=Sg _ _ (eY) hi;obtain⟨os,b,c,n⟩:=id hs;have e:s.TypeIs (.ref sl) "slice":=⟨os,b,c⟩;unfold getItem;try with_reducible refine wpAny_holding ?_
 first|refine wpAny_bind (wpAny_pure ?_)|skip
 refine wpAny_bind (wpAny_sequenceKey ht.typeIs (by decide) ?_);refine wpAny_bind (wpAny_callSpecial?_slot (name:=Str.ofString "__getitem__") ht.typeIs PyProof.Rows.slot_tuple_getitem (wpAny_call_entry PyProof.Rows.slot_tuple_getitem ht.typeIs entry_tuple_getitem ?_ (args_tuple_getitem _ _)));show wpAny _ _ (tupleItemsOf (.ref t)>>=_) _ _ s;refine wpAny_bind (tupleItemsOf_ ht ?_);refine wpAny_bind (wpAny_typeOf e ?_);rw[if_pos (by decide)];refine wpAny_bind (jc hs j k ?_);have f:¬((((dR items.size 0 lo:Nat):Int)==0&&(1:Int)==1&&(dR items.size items.size hi-dR items.size 0 lo)==items.size)=true):=by intro q;rw[and_eq_true,and_eq_true]at q;have p:((dR items.size 0 lo:Nat):Int)=0:=eq_of_beq q.1.1;have r:dR items.size items.size hi-dR items.size 0 lo=items.size:=eq_of_beq q.2;exact l ⟨by omega,by omega⟩
 show wpAny _ _ (if(((dR items.size 0 lo:Nat):Int)==0&&(1:Int)==1&&(dR items.size items.size hi-dR items.size 0 lo)==items.size)=true then _ else _) _ _ s;rw[if_neg f,Hd];first|exact wpAny_bind (m:=tupleExact _) (wpAny_newObj_type (wpAny_pure ⟨_,rfl,wpAny_pure h⟩) a)|exact wpAny_bind (m:=tupleExact _) (wpAny_newObj_type (wpAny_bind (wpAny_pure (wpAny_pure ⟨_,rfl,wpAny_pure h⟩))) a)|exact wpAny_bind (wpAny_bind (m:=tupleExact _) (wpAny_newObj_type (wpAny_pure (wpAny_pure ⟨_,rfl,wpAny_pure h⟩)) a))|exact wpAny_bind (wpAny_bind (m:=tupleExact _) (wpAny_newObj_type (wpAny_pure ⟨_,rfl,wpAny_pure h⟩) a))
end
end HT
namespace L2
open PySem PySem.Spec PyProof.Rows
variable{n:Nat}{s:Shared}{x:V}
abbrev TO:=St->Hp->(Option Int->Hp->Prop)->Prop
def PO(X:Cx)(e:Option Expr)(t:TO):Prop:=∀(a:List (Addr × Obj))(s:Shared)(σ:St)(H:Hp)(Q:Option Int->Hp->Prop),Inv X a σ H s->t σ H Q->wpAny (model X.prog X.w) X.A (evalPart e X.env) (λu c=>∃o b,Inv X a σ b c/\IsPart u o/\Q o b) X.xe s
def Oq:TO:=λ_ H Q=>Q none H
def Zf(t:TE):TO:=λσ H Q=>t σ H λx a=>∃i,x=.int i/\Q (some i) a
section
variable{X:Cx}{e:Expr}{te:TE}{lo hi:Option Expr}{tl th:TO}{pos p2:Pos}
theorem Ow:PO X none Oq:=by intro a s σ H Q I h;rw[evalPart_none];exact wpAny_pure ⟨none,H,I,.none,h⟩
theorem NK(h:PE X e te):PO X (some e) (Zf te):=by intro a s σ H Q I b;rw[evalPart_some];refine bV (h a s σ H _ I b) λu s1⟨x,H1,I1,r1,q1⟩=>?_;obtain⟨i,rfl,q⟩:=q1;obtain⟨t,rfl⟩:=r1;exact⟨some i,H1,I1,.int i t,q⟩
def SlR(X:Cx)(r:V->Option Int->Option Int->Hp->VK->Prop):Prop:=∀(a:List (Addr × Obj))(s:Shared)(σ:St)(H:Hp)(x:V)(v b c:Value)(lo hi:Option Int)(sl:Addr)(Q:VK),Inv X a σ H s->RelV x v->s.heap.IsSliceOf sl b c .none->IsPart b lo->IsPart c hi->r x lo hi H Q->∃T id,typeLookup (.type T) "__getitem__"=pure (some (.builtin id))/\s.TypeIs v T/\wpAny (model X.prog X.w) X.A (getItem v (.ref sl)) (EP X a σ Q) X.xe s
def tSl(r:V->Option Int->Option Int->Hp->VK->Prop)(te:TE)(tl th:TO):TE:=λσ H Q=>te σ H λx a=>tl σ a λl b=>th σ b λu c=>r x l u c Q
theorem yP{r:V->Option Int->Option Int->Hp->VK->Prop}(hr:SlR X r)(he:PE X e te)(g:PO X lo tl)(i:PO X hi th):PE X (.Subscript e (.Slice lo hi none p2) pos) (tSl r te tl th):=by intro a s σ H Q I h;refine Subscript_ (bV (he a s σ H _ I h) λv s1⟨x,H1,I1,r1,q1⟩=>?_);refine wpAny_Slice (bV (g a s1 σ H1 _ I1 q1) λc s2⟨l,H2,I2,pl,q2⟩=>bV (i a s2 σ H2 _ I2 q2) λf s3⟨u,H3,I3,pu,q3⟩=>?_);rw[evalPart_none];refine wpAny_pure ?_;have j:Inv X a σ H3 {s3 with heap:=s3.heap.push {cls:=.type "slice",data:=.fields #[c,f,.none]}}:=I3.kept (t':=s3.toks) λb o q=>iK q;obtain⟨T,id,k,ht,m⟩:=hr a {s3 with heap:=s3.heap.push {cls:=.type "slice",data:=.fields #[c,f,.none]}} σ H3 x v c f l u s3.heap.objs.size Q j r1 (Heap.IsSliceOf.new ..) pl pu q3;show wpAny (model X.prog X.w) X.A (subscriptTail e (.Slice lo hi none p2) v (.ref s3.heap.objs.size)) (EP X a σ Q) X.xe {s3 with heap:=s3.heap.push {cls:=.type "slice",data:=.fields #[c,f,.none]}};exact tail_any (ops:=[.ref s3.heap.objs.size,v]) ht k m (by with_unfolding_all rfl)
noncomputable def yR(xs:List V)(lo hi:Option Int):List V:=(xs.drop (HT.dR xs.length 0 lo)).take (HT.dR xs.length xs.length hi-HT.dR xs.length 0 lo)
theorem pH(xs:List V)(lo hi:Option Int):(yR xs lo hi).length<=xs.length:=by unfold yR;rw[length_take,List.length_drop];omega
def aem(K:PySem.W.Frag):V->Option Int->Option Int->Hp->VK->Prop:=λx lo hi H Q=>∃a xs,x=.ref a/\lR K H a xs/\¬(HT.dR xs.length 0 lo=0/\HT.dR xs.length xs.length hi=xs.length)/\∀p,H p=none->Q (.ref p) (upd H p (.tup (yR xs lo hi)))
theorem Sw:SlR X (aem X.K):=by
 intro g s σ H x v p t lo hi sl Q I i hs j k h;obtain⟨a,xs,rfl,l,m,q⟩:=h;cases i;obtain⟨f,r,ht,hz⟩:=I.tuple l;have c:f.toArray.size=xs.length:=by rw[size_toArray];exact r.length.symm
 refine⟨"tuple",_,PyProof.Rows.slot_tuple_getitem.lookup,ht.typeIs,?_⟩;refine HT.nF ht hs j k (by rw[c];exact m) ?_ (by rw[c];exact hz);rw[c];refine⟨.ref s.heap.objs.size,_,I.laid (t':=s.toks) (o:=.tup (yR xs lo hi)) (λb u q=>iK q) (eY) ?_,rfl,q _ (I.hok.fresh (eY))⟩;exact⟨le_trans (pH xs lo hi) hz,_,(r.drop (HT.dR xs.length 0 lo)).take (HT.dR xs.length xs.length hi-HT.dR xs.length 0 lo),IsTup.new _ _⟩
def Ym(K:PySem.W.Frag):R2:=λx y H Q=>∃a b xs ys,x=.ref a/\y=.ref b/\lR K H a xs/\lR K H b ys/\xs≠[]/\xs.length+ys.length<=sizeLine/\(ys=[]->Q (.ref a) H)/\(ys≠[]->∀p,H p=none->Q (.ref p) (upd H p (.tup (xs++ys))))
theorem Vals.qG{xs:List V}{a:List Value}(r:Vals xs a):a=[]↔xs=[]:=by cases r with|nil=>simp|cons _ _=>simp
theorem Lz:iH X (binaryOp .Add) (Ym X.K):=by intro f s σ H x y v u Q I i j h;obtain⟨a,b,xs,ys,rfl,rfl,k,l,m,hz,p,r⟩:=h;cases i;cases j;obtain⟨t,r1,p1,_⟩:=I.tuple k;obtain⟨g,c,p2,_⟩:=I.tuple l;refine HT.Mp p1 p2 (λz=>m (r1.qG.mp z)) (λz=>⟨.ref a,H,I,rfl,p (c.qG.mp z)⟩) (λz=>?_) (by rw[<-r1.length,<-c.length];exact hz);refine⟨.ref s.heap.objs.size,_,I.laid (t':=s.toks) (o:=.tup (xs++ys)) (λb A q=>iK q) (eY) ?_,rfl,r (λw=>z (c.qG.mpr w)) _ (I.hok.fresh (eY))⟩;exact⟨by rw[length_append];exact hz,_,r1.append c,IsTup.new _ _⟩
end
noncomputable def jP(n:Nat)(i:Int):Option Nat:=if 0<=i then(if i<n then some i.toNat else none)else if-(n:Int)<=i then some (i+n).toNat else none
noncomputable def Jz{a:Type}(xs:List a)(i:Int):Option a:=(jP xs.length i).bind λj=>xs[j]?
theorem BZ{i:Int}{j:Nat}(h:jP n i=some j):seqIndex? i n=some j/\j<n/\-(n:Int)<=i/\i<n:=by
 unfold jP at h;by_cases h0:0<=i
 . rw[if_pos h0]at h;by_cases h1:i<n;.rw[if_pos h1]at h;have e:i.toNat=j:=Option.some.inj h;exact⟨by rw[seqIndex_of h0 h1,e],by omega,by omega,h1⟩
   .rw[if_neg h1]at h;cases h
 . rw[if_neg h0]at h;by_cases h1:-(n:Int)<=i;.rw[if_pos h1]at h;have e:(i+n).toNat=j:=Option.some.inj h;exact⟨by rw[seqIndex_neg (by omega) h1,e],by omega,h1,by omega⟩
   .rw[if_neg h1]at h;cases h
theorem vH{a:Type}{xs:List a}{i:Int}{v:a}(h:Jz xs i=some v):∃j,seqIndex? i xs.length=some j/\xs[j]?=some v/\j<xs.length/\-(xs.length:Int)<=i/\i<xs.length:=by unfold Jz at h;cases e:jP xs.length i with|none=>rw[e]at h;cases h|some j=>rw[e]at h;obtain⟨h1,b,c,f⟩:=BZ e;exact⟨j,h1,h,b,c,f⟩
def vZ(b:Expr):Prop:=∀o i,subscripted b false o i=operate [o,i] (getItem o i)
def IxR(X:Cx)(r:R2):Prop:=∀(b slice:Expr)(a:List (Addr × Obj))(s:Shared)(σ:St)(H:Hp)(x y:V)(v u:Value)(Q:VK),Inv X a σ H s->RelV x v->RelV y u->r x y H Q->subscripted slice false v u=operate [v,u] (getItem v u)->wpAny (model X.prog X.w) X.A (subscriptTail b slice v u) (EP X a σ Q) X.xe s
def MtR(X:Cx)(id:String)(r:V->List V->Hp->VK->Prop):Prop:=∀(a:List (Addr × Obj))(s:Shared)(σ:St)(H:Hp)(x:V)(xs:List V)(v:Value)(b:List Value)(Q:VK),Inv X a σ H s->RelV x v->Vals xs b->r x xs H Q->wpAny (model X.prog X.w) X.A (call (.builtin id) (v::b)) (EP X a σ Q) X.xe s
section
variable{X:Cx}{a b:Expr}{ta tb:TE}{pos:Pos}
theorem Pz{r:R2}(hr:IxR X r)(e:PE X a ta)(f:PE X b tb)(hs:vZ b):PE X (.Subscript a b pos) (TQ r ta tb):=by intro c s σ H Q I h;exact Subscript_ (RN e f I h λv u s2 x y g i j k q=>hr a b c s2 σ g x y v u Q i j k q (hs _ _))
def ZZ(K:PySem.W.Frag):R2:=λx y H Q=>∃p xs i v,x=.ref p/\y=.int i/\gJ K H p xs/\Jz xs i=some v/\Q v H
def acR(K:PySem.W.Frag):R2:=λx y H Q=>∃p xs i v,x=.ref p/\y=.int i/\lR K H p xs/\Jz xs i=some v/\Q v H
theorem BJ:IxR X (ZZ X.K):=by
 intro e slice c s σ H x y v u Q I m o h hs;obtain⟨p,xs,i,z,rfl,rfl,A,he,q⟩:=h;cases m;obtain⟨t,rfl⟩:=o;obtain⟨f,r,g,hz⟩:=I.list A;obtain⟨j,h1,B,M,C,E⟩:=vH he;obtain⟨w,l,G⟩:=r.get B;have J:=r.length;have N:=rR;have fin:EP X c σ Q w s:=⟨z,H,I,G,q⟩;by_cases h0:0<=i
 . have k:i.toNat=j:=by rw[seqIndex_of h0 E]at h1;exact Option.some.inj h1
   exact item_listR g.isList h0 (by omega) (by rw[k];simpa using l) fin hs
 . have k:(i+(f.toArray.size:Int)).toNat=j:=by rw[seqIndex_neg (by omega) C]at h1;rw[size_toArray,<-J];exact Option.some.inj h1
   exact subscriptTail_builtinR (x:=w) g.isList.typeIs slot_list_getitem.lookup (wpAny_getItem_list_neg (Q:=λr L=>r=w/\EP X c σ Q r L) g.isList (by omega) (by rw[size_toArray]<;>omega) (by omega) (by rw[k];simpa using l) ⟨rfl,fin⟩) hs
theorem TJ:IxR X (acR X.K):=by intro e slice c s σ H x y v u Q I g k h hs;obtain⟨p,xs,i,z,rfl,rfl,l,he,q⟩:=h;cases g;obtain⟨t,rfl⟩:=k;obtain⟨m,r,f,hz⟩:=I.tuple l;obtain⟨j,h1,o,G,J,L⟩:=vH he;obtain⟨w,A,B⟩:=r.get o;have C:=r.length;have M:=rR;have fin:EP X c σ Q w s:=⟨z,H,I,B,q⟩;exact subscriptTail_builtinR (x:=w) f.typeIs slot_tuple_getitem.lookup (getItem_tuple (j:=j) (Q:=λr E=>r=w/\EP X c σ Q r E) f (by omega) (by omega) (by rw[size_toArray,<-C];exact h1) (by simpa using A) ⟨rfl,fin⟩) hs
theorem zW(c:List Value)(n j:Nat)(u:Value):Obj.mapSeq (·.setIfInBounds j u) {cls:=.type "list",data:=.seq c.toArray n}={cls:=.type "list",data:=.seq (c.set j u).toArray n}:=by simp[Obj.mapSeq]
theorem Inv.lst{f:List (Addr×Obj)}{σ:St}{H:Hp}{s:Shared}{p:Addr}{xs:List V}(I:Inv X f σ H s)(h:H p=some (.lst xs)):∃(c:List Value)(n:Nat),Vals xs c/\s.heap.get? p=some {cls:=.type "list",data:=.seq c.toArray n}/\xs.length<=sizeLine:=by obtain⟨z,c,n,r,e⟩:=I.hok p _ h;exact⟨c,n,r,e,z⟩
theorem Inv.TX{c:List (Addr×Obj)}{σ:St}{H:Hp}{s:Shared}{p:Addr}{xs ys:List V}{g its':List Value}{n i:Nat}{f:Obj->Obj}(I:Inv X c σ H s)(h:H p=some (.lst xs))(ho:s.heap.get? p=some {cls:=.type "list",data:=.seq g.toArray n})(j:f {cls:=.type "list",data:=.seq g.toArray n}={cls:=.type "list",data:=.seq its'.toArray i})(r:Vals ys its')(hz:ys.length<=sizeLine)(t:Nat):Inv X c σ (upd H p (.lst ys)) {s with heap:=s.heap.update p f,toks:=t}:=by
 have e:(s.heap.update p f).get? p=some {cls:=.type "list",data:=.seq its'.toArray i}:=by rw[get?_update_self f ho (by rw[j]<;>rfl),j]
 refine I.write (x:=p) (e:=p) (by rw[h];trivial) (.inl rfl) (λb u k q=>(get?_update_other _ _ (Ne.symm k)).trans q) ⟨_,e⟩ ?_;exact⟨hz,its',i,r,e⟩
def Y5:V->V->V->Hp->(Hp->Prop)->Prop:=λo i v H Q=>∃p xs k j,o=.ref p/\i=.int k/\H p=some (.lst xs)/\jP xs.length k=some j/\Q (upd H p (.lst (xs.set j v)))
theorem set_list:Rx X Y5:=by
 intro c s σ H o i v E iv u Q I z A B h;obtain⟨p,xs,k,j,rfl,rfl,l,C,q⟩:=h;cases z;obtain⟨t,rfl⟩:=A;obtain⟨e,n,r,ho,hz⟩:=I.lst l;obtain⟨h1,G,m,w⟩:=BZ C;have f:=r.length;have J:=rR;have y:Inv X c σ (upd H p (.lst (xs.set j v))) {s with heap:=s.heap.update p (Obj.mapSeq (·.setIfInBounds j u))}:=I.TX l ho (zW e n j u) (r.set B j) (by rw[length_set];exact hz) s.toks;by_cases h0:0<=k
 . have g:k.toNat=j:=by rw[seqIndex_of h0 w]at h1;exact Option.some.inj h1
   exact PySem.W.ki_setAt ho h0 (by omega) (by rw[size_toArray,<-f];exact w) (by rw[g];exact⟨_,y,q⟩)
 . have g:(k+(e.toArray.size:Int)).toNat=j:=by rw[seqIndex_neg (by omega) m]at h1;rw[size_toArray,<-f];exact Option.some.inj h1
   exact PySem.W.ki_setBack ho (by omega) (by rw[size_toArray,<-f];exact m) (by omega) (by rw[g];exact⟨_,y,q⟩)
theorem vz(lo hi:Option Int)(n:Nat):(sliceBounds lo hi none n).1=((HT.dR n 0 lo:Nat):Int)/\(sliceBounds lo hi none n).2.1=((HT.dR n n hi:Nat):Int)/\(sliceBounds lo hi none n).2.2=1:=by
 refine⟨?_,?_,rfl⟩;.cases lo with|none=>simp[sliceBounds,HT.dR]|some i=>
     simp only[sliceBounds,HT.dR,getD_none,show(1:Int)>0 by decide,if_true];by_cases h:i<0;.simp only[h,if_true]<;>omega
     .simp only[h,if_false]<;>omega
 .cases hi with|none=>simp[sliceBounds,HT.dR]|some i=>
     simp only[sliceBounds,HT.dR,getD_none,show(1:Int)>0 by decide,if_true];by_cases h:i<0;.simp only[h,if_true]<;>omega
     .simp only[h,if_false]<;>omega
theorem tY(c:List Value)(lo hi:Option Int):slicePick c.toArray lo hi none=((c.drop (HT.dR c.length 0 lo)).take (HT.dR c.length c.length hi-HT.dR c.length 0 lo)).toArray:=by obtain⟨h1,e,f⟩:=vz lo hi c.toArray.size;unfold slicePick;rw[h1,e,f];simp only[sliceRange_one,pick_run,size_toArray]<;>rfl
def adz(K:PySem.W.Frag):V->Option Int->Option Int->Hp->VK->Prop:=λx lo hi H Q=>∃a xs,x=.ref a/\gJ K H a xs/\∀p,H p=none->Q (.ref p) (upd H p (.lst (yR xs lo hi)))
theorem LQ:SlR X (adz X.K):=by intro e s σ H x v l m lo hi sl Q I f hs g i h;obtain⟨a,xs,rfl,j,q⟩:=h;cases f;obtain⟨k,r,ht,hz⟩:=I.list j;have c:=r.length;refine⟨"list",_,slot_list_getitem.lookup,ht.isList.typeIs,?_⟩;refine wpAny_getItem_list_slice ht.isList hs g i .none (by simp) ?_ (by rw[size_toArray]<;>omega);rw[tY,<-c];refine⟨.ref s.heap.objs.size,_,I.laid (t':=s.toks) (o:=.lst (yR xs lo hi)) (λb p q=>iK q) (eY) ?_,rfl,q _ (I.hok.fresh (eY))⟩;exact⟨le_trans (pH xs lo hi) hz,_,0,(r.drop (HT.dR xs.length 0 lo)).take (HT.dR xs.length xs.length hi-HT.dR xs.length 0 lo),get?_push_size _ rfl⟩
noncomputable def lY:V->Bool|.non=>true|.bl _=>true|.int _=>true|.str _=>true|_=>false
noncomputable def M8:V->V->Bool|.non,.non=>true|.bl a,.bl b=>a==b|.bl a,.int b=>(if a then 1 else 0)==b|.int a,.bl b=>a==(if b then 1 else 0)|.int a,.int b=>a==b|.str a,.str b=>a==b|_,_=>false
theorem R9{A:Around}{y:V}{u v:Value}(e:RelV y u)(c:RelV x v)(g:lY y=true)(f:lY x=true):SeqAt.EqAt A s u v (M8 y x):=by cases y with
 |non=>cases e;cases x with|non=>cases c;exact SeqAt.EqAt.same _|bl b=>cases c;exact none_bool b|int b=>obtain⟨t,rfl⟩:=c;exact none_int b t|str b=>obtain⟨t,rfl⟩:=c;exact none_str b t|_=>exact absurd (show false=true from f) Bool.false_ne_true
 |bl a=>cases e;cases x with|non=>cases c;exact bool_none a|bl b=>cases c;exact bool_bool a b|int b=>obtain⟨t,rfl⟩:=c;exact bool_int a b t|str b=>obtain⟨t,rfl⟩:=c;exact bool_str a b t|_=>exact absurd (show false=true from f) Bool.false_ne_true
 |int a=>obtain⟨t',rfl⟩:=e;cases x with|non=>cases c;exact int_none a t'|bl b=>cases c;exact int_bool a t' b|int b=>obtain⟨t,rfl⟩:=c;exact int_int a t' b t|str b=>obtain⟨t,rfl⟩:=c;exact int_str a t' b t|_=>exact absurd (show false=true from f) Bool.false_ne_true
 |str a=>obtain⟨t',rfl⟩:=e;cases x with|non=>cases c;exact str_none a t'|bl b=>cases c;exact str_bool a t' b|int b=>obtain⟨t,rfl⟩:=c;exact str_int a t' b t|str b=>obtain⟨t,rfl⟩:=c;exact str_str a t' b t|_=>exact absurd (show false=true from f) Bool.false_ne_true
 |_=>exact absurd (show false=true from g) Bool.false_ne_true
noncomputable def Aa(x:V)(u:Value):Bool:=match u with|.none=>M8 .non x|.bool b=>M8 (.bl b) x|.int i _=>M8 (.int i) x|.str z _=>M8 (.str z) x|_=>false
theorem Hj{y:V}{u:Value}(r:RelV y u)(f:lY y=true):Aa x u=M8 y x:=by cases y with|non=>cases r;rfl|bl b=>cases r;rfl|int i=>obtain⟨t,rfl⟩:=r;rfl|str z=>obtain⟨t,rfl⟩:=r;rfl|_=>exact absurd (show false=true from f) Bool.false_ne_true
theorem n6{x:V}:∀{xs:List V}{c:List Value},Vals xs c->xs.all lY=true->c.any (Aa x)=xs.any λy=>M8 y x|_,_,.nil,_=>rfl|y::xs,u::c,.cons r t,f=>by rw[all_cons,and_eq_true]at f;rw[any_cons,any_cons,Hj r f.1,n6 t f.2]
theorem j9{A:Around}{s:Shared}{x:V}{v:Value}(e:RelV x v)(g:lY x=true):∀{xs:List V}{c:List Value},Vals xs c->xs.all lY=true->∀u∈c,SeqAt.EqAt A s u v (Aa x u)
 |_,_,.nil,_=>λu hu=>by cases hu|y::xs,u::c,.cons r t,f=>λh hu=>by
   rw[all_cons,and_eq_true]at f;rcases mem_cons.mp hu with rfl|hu;.rw[Hj r f.1];exact R9 r e f.1 g
   .exact j9 e g t f.2 h hu
noncomputable def inV(x:V)(xs:List V):Bool:=xs.any λy=>M8 y x
def rIn(K:PySem.W.Frag)(neg:Bool):R2:=λx y H Q=>∃p xs,y=.ref p/\(gJ K H p xs\/lR K H p xs)/\lY x=true/\xs.all lY=true/\Q (.bl (if neg then !inV x xs else inV x xs)) H
theorem FQ:iH X (compareOp .In) (rIn X.K false):=by
 intro g s σ H x y v u Q I i k h;obtain⟨p,xs,rfl,hq,j,fs,q⟩:=h;cases k;rcases hq with hq|hq;.obtain⟨c,r,e,hz⟩:=I.list hq;refine SeqAt.in_listAt (Aa x) e.isList (λw f=>j9 i j r fs w (by simpa using f)) ⟨.bl _,H,I,rfl,?_⟩;rw[show c.toArray.any (Aa x)=c.any (Aa x)by simp,n6 r fs];exact q
 .obtain⟨c,r,e,hz⟩:=I.tuple hq;refine SeqAt.in_tupleAt (Aa x) e (λw f=>j9 i j r fs w (by simpa using f)) ⟨.bl _,H,I,rfl,?_⟩;rw[show c.toArray.any (Aa x)=c.any (Aa x)by simp,n6 r fs];exact q
theorem vM:iH X (compareOp .NotIn) (rIn X.K true):=by
 intro g s σ H x y v u Q I i k h;obtain⟨p,xs,rfl,hq,j,fs,q⟩:=h;cases k;rcases hq with hq|hq;.obtain⟨c,r,e,hz⟩:=I.list hq;refine SeqAt.notIn_listAt (Aa x) e.isList (λw f=>j9 i j r fs w (by simpa using f)) ⟨.bl _,H,I,rfl,?_⟩;rw[show c.toArray.any (Aa x)=c.any (Aa x)by simp,n6 r fs];exact q
 .obtain⟨c,r,e,hz⟩:=I.tuple hq;refine SeqAt.notIn_tupleAt (Aa x) e (λw f=>j9 i j r fs w (by simpa using f)) ⟨.bl _,H,I,rfl,?_⟩;rw[show c.toArray.any (Aa x)=c.any (Aa x)by simp,n6 r fs];exact q
theorem wG:dU X (.builtin "len") (λxs H Q=>∃p ys,xs=[.ref p]/\(gJ X.K H p ys\/lR X.K H p ys)/\Q (.int ys.length) H):=by
 intro i s σ H xs k Q I r h;obtain⟨p,ys,rfl,hq,q⟩:=h;obtain⟨u,rfl,j⟩:=vals1 r;cases j;have l:=rR;rcases hq with hq|hq;.obtain⟨e,f,g,hz⟩:=I.list hq;have c:=f.length;exact Calls.call_len_list g.isList (by simp only[size_toArray]<;>omega) ⟨.int ys.length,H,I.tok _,⟨s.toks+1,by rw[size_toArray,c]⟩,q⟩
 .obtain⟨e,f,g,hz⟩:=I.tuple hq;have c:=f.length;exact len_tuple g (by simp only[size_toArray]<;>omega) ⟨.int ys.length,H,I.tok _,⟨s.toks+1,by rw[size_toArray,c]⟩,q⟩
theorem vO:dU X (.type "list") (λxs H Q=>∃p ys,xs=[.ref p]/\(gJ X.K H p ys\/lR X.K H p ys)/\∀l,H l=none->Q (.ref l) (upd H l (.lst ys))):=by
 intro i s σ H xs v Q I r h;obtain⟨p,ys,rfl,hq,q⟩:=h;obtain⟨u,rfl,t⟩:=vals1 r;cases t;have fin:∀(c:List Value),Vals ys c->ys.length<=sizeLine->∀(h':Heap)(f:Nat),(∀b m,s.heap.get? b=some m->h'.get? b=some m)->h'.get? s.heap.objs.size=some {cls:=.type "list",dict:=none,data:=.seq c.toArray f,slots:=#[]}->EP X i σ Q (.ref s.heap.objs.size) {s with heap:=h'}:=λc g hz h' f kp e=>⟨.ref s.heap.objs.size,_,I.laid (t':=s.toks) kp (eY) (show bw X.prog X.w _ h' _ (.lst ys)from⟨hz,c,f,g,e⟩),rfl,q _ (I.hok.fresh (eY))⟩;rcases hq with hq|hq;.obtain⟨c,g,k,hz⟩:=I.list hq;have j:=g.length;obtain⟨o,ho,hc,n,hd⟩:=k.isList;exact call_list_seq p (.inl rfl) ho hc hd (λh' f kp e=>fin c g hz h' f kp e) (by simp only[size_toArray]<;>omega)
 .obtain⟨c,g,k,hz⟩:=I.tuple hq;have j:=g.length;obtain⟨o,ho,hc,n,hd⟩:=k;exact call_list_seq p (.inr rfl) ho hc hd (λh' f kp e=>fin c g hz h' f kp e) (by simp only[size_toArray]<;>omega)
theorem mj:dU X (.type "tuple") (λxs H Q=>∃p ys,xs=[.ref p]/\((gJ X.K H p ys/\∀l,H l=none->Q (.ref l) (upd H l (.tup ys)))\/(lR X.K H p ys/\Q (.ref p) H))):=by
 intro c s σ H xs y Q I r h;obtain⟨p,ys,rfl,h⟩:=h;obtain⟨u,rfl,t⟩:=vals1 r;cases t;rcases h with⟨g,q⟩|⟨g,q⟩;.obtain⟨f,i,j,hz⟩:=I.list g;have k:=i.length;refine call_tuple_list j.isList (λh' kp=>?_) (by simp only[size_toArray]<;>omega);have m:Inv X c σ H {s with heap:=h'}:=I.kept (t':=s.toks) kp;have v:Inv X c σ (upd H h'.objs.size (.tup ys)) {s with heap:=h'.push {cls:=.type "tuple",data:=.seq f.toArray}}:=m.laid (t':=s.toks) (λb o e=>iK e) (eY) (show bw X.prog X.w _ _ _ (.tup ys)from⟨hz,f,i,IsTup.new _ _⟩);exact⟨.ref h'.objs.size,_,v,rfl,q _ (m.hok.fresh (eY))⟩
 .obtain⟨f,i,j,hz⟩:=I.tuple g;exact call_tuple_same j ⟨.ref p,H,I,rfl,q⟩
def tyV(K:PySem.W.Frag)(T:String)(x:V)(H:Hp):Prop:=match x with|.str _=>T="str"|.int _=>T="int"|.ref p=>(T="list"/\∃xs,gJ K H p xs)\/(T="tuple"/\∃o,K.lookup p=some o/\o.cls=.type "tuple"/\o.dict=none)\/(T="dict"/\((∃kvs,H p=some (.dK kvs))\/∃kvs,H p=some (.dT kvs)))\/(T="set"/\∃S n,H p=some (.set S n))|_=>False
theorem Sy{g:List (Addr×Obj)}{σ:St}{H:Hp}{T:String}{v:Value}(I:Inv X g σ H s)(r:RelV x v)(ty:tyV X.K T x H):
 s.TypeIs v T/\∀a,v=.ref a->∃j,s.heap.get? a=some j/\j.dict=none:=by cases x with|str z=>obtain⟨t,rfl⟩:=r;cases(show T="str"from ty);exact⟨typeIs_str s z t,λ_ e=>nomatch e⟩|int i=>obtain⟨t,rfl⟩:=r;cases(show T="int"from ty);exact⟨typeIs_int s i t,λ_ e=>nomatch e⟩|ref p=>
   cases r;rcases ty with⟨rfl,xs,l⟩|⟨rfl,o,f,hc,hd⟩|⟨rfl,f⟩|⟨rfl,S,n,f⟩;.obtain⟨m,_,k,_⟩:=I.list l;refine⟨k.isList.typeIs,λa e=>?_⟩;cases e;obtain⟨o,n,e,c,hd,_⟩:=k;exact⟨o,e,hd⟩
   .refine⟨⟨o,I.MP p o f,hc⟩,λa e=>?_⟩;cases e;exact⟨o,I.MP _ o f,hd⟩
   . have z:∃o,s.heap.get? p=some o/\o.ExactDict:=by
      rcases f with⟨kvs,f⟩|⟨kvs,f⟩;.obtain⟨_,_,_,_,o,_,_,e,ex,_⟩:=I.hok p _ f;exact⟨o,e,ex⟩
      .obtain⟨_,_,_,_,o,_,_,e,ex,_⟩:=I.hok p _ f;exact⟨o,e,ex⟩
     obtain⟨o,e,ex⟩:=z;refine⟨⟨o,e,ex.1⟩,λa h=>?_⟩;cases h;exact⟨o,e,ex.2.1⟩
   .obtain⟨o,_,_,_,e,ex,_⟩:=I.hok p _ f;refine⟨⟨o,e,ex.1⟩,λa h=>?_⟩;cases h;exact⟨o,e,ex.2.1⟩|_=>exact False.elim ty
def tBM(K:PySem.W.Frag)(T:String)(r:V->List V->Hp->VK->Prop)(to:TE)(t:TA):TE:=λσ H Q=>to σ H λx c=>tyV K T x c/\t σ c λxs e=>r x xs e Q
variable{o e:Expr}{es:List Expr}{to:TE}{t:TA}{name:Str}{apos cpos:Pos}{T id:String}{r:V->List V->Hp->VK->Prop}
theorem Qo(m:PlainAttrs T)(slot:Slot T name id)(k:typeOf (.builtin id)=pure (.type "method_descriptor"))(p:MtR X id r)(ho:PE X o to)(q:PA X (e::es) t)(g:attributeBase o name X.env (eval o X.env)=eval o X.env:=by rfl)(j:((backTo cpos (starEach (e::es) X.env)).all (λx=>!x.1)&&(backToKw cpos (keywordEach [] X.env)).all (λx=>x.1.isSome)&&decide ((e::es).length+([]:List Keyword).length+(if([]:List Keyword).isEmpty then 0 else 1)<30))=true:=by rfl)(i:(apos.endLine==cpos.line)=true:=by rfl)(hs:starEach (e::es) X.env=(false,eval e X.env)::starEach es X.env:=by rfl)(f:(backTo cpos (starEach es X.env)).any (·.1)=false:=by rfl):PE X (.Call (.Attribute o name apos) (e::es) [] cpos) (tBM X.K T r to t):=by intro c s σ H Q I h;refine wpAny_Call_method_late g j i rfl (bV (ho c s σ H _ I h) λv s1⟨x,H1,I1,r1,ty,q1⟩=>?_);obtain⟨h1,u⟩:=Sy I1 r1 ty;refine⟨T,id,m,slot,k,h1,u,?_⟩;have l:=q cpos c s1 σ H1 _ I1 q1;rw[hs]at l ⊢;refine Calls.callWith_builtin (by show(false||(backTo cpos (starEach es X.env)).any (·.1))=false;rw[f]<;>rfl) (Calls.evalArgs_plain ?_);exact bV l λw s2⟨vs,H2,I2,r2,q2⟩=>p c s2 σ H2 x vs v w Q I2 r1 r2 q2
end
def MtM(X:Cx)(id:String)(r:V->List V->Hp->VK->Prop):Prop:=∀(a:List (Addr × Obj))(s:Shared)(σ:St)(H:Hp)(x:V)(xs:List V)(v:Value)(b:List Value)(Q:VK),Inv X a σ H s->RelV x v->Vals xs b->r x xs H Q->wpAny (model X.prog X.w) X.A (call (.builtin id) (v::b)) (EP X a σ Q) X.xe s
theorem Vals.one:∀{x:V}{a:List Value},Vals [x] a->∃u,a=[u]/\RelV x u|x,a,h=>by cases h with|cons r t=>cases t;exact⟨_,rfl,r⟩
theorem Vals.two:∀{x y:V}{a:List Value},Vals [x,y] a->∃u v,a=[u,v]/\RelV x u/\RelV y v|x,y,a,h=>by cases h with|cons r t=>cases t with|cons q z=>cases z;exact⟨_,_,rfl,r,q⟩
theorem Vals.zero:∀{a:List Value},Vals [] a->a=[]|_,.nil=>rfl
theorem Vals.reverse{xs:List V}{a:List Value}(h:Vals xs a):Vals xs.reverse a.reverse:=by induction h with|nil=>exact .nil|cons r t b=>rw[reverse_cons,reverse_cons];exact Vals.append b (.cons r .nil)
theorem Vals.rep{xs:List V}{a:List Value}(h:Vals xs a):∀k:Nat,Vals (replicate k xs).flatten (replicate k a).flatten|0=>.nil|k+1=>by rw[replicate_succ,replicate_succ,flatten_cons,flatten_cons];exact Vals.append h (Vals.rep h k)
theorem foldl_rep(a:List Value):∀(k:Nat)(b:List Value),foldl (λc f=>c++f) b.toArray (replicate k a.toArray)=(b++(replicate k a).flatten).toArray
 |0,b=>by simp|k+1,b=>by
   have e:b.toArray++a.toArray=(b++a).toArray:=by simp
   have g:(b++a)++(replicate k a).flatten=b++(replicate (k+1) a).flatten:=by rw[replicate_succ,flatten_cons,append_assoc]
   rw[<-g,<-foldl_rep a k (b++a),<-e,replicate_succ,List.foldl_cons]
section
variable{X:Cx}{pins:List (Addr×Obj)}{σ:St}{H:Hp}{s:Shared}{l b:Addr}{xs ys zs:List V}
theorem Inv.aed{a its':List Value}{f:Array Value->Array Value}{t':Nat}(I:Inv X pins σ H s)(c:H l=some (.lst xs))(e:s.heap.get? l=some {cls:=.type "list",data:=.seq a.toArray n})(g:f a.toArray=its'.toArray)(h:Vals ys its')(hz:ys.length<=sizeLine):Inv X pins σ (upd H l (.lst ys)) {s with heap:=s.heap.update l (Obj.mapSeq f),toks:=t'}:=by have q:=PySem.IsL.update e f;rw[g]at q;refine I.write (x:=l) (e:=l) (by rw[c];exact trivial) (.inl rfl) (λb' u i j=>(get?_update_other s.heap (Obj.mapSeq f) (Ne.symm i)).trans j) ⟨_,q⟩ ?_;exact⟨hz,its',_,h,q⟩
theorem Inv.RB{a:List Value}{t':Nat}(I:Inv X pins σ H s)(c:Vals ys a)(hz:ys.length<=sizeLine):Inv X pins σ (upd H s.heap.objs.size (.lst ys)) {s with heap:=s.heap.push {cls:=.type "list",data:=.seq a.toArray},toks:=t'}:=I.laid (λ_ _ q=>iK q) (eY) ⟨hz,a,0,c,get?_push_size _ rfl⟩
theorem Inv.fresh(I:Inv X pins σ H s):H s.heap.objs.size=none:=I.hok.fresh (eY)
theorem Inv.adQ(I:Inv X pins σ H s)(c:H l=some (.lst xs)):xs.length<=sizeLine/\∃(a:List Value)(n:Nat),Vals xs a/\xs.length=a.length/\s.heap.get? l=some {cls:=.type "list",data:=.seq a.toArray n}:=by obtain⟨z,a,n,r,e⟩:=I.hok l _ c;exact⟨z,a,n,r,r.length,e⟩
theorem Kg(h:n<=sizeLine):listTooLong n=false:=by unfold listTooLong;exact decide_eq_false (by omega)
end
section
variable{X:Cx}
def Ng:V->List V->Hp->VK->Prop:=λx vs H Q=>∃l xs y,x=.ref l/\vs=[y]/\H l=some (.lst xs)/\xs.length<sizeLine/\Q .non (upd H l (.lst (xs++[y])))
theorem pg:MtM X "list.append" Ng:=by intro b s σ H x vs v j Q I f g h;obtain⟨l,xs,y,rfl,rfl,c,hz,q⟩:=h;cases f;obtain⟨u,rfl,i⟩:=g.one;obtain⟨z,a,n,r,k,e⟩:=I.adQ c;refine call_meets F.slot_list_append ⟨_,e,rfl⟩ F.entry_list_append (F.args_list_append_2 _ _) (PySem.list_append l a.toArray n u (by rw[size_toArray];omega)) ⟨e,?_⟩;refine⟨.non,_,I.aed (its':=a++[u]) c e (by simp) (r.append (.cons i .nil)) ?_,rfl,q⟩;rw[length_append,List.length_singleton];omega
theorem len_rep{a:Type}(xs:List a)(k:Nat):(replicate k xs).flatten.length=k*xs.length:=by induction k with|zero=>simp|succ k b=>rw[replicate_succ,flatten_cons,length_append,b,Nat.succ_mul,Nat.add_comm]
end
end L2
namespace Att
open PySem PySem.W PySem.Calls PyProof.Rows
theorem pX{P:Params}{h:Heap}:∀(ns:List Int)(vs:List Value),WellAll P h vs (ns.map WData.int)->IntsAre vs ns:=by intro ns;induction ns with|nil=>intro vs w;rw[map_nil]at w;cases w;exact .nil|cons n ns c=>intro vs w;rw[map_cons]at w;cases w with|cons a b=>cases a;exact .cons _ _ (c _ b)
theorem FT{l:OpenLaw}{n:Nat}(m:l.most=some n){P:Params}{h:Heap}{args:List WData}{b:List Value}(c:l.row.toRowW.claim.pre args=true)(j:WellAll P h b args):∃a vs ns,b=[Value.ref a]/\args=[WData.list (ns.map WData.int)]/\h.get? a=some {cls:=.type "list",data:=.seq vs.toArray}/\IntsAre vs ns/\ns.length<=n:=by
 have k:WShape.hasAll [] args [.list .int]=true:=(pre_splitW c).1;have hc:l.pre.holds [] {args:=args}=true:=(pre_splitW c).2;obtain⟨d,r,rfl,h1,o⟩:=hasAllW_cons k;obtain rfl:=hasAllW_nil o;obtain⟨xs,rfl,p⟩:=hasW_list h1;obtain⟨ns,rfl⟩:=items_int p;have e:ns.length<=n:=by
  unfold OpenLaw.pre at hc;have g:(WTm.not (.lt (.lit (.int (n:Int))) (.len (.arg 0)))).holds [] {args:=[.list (ns.map .int)]}=true:=by have g:=(holds_andW hc).1;rw[m]at g;exact g
  have i:=condW_of g (w_not (w_lt w_lit (w_len_list (w_arg rfl))));rw[length_map]at i;refine Nat.le_of_not_lt λq=>?_;have s:(n:Int)<((ns.length:Nat):Int):=by omega
  first|(rw[decide_eq_true s]at i;exact absurd i (by decide))|(simp at i;omega)
 cases j with|cons t u=>cases u;cases t with|list ho f=>exact⟨_,_,ns,rfl,rfl,ho,pX ns _ f,e⟩
theorem EY(l:OpenLaw)(args:List WData):l.row.toRowW.claim.post args (.bool true) args=true:=postW_of (r:=l.row.toRowW) (X:=(true==true)) (show WShape.has [] (.bool true) .bool=true by first|rfl|decide|simp[WShape.has,WShape.arms,WShape.armsAll]) (show(WTm.eq .res (.lit (.bool true))).value [] {args:=args,res:=some (.bool true),after:=args}=some (.bool (true==true))from w_eq_bool (w_res rfl) w_lit) rfl
theorem xH{l:OpenLaw}{n:Nat}{q:Program}{c:List Str}{z:(Str->Option Value)->Heap->Prop}{A:World->Heap->Prop}{d:DefRec}(H:l.most=some n)(s:d.params.defaults=[])(call:∀(w:World)(s₀ b:Shared)(mg t:Str->Option Value)(h:Addr)(o:Obj)(u m e:Value)(a:Addr)(vs:List Value)(ns:List Int),Ground q c [] z w s₀ mg t b.heap->A w b.heap->b.heap.get? h=some o->o.data=.func (docDef d.name d.params d.body d.scope u m e)->b.heap.CodeRec m d.name->mg d.name=some (.ref h)->b.heap.get? a=some {cls:=.type "list",data:=.seq vs.toArray}->IntsAre vs ns->ns.length<=n->b.gens=#[]->codeAny (model l.prog w) callerA (.call (.ref h) ⟨[.ref a],[]⟩) (λr p=>r=.ok (.ret (.bool true))/\OldK b.heap p.heap/\p.os=b.os/\AllBare p.gens) b):WalkO q c z A l.row.toRowW d [] (λf vs=>PySem.call f vs):=by intro w s₀ b mg t G Y h o u m e I kV ho hd v B x J args C as i E L y M;obtain rfl:I=.none:=Dflts.none B s;obtain rfl:kV=.none:=Dflts.noKw B;obtain⟨a,vs,ns,rfl,rfl,j,g,k⟩:=FT H i y;refine enter_call (codeAny_mono (call w s₀ b mg t h o u m e a vs ns G Y ho (fd_plain hd) v x j g k J) λr p N=>?_);obtain⟨rfl,O,Q,U⟩:=N;exact⟨.inl ⟨.bool true,.bool true,[],rfl,λ_=>rfl,.bool true,EY l _,λ_=>⟨List.Pairwise.nil,λ_ W=>(nomatch W)⟩⟩,O,Q,U⟩
end Att
namespace L2
open PySem PySem.Spec PyProof.Rows
theorem u0:∀{vs:List Value}{ns:List Int},IntsAre vs ns->Vals (ns.map V.int) vs|_,_,.nil=>.nil|_,_,.cons n t h=>.cons ⟨t,rfl⟩ (u0 h)
def Only(H:Hp):Prop:=∀b,H b=none\/∃o xs,H b=some (.dB o (.lst xs))
theorem Jl{P:Program}{w:World}{K:PySem.W.Frag}{mg G:Str->Option Value}{CX:Gn}{k:Nat}{I a:Addr}{fd:FuncData}{x:Str}{sp:Sp}{c:Shared}{vs:List Value}{ns:List Int}(O:K.In c.heap)(p:c.heap.Ns mainGlobals mg)(f:c.heap.Ns builtinsNs G)(J:∀x:Str,x≠"__name__"->G x=bootBuiltins x)(t:c.heap.NoLimit)(hg:c.gens=#[])(E:c.heap.get? a=some {cls:=.type "list",data:=.seq vs.toArray})(hi:IntsAre vs ns)(Q:ns.length<=sizeLine)(hr:iW k callerA)(F:∀base:Heap,K.In base->base.Ns mainGlobals mg->jh P w K mg base CX k I fd [x] sp)(l:∀(s:Shared)(u:Value),BindsTo s fd ⟨[u],[]⟩ [(x,u)])(hsp:∀H:Hp,Only H->gJ K H a (ns.map V.int)->sp [.ref a] H (λv _=>v=.bl true) λ_ _ _=>False)(L:∀H e g,CX [] H c (λ_ _ _=>False) e g->False):codeAny (model P w) callerA (.call (.ref I) ⟨[.ref a],[]⟩) (λr g=>r=.ok (.ret (.bool true))/\OldK c.heap g.heap/\g.os=c.os/\AllBare g.gens) c:=by
 have U:=u0 hi;have y:=hi.length--from an abstract heap in which nothing but the script may be tracked
 have j:∀H:Hp,Only H->gJ K H a (ns.map V.int)->jQ P w H c.heap->(∀b,H b≠none->b=a)->(H a≠none->K.lookup a=none)->codeAny (model P w) callerA (.call (.ref I) ⟨[.ref a],[]⟩) (λr g=>r=.ok (.ret (.bool true))/\OldK c.heap g.heap/\g.os=c.os/\AllBare g.gens) c:=by
  intro H X hS hok Y hK;have Z:∀{b:Addr}{o:Obj},c.heap.get? b=some o->H b=none->(v5 c.heap H).get? b=some o:=λe n=>Hm e n;have M:∀{b:Addr}{o:Obj}{es:Array DictEntry}{ep:Nat},c.heap.get? b=some o->o.data=.dict es ep->H b=none:=λ{b o es ep}e d=>by cases q:H b with|none=>rfl|some u=>have N:b=a:=Y b (by rw[q];simp);subst N;rw[E]at e;cases e;have d':Data.seq vs.toArray _=Data.dict es ep:=d;cases d'
  have i:∀{b:Addr}{m:Str->Option Value},c.heap.Ns b m->(v5 c.heap H).Ns b m:=λ{b m}⟨o,es,ep,e,d,r⟩=>⟨o,es,ep,Z e (M e d),d,r⟩;have A:K.In (v5 c.heap H):=λb o e=>Z (O b o e) (by cases q:H b with|none=>rfl|some u=>have N:b=a:=Y b (by rw[q];simp);subst N;rw[hK (by rw[q];simp)]at e;cases e);have hM:Mod K mg (v5 c.heap H):=⟨A,i p,⟨G,i f,J⟩,let⟨mc,h1,h2⟩:=t;⟨mc,i h1,h2⟩⟩;have e0:Ls P w K mg (v5 c.heap H) callerA [] c H:=⟨rfl,hM,λb o e=>Mw e,Nat.le_of_eq (El _ _),trivial,λb f=>absurd (show b∈([]:List Addr)from f) (by simp),hok,.of_eq hg⟩;refine codeAny_mono ((F _ A (i p)).run callerA [] c H ⟨[.ref a],[]⟩ [.ref a] [.ref a] _ _ hr e0 (l c (.ref a)) (.cons rfl .nil) (hsp H X hS)) λr g h=>?_;cases r with|error e=>exact(L H e g h).elim|ok fl=>cases fl with|next=>exact False.elim h|brk=>exact False.elim h|cont=>exact False.elim h|ret u=>obtain⟨v,H',os,bare,un,B,r',q⟩:=h;have q':v=.bl true:=q;subst q';obtain rfl:u=Value.bool true:=r';refine⟨rfl,OldK.of_keep λb o e=>?_,os,bare⟩;cases q:H b with|none=>exact un.keep b o e q (by intro z;exact absurd (show b∈([]:List Addr)from z) (by simp)) (by simp)|some u=>
        rcases X b with z|⟨ob,xs,z⟩;.rw[q]at z;cases z
        .have z2:=un.pZ b ob _ z;obtain⟨e1,_⟩:=hok b _ z;obtain⟨e2,_⟩:=B b _ z2;rw[e]at e1;cases e1;exact e2
 cases hk:K.lookup a with|some o=>--the script is one of the module's own objects
   have e:=O a o hk;rw[E]at e;cases e;refine j (λ_=>none) (λ_=>.inl rfl) (.inr ⟨_,vs.toArray,_,hk,rfl,rfl,rfl,by rw[size_toArray,y];exact Q,by simpa using U⟩) (λb u z=>by have C:(none:Option HO)=some u:=z;cases C) (λb z=>absurd rfl z) λz=>absurd rfl z|none=>
   refine j (λb=>if b=a then some (.dB {cls:=.type "list",data:=.seq vs.toArray} (.lst (ns.map V.int)))else none) (λb=>?_) (.inl (.inr ⟨{cls:=.type "list",data:=.seq vs.toArray},if_pos rfl⟩)) (λb u z=>?_) (λb z=>?_) λ_=>hk
   . by_cases f:b=a;.exact .inr ⟨_,_,if_pos f⟩
     .exact .inl (if_neg f)
   . by_cases f:b=a;.have C:=(if_pos f).symm.trans z;cases C;subst f;exact⟨E,by rw[length_map];exact Q,vs,_,U,E⟩
     .have C:=(if_neg f).symm.trans z;cases C
   . by_cases f:b=a;.exact f
     .exact absurd (if_neg f) z
theorem Lr{l:PySem.W.OpenLaw}{n k:Nat}{q:Program}{i:List Str}{I:(Str->Option Value)->Heap->Prop}{C:World->Heap->Prop}{d:DefRec}{K:Params->PySem.W.Frag}{CX:World->Gn}{sp:World->Sp}{x:Str}(J:l.most=some n)(t:n<=sizeLine)(y:d.params.defaults=[])(hr:iW k callerA)(L:∀(w:World)(h:Heap),C w h->(K w.params).In h)(F:∀(w:World)(mg:Str->Option Value)(r:Addr)(h:Heap),(K w.params).In h->h.Ns mainGlobals mg->mg d.name=some (.ref r)->∃ fd:FuncData,(∀(s:Shared)(u:Value),BindsTo s fd ⟨[u],[]⟩ [(x,u)])/\∀base:Heap,(K w.params).In base->base.Ns mainGlobals mg->jh l.prog w (K w.params) mg base (CX w) k r fd [x] (sp w))(hsp:∀(w:World)(H:Hp)(a:Addr)(ns:List Int),ns.length<=n->Only H->gJ (K w.params) H a (ns.map V.int)->sp w [.ref a] H (λv _=>v=.bl true) λ_ _ _=>False)(z:∀(w:World)(H:Hp)(s:Shared)(e:Value)(A:Shared),CX w [] H s (λ_ _ _=>False) e A->False):PySem.W.WalkO q i I C l.row.toRowW d [] (λf vs=>PySem.call f vs):=by refine Att.xH J y λw s₀ m mg mb r o pm cd M a vs ns G Y ho hd N B p j c O=>?_;have E:=L w _ Y;obtain⟨fd,Q,U⟩:=F w mg r _ E G.T.g B;exact Jl E G.T.g G.T.b G.T.builtins G.T.nolimit O p j (le_trans c t) hr U Q (λH X Z=>hsp w H a ns c X Z) λH e A=>z w H m e A
theorem Km{l:PySem.W.OpenLaw}{n k:Nat}{q:Program}{b:List Str}{p:(Str->Option Value)->Heap->Prop}{m:World->Heap->Prop}{d:DefRec}{K:Params->PySem.W.Frag}{CX:Gn}{sp:PySem.W.Frag->Sp}{x:Str}(r:l.most=some n)(c:n<=sizeLine)(g:d.params.defaults=[])(hr:iW k callerA)(t:∀(w:World)(h:Heap),m w h->(K w.params).In h)(F:∀(w:World)(mg:Str->Option Value)(o:Addr)(h:Heap),(K w.params).In h->h.Ns mainGlobals mg->mg d.name=some (.ref o)->∃ fd:FuncData,(∀(s:Shared)(u:Value),BindsTo s fd ⟨[u],[]⟩ [(x,u)])/\∀base:Heap,(K w.params).In base->base.Ns mainGlobals mg->jh l.prog w (K w.params) mg base CX k o fd [x] (sp (K w.params)))(hsp:∀(K:PySem.W.Frag)(H:Hp)(a:Addr)(ns:List Int),ns.length<=n->Only H->gJ K H a (ns.map V.int)->sp K [.ref a] H (λv _=>v=.bl true) λ_ _ _=>False)(i:∀(H:Hp)(s:Shared)(e:Value)(j:Shared),CX [] H s (λ_ _ _=>False) e j->False):PySem.W.WalkO q b p m l.row.toRowW d [] (λf vs=>PySem.call f vs):=Lr (K:=K) (CX:=λ_=>CX) (sp:=λw=>sp (K w.params)) r c g hr t F (λw H a ns h1 y z=>hsp (K w.params) H a ns h1 y z) λ_ H s e j=>i H s e j
end L2
namespace L2
open PySem PySem.Spec PyProof.Rows
noncomputable def gO(s:Stmt):Arguments:=match s with|.FunctionDef _ a _ _ _ _ _ _ _ _=>a|_=>{posonlyargs:=[],args:=[],vararg:=none,kwonlyargs:=[],kw_defaults:=[],kwarg:=none,defaults:=[]}
noncomputable def dZ(s:Stmt):List Stmt:=match s with|.FunctionDef _ _ b _ _ _ _ _ _ _=>b|_=>[]
noncomputable def ao(s:Stmt):Scope:=match s with|.FunctionDef _ _ _ _ _ _ a _ _ _=>a|_=>{kind:=.function,names:=[],isGenerator:=false,isCoroutine:=false}
abbrev JB:Gn:=λ_ _ _ _ _ _=>False
abbrev E0:XK:=λ_ _ _=>False
theorem Zx{X:Cx}:Passes JB X E0:=λ_ _ _ _ _ _ _ h=>h.elim
structure jy(K:PySem.W.Frag)(x qual:Str)(st:Stmt)(f:Addr)(fd:FuncData):Prop where
 ex:∃(oc:Value)(od:Option Addr)(kV doc pm:Value)(an:Option Addr)(cdv ct:Value)(osl:Array (Option Value)),fd=PySem.W.fnOf x qual (gO st) (dZ st) (ao st) .none kV doc pm an cdv ct/\K.lookup f=some ⟨oc,od,.func fd,osl⟩/\PySem.W.codeIn K cdv qual=true
 kp:keepIn K (.ref f)=true
section
variable{P:Program}{w:World}{K:PySem.W.Frag}{mg:Str->Option Value}{base:Heap}
theorem jy.ok{x qual:Str}{st:Stmt}{f:Addr}{fd:FuncData}{N ps:List Str}{k:Nat}{sp:Sp}(F:jy K x qual st f fd)(S:aO N ps (ao st))(len:∀vs H Q E,sp vs H Q E->vs.length=ps.length)(a:∀(cdv:Value)(A:Around)(outer:List Env)(s:Shared)(H:Hp)(vs:List V)(Q:VK)(E:XK),iW k (A.deeper (envOfC qual (ao st) s.heap.objs.size f cdv))->sp vs H Q E->∃t,pO (lU JB P w K mg base N qual (ao st) f cdv A outer s H E).YF (dZ st) t/\t {nx:=λ_ c=>Q .non c,rt:=Q} (start N vs) H):jh P w K mg base JB (k+1) f fd ps sp:=by obtain⟨oc,od,kV,e,i,j,cdv,ct,g,rfl,lk,b⟩:=F.ex;refine Py lk b S len λA outer s H vs Q E hr hsp=>?_;obtain⟨t,h,q⟩:=a cdv A outer s H vs Q E hr hsp;exact⟨t,h.YF,q⟩
theorem jy.binds{x qual:Str}{st:Stmt}{f:Addr}{fd:FuncData}{ps:List Str}(F:jy K x qual st f fd)(h:∀(kV a b:Value)(c:Option Addr)(cdv ct:Value)(e:List Value),e.length=ps.length->bindArgs (PySem.W.fnOf x qual (gO st) (dZ st) (ao st) .none kV a b c cdv ct) ⟨e,[]⟩=pure (ps.zip e)):Binds K fd ps []:=by obtain⟨oc,od,kV,a,b,c,cdv,ct,g,rfl,lk,i⟩:=F.ex;exact .all (h kV a b c cdv ct)
theorem Vc{x qual:Str}{st:Stmt}{f:Addr}{oc:Value}{od e:Option Addr}{b:Array (Option Value)}{kV a g cdv ct:Value}(l:K.lookup f=some ⟨oc,od,.func (PySem.W.fnOf x qual (gO st) (dZ st) (ao st) .none kV a g e cdv ct),b⟩)(c:PySem.W.codeIn K cdv qual=true)(k:keepIn K (.ref f)=true):jy K x qual st f (PySem.W.fnOf x qual (gO st) (dZ st) (ao st) .none kV a g e cdv ct):=⟨⟨oc,od,kV,a,g,e,cdv,ct,b,rfl,l,c⟩,k⟩
end
def aJ(H a:Hp):Prop:=∀b o,H b=some o->a b=some o
theorem aJ.refl(H:Hp):aJ H H:=λ_ _ h=>h
theorem aJ.trans{H e f:Hp}(a:aJ H e)(b:aJ e f):aJ H f:=λc o h=>b c o (a c o h)
theorem aJ.seq{K:PySem.W.Frag}{H b:Hp}{a:Addr}{xs:List V}(e:aJ H b)(h:gJ K H a xs):gJ K b a xs:=by
 rcases h with(h|⟨o,h⟩)|h;.exact .inl (.inl (e _ _ h))
 .exact .inl (.inr ⟨o,e _ _ h⟩)
 .exact .inr h
end L2
end
section
namespace HH
open PySem
inductive Dc where|k(kvs:List (Int×Int))|t(kvs:List (List Int×Int))deriving DecidableEq
inductive D where|non|bl(b:Bool)|int(i:Int)|str(s:Str)|tup(ds:List D)|lst(ds:List D)|dH(m:Dc)|dv(ks:List Int)(ds:List D)deriving Inhabited
mutual
noncomputable def lE:D->D->Bool|.non,.non=>true|.bl a,.bl b=>a==b|.bl a,.int i=>(if a then(1:Int)else 0)==i|.int i,.bl a=>i==(if a then(1:Int)else 0)|.int i,.int j=>i==j|.str a,.str b=>a==b|.tup xs,.tup ys=>lQ xs ys|.lst xs,.lst ys=>lQ xs ys|.dH a,.dH b=>decide (a=b)|.dv a xs,.dv b ys=>decide (a=b)&&lQ xs ys|_,_=>false
noncomputable def lQ:List D->List D->Bool|[],[]=>true|x::xs,y::ys=>lE x y&&lQ xs ys|_,_=>false
end
theorem mD:lQ [] []=true:=rfl
theorem jw{x y:D}{xs ys:List D}:lQ (x::xs) (y::ys)=(lE x y&&lQ xs ys):=rfl
theorem sr{y:D}{ys:List D}:lQ [] (y::ys)=false:=rfl
theorem qK{x:D}{xs:List D}:lQ (x::xs) []=false:=rfl
theorem pqi{i j}:lE (.int i) (.int j)=(i==j):=(rfl)
theorem pqt{x y}:lE (.tup x) (.tup y)=lQ x y:=(rfl)
theorem pql{x y}:lE (.lst x) (.lst y)=lQ x y:=(rfl)
noncomputable def jT:Nat->D->Bool|_,.non=>true|_,.bl _=>true|_,.int _=>true|_,.str _=>true|0,.tup _=>false|0,.lst _=>false|_,.dH _=>false|_,.dv _ _=>false|n+1,.tup a=>a.all (jT n)|n+1,.lst a=>a.all (jT n)
theorem bG{n:Nat}{a:List D}:jT (n+1) (.tup a)=a.all (jT n):=rfl
theorem bC{n:Nat}{a:List D}:jT (n+1) (.lst a)=a.all (jT n):=rfl
theorem bK{n:Nat}{m:Dc}:jT n (.dH m)=false:=by cases n<;>rfl
theorem bI{n:Nat}{k:List Int}{a:List D}:jT n (.dv k a)=false:=by cases n<;>rfl
theorem bL{a:List D}:jT 0 (.tup a)=false:=rfl
theorem bJ{a:List D}:jT 0 (.lst a)=false:=rfl
inductive Sl where|aN|val(b:Bool)(d:D)|own(b:Bool)(ds:List D)|lent(ds:List D)|iG(m:Dc)|hold(rows:List (List D))|cN(kvs:List (Int×D))deriving Inhabited
inductive R where|val(d:D)|own(ds:List D)deriving Inhabited
noncomputable def R.d:R->D|.val d=>d|.own a=>.lst a
inductive Res(α:Type)where|ok(a:α)(ρ:List Sl)|exc(k:Nat)(ρ:List Sl)|stuck deriving Inhabited
noncomputable def Res.bind{b c:Type}(f:b->List Sl->Res c):Res b->Res c|.ok a ρ=>f a ρ|.exc _ _=>.stuck|.stuck=>.stuck
noncomputable def lift{b:Type}(o:Option b)(ρ:List Sl):Res b:=match o with|some a=>.ok a ρ|none=>.stuck
inductive Op where|add|sub|mul|fdiv|mod|pow|shl|shr|band|Bd|din|aeI deriving DecidableEq
inductive Cm where|eq|ne|lt|le|gt|ge|isN|O4|inn|DR|isT|aad|leT deriving DecidableEq
inductive Ty where|int|bool|str|tuple|list|none deriving DecidableEq
inductive Zb where|len|list|tuple|min2|max2|Ge|sum|all|int|keys|Xk|rvT|Ku deriving DecidableEq
inductive P where|var(i:Nat)|con(d:D)|bin(o:Op)(a b:P)|neg(a:P)|not(a:P)|and(a b:P)|or(a b:P)|cmp(o:Cm)(a b:P)|QT(c a b:P)|tup(as:List P)|lst(as:List P)|idx(a i:P)|slice(a lo hi:P)|call(f:Nat)(as:List P)|blt(b:Zb)(as:List P)|inst(ts:List Ty)(a:P)|comp(src:P)(n:Nat)(is:List Nat)(one:Bool)(test:Option P)(elt:P)|wW(a b:P)|zip(a b:P)|Xl(x:Nat)(k d:P)|vw(x:Nat)|QV(x:Nat)(k:P)|QW(x:Nat)(k:P)(neg:Bool)|Be(k e:Int)deriving Inhabited
noncomputable abbrev lim:Nat:=16777216
noncomputable def rP:D->D->Option R|.int i,.int j=>some (.val (.int (i+j)))|.lst xs,.lst ys=>if xs.length+ys.length<=lim then some (.own (xs++ys))else none|.tup xs,.tup ys=>if xs.length+ys.length<=lim then some (.val (.tup (xs++ys)))else none|.str x,.str y=>if x.length+y.length<=lim then some (.val (.str (x++y)))else none|_,_=>none
noncomputable def lX:D->D->Option R|.int i,.int j=>if((-18446744073709551616<i/\i<18446744073709551616)\/(-18446744073709551616<j/\j<18446744073709551616))then some (.val (.int (i*j)))else none|.lst xs,.int k=>if 0<=k/\0<xs.length/\xs.length*k.toNat<=lim then some (.own (replicate k.toNat xs).flatten)else none|.tup xs,.int k=>if 0<=k/\0<xs.length/\xs.length*k.toNat<=lim then some (.val (.tup (replicate k.toNat xs).flatten))else none|_,_=>none
noncomputable def yJ:D->D->Option R|.int i,.int j=>some (.val (.int (i-j)))|_,_=>none
noncomputable def rB:D->D->Option R|.int i,.int j=>if 0<j/\j<1606938044258990275541962092341162602522202993782792835301376 then some (.val (.int (i/j)))else none|_,_=>none
noncomputable def yK:D->D->Option R|.int i,.int j=>if 0<j then some (.val (.int (i%j)))else none|_,_=>none
noncomputable def xF:D->D->Option R|.int i,.int j=>if 0<=j/\j<=1000/\i.natAbs<18446744073709551616 then some (.val (.int (i^j.toNat)))else none|_,_=>none
noncomputable def Jk:D->D->Option R|.int i,.int j=>if 0<=j/\j<=1000/\i.natAbs<18446744073709551616 then some (.val (.int (i*2^j.toNat)))else none|_,_=>none
noncomputable def Iz:D->D->Option R|.int i,.int j=>if 0<=j then some (.val (.int (i/2^j.toNat)))else none|_,_=>none
noncomputable def zp:D->D->Option R|.int i,.int j=>some (.val (.int (Builtin.bitAnd i j)))|_,_=>none
noncomputable def flat:D->Bool|.tup _=>false|.lst _=>false|.dH _=>false|.dv _ _=>false|_=>true
noncomputable def items:D->Option (List D)|.lst a=>some a|.tup a=>some a|_=>none
noncomputable def T6:D->Option (List D)|.tup a=>some a|_=>none
noncomputable def Jm(x y:D):Option Bool:=if jT 8 x&&jT 8 y then some (lE x y)else none
noncomputable def HJ(x y:D):Option Bool:=if jT 8 x&&jT 8 y then some (!lE x y)else none
noncomputable def La(f:Int->Int->Bool):D->D->Option Bool|.int i,.int j=>some (f i j)|_,_=>none
noncomputable def j6:D->Bool|.non=>true|_=>false
noncomputable def cmN(neg:Bool)(x:D):D->Option Bool|.non=>some (if neg then !j6 x else j6 x)|_=>none
noncomputable def yO(neg:Bool)(x y:D):Option Bool:=(items y).bind λys=>if(flat x&&ys.all flat)=true then some (if neg then !(ys.any λy=>lE y x)else ys.any λy=>lE y x)else none
noncomputable def cmT(neg:Bool):D->D->Option Bool|.bl b,.bl true=>some (if neg then !b else b)|_,_=>none
noncomputable def bu:List Int->List Int->Bool|[],_::_=>true|i::is,j::js=>decide (i<j)||(decide (i=j)&&bu is js)|_,[]=>false
noncomputable def tW:D->Int|.int i=>i|_=>0
noncomputable def cX:D->List Int|.int i=>[i]|.tup a=>a.map tW|_=>[]
noncomputable def ig:D->Bool|.int _=>true|_=>false
noncomputable def Dc.get:Dc->D->Option (Option Int)|.k kvs,.int i=>some ((kvs.find? λa=>decide (a.1=i)).map (·.2))|_,_=>none
noncomputable def putD{κ:Type}[DecidableEq κ](kvs:List (κ×Int))(k:κ)(v:Int):List (κ×Int):=if(kvs.any λa=>decide (a.1=k))=true then kvs.map (λa=>if a.1=k then(a.1,v)else a)else kvs++[(k,v)]
noncomputable def Dc.put:Dc->D->Int->Option Dc|.k kvs,.int i,v=>if kvs.length<lim then some (.k (putD kvs i v))else none|_,_,_=>none
noncomputable def mR(kvs:List (Int×D))(k:Int):Option D:=(kvs.find? λp=>decide (p.1=k)).map (·.2)
noncomputable def iz(kvs:List (Int×D))(k:Int)(d:D):List (Int×D):=if(kvs.any λp=>decide (p.1=k))=true then kvs.map (λp=>if p.1=k then(p.1,d)else p)else kvs++[(k,d)]
noncomputable def xx(neg:Bool):D->D->Option R|.int k,.dv ks _=>some (.val (.bl (if neg then !ks.contains k else ks.contains k)))|_,_=>none
noncomputable def Dj:D->D->Option R|.dH m,k=>(m.get k).bind λo=>o.map λv=>.val (.int v)|.dv ks a,.int k=>(mR (ks.zip a) k).map .val|_,_=>none
noncomputable def tR:Op->D->D->Option R|.add=>rP|.mul=>lX|.sub=>yJ|.fdiv=>rB|.mod=>yK|.pow=>xF|.shl=>Jk|.shr=>Iz|.band=>zp|.Bd=>Dj|.din=>xx false|.aeI=>xx true
noncomputable def Xx:D->D->Option Bool|.int i,.int j=>some (decide (i<j))|.tup xs,.tup ys=>if(xs.all ig&&ys.all ig)=true then some (bu (xs.map tW) (ys.map tW))else none|_,_=>none
noncomputable def adU:D->D->Option Bool|.int i,.int j=>some (decide (i<=j))|.tup xs,.tup ys=>if(xs.all ig&&ys.all ig)=true then some (!bu (ys.map tW) (xs.map tW))else none|_,_=>none
noncomputable def cm:Cm->D->D->Option Bool|.eq=>Jm|.ne=>HJ|.lt=>Xx|.le=>La λi j=>decide (i<=j)|.leT=>adU|.gt=>La λi j=>decide (j<i)|.ge=>La λi j=>decide (j<=i)|.isN=>cmN false|.O4=>cmN true|.inn=>yO false|.DR=>yO true|.isT=>cmT false|.aad=>cmT true
noncomputable def yI(o:Cm)(x y:D):Option R:=(cm o x y).map λk=>.val (.bl k)
noncomputable def jP(n:Nat)(i:Int):Option Nat:=if 0<=i then(if i<n then some i.toNat else none)else if-(n:Int)<=i then some (i+n).toNat else none
noncomputable def at'{a:Type}(xs:List a)(i:Int):Option a:=(jP xs.length i).bind λj=>xs[j]?
noncomputable def dR(n d:Nat):Option Int->Nat|none=>d|some i=>if 0<=i then min i.toNat n else(i+n).toNat
noncomputable def cut{a:Type}(xs:List a)(lo hi:Option Int):List a:=(xs.drop (dR xs.length 0 lo)).take (dR xs.length xs.length hi-dR xs.length 0 lo)
noncomputable def jb:D->Option Int|.int i=>some i|_=>none
noncomputable def zc:D->Option Bool|.bl b=>some b|_=>none
noncomputable def dl2(k e:Int)(x y:D):Option R:=(jb x).bind λi=>(jb y).bind λj=>if i=k then none else some (.val (.dv [k,i] [.int e,.int j]))
noncomputable def lixR:D->D->Option R|.lst a,.int i=>(a.mapM jb).bind λns=>if i∈ns/\ns.length<=1000 then some (.val (.int (ns.idxOf i)))else none|_,_=>none
noncomputable def Nv(x y:D):Option R:=(items x).bind λa=>(jb y).bind λi=>(at' a i).map .val
noncomputable def Jg(x:D):Option R:=(jb x).map λi=>.val (.int (-i))
noncomputable def Xu:P->Bool|.con .non=>true|_=>false
noncomputable def part(p:P)(d:D):Option (Option Int):=if Xu p then some none else(jb d).map some
noncomputable def Qi:D->Option (Option Int)->Option (Option Int)->Option R|.lst xs,some lo,some hi=>some (.own (cut xs lo hi))|.tup xs,some lo,some hi=>some (.val (.tup (cut xs lo hi)))|_,_,_=>none
noncomputable def cF:Ty->D->Bool|.int,.int _=>true|.int,.bl _=>true|.bool,.bl _=>true|.str,.str _=>true|.tuple,.tup _=>true|.list,.lst _=>true|.none,.non=>true|_,_=>false
noncomputable def yx:D->Bool|.tup (x::xs)=>(x::xs).all ig|_=>false
noncomputable def sortable(ds:List D):Bool:=decide (ds.length<=16777216)&&(ds.all ig||ds.all yx)
noncomputable def Qx(c:List D):List D:=c.mergeSort λa b=>!bu (cX b) (cX a)
noncomputable def ordP:D->Bool|.tup [.int _,.tup ws]=>ws.all ig|_=>false
noncomputable def flP:D->D|.tup [.int h,.tup ws]=>.tup (.int h::ws)|d=>d
noncomputable def ufP:D->D|.tup (.int h::ws)=>.tup [.int h,.tup ws]|d=>d
noncomputable def zy:D->Option (List D)|.lst a=>some a|_=>none
noncomputable def gj(p:Int×Int):D:=.tup [.int p.1,.int p.2]
noncomputable def blt:Zb->List D->Option R|.len,[x]=>(items x).map λc=>.val (.int c.length)|.list,[x]=>(items x).map λc=>.own c|.tuple,[x]=>(items x).map λc=>.val (.tup c)|.min2,[.int i,.int j]=>some (.val (.int (if j<i then j else i)))|.max2,[.int i,.int j]=>some (.val (.int (if i<j then j else i)))|.Ge,[x]=>((items x).bind λc=>c.mapM jb).bind λns=>ns.min?.map λi=>.val (.int i)|.sum,[x]=>((items x).bind λc=>c.mapM jb).map λns=>.val (.int ns.sum)|.all,[x]=>((zy x).bind λc=>c.mapM zc).map λbs=>.val (.bl (bs.all id))|.int,[.int i]=>some (.val (.int i))|.int,[.bl b]=>some (.val (.int (if b then 1 else 0)))|.keys,[.dH (.k kvs)]=>some (.val (.tup (kvs.map λp=>.int p.1)))|.keys,[.dv ks _]=>some (.val (.tup (ks.map D.int)))|.Xk,[.dv ks _]=>if ks.length<=16777216 then some (.own (ks.map D.int))else none|.rvT,[.lst c]=>some (.val (.tup c.reverse))|.Ku,[.dH (.k kvs)]=>if kvs.length<=16777216/\kvs.Pairwise (λa b=>a.1<b.1)then some (.own (kvs.map gj))else none|_,_=>none
noncomputable def pk(ρ:List Sl)(i:Nat):Option D:=match ρ[i]?with|some (.val _ d)=>some d|some (.own _ a)=>some (.lst a)|some (.lent a)=>some (.lst a)|_=>none
noncomputable def Gu(ρ:List Sl)(i:Nat):Option (List D):=match pk ρ i with|some (.lst a)=>some a|_=>none
noncomputable abbrev Ev:=List Sl->Res R
noncomputable def isVar:P->Option Nat|.var i=>some i|_=>none
noncomputable def cL(i:Option Nat)(e:Ev)(ρ:List Sl):Res D:=match i with|some i=>lift (pk ρ i) ρ|none=>(e ρ).bind λr ρ=>.ok r.d ρ
noncomputable def kj(i:Option Nat)(e:Ev)(j:Option Nat)(f:Ev)(ρ:List Sl):Res (D×D):=match i with|some i=>(lift (pk ρ i) ρ).bind λ_ ρ=>(cL j f ρ).bind λy ρ=>(lift (pk ρ i) ρ).bind λx ρ=>.ok (x,y) ρ|none=>(cL none e ρ).bind λx ρ=>(cL j f ρ).bind λy ρ=>.ok (x,y) ρ
noncomputable def iY(e:Ev)(ρ:List Sl):Res Bool:=(e ρ).bind λr ρ=>lift (zc r.d) ρ
inductive Arg where|dat(d:D)|tmp(ds:List D)|gq(i:Nat)
noncomputable def uV:R->Arg|.val d=>.dat d|.own a=>.tmp a
noncomputable def bO(ρ:List Sl):List Arg->List Nat->Option (List Sl)|[],_=>some []|.dat d::r,a=>(bO ρ r a).map λs=>.val false d::s|.tmp b::r,a=>(bO ρ r a).map λs=>.own false b::s|.gq i::r,a=>match ρ[i]?with|some (.val _ d)=>(bO ρ r a).map λs=>.val false d::s|some (.own _ b)=>if a.contains i then none else(bO ρ r (i::a)).map λs=>.own true b::s|some (.lent b)=>if a.contains i then none else(bO ρ r (i::a)).map λs=>.lent b::s|_=>none
theorem mC{ρ:List Sl}{u:List Nat}:bO ρ [] u=some []:=rfl
theorem mL{ρ:List Sl}{d:D}{r:List Arg}{u:List Nat}:bO ρ (.dat d::r) u=(bO ρ r u).map λs=>.val false d::s:=rfl
theorem mK{ρ:List Sl}{d:List D}{r:List Arg}{u:List Nat}:bO ρ (.tmp d::r) u=(bO ρ r u).map λs=>.own false d::s:=rfl
theorem jr{ρ:List Sl}{i:Nat}{r:List Arg}{u:List Nat}:bO ρ (.gq i::r) u=match ρ[i]?with|some (.val _ d)=>(bO ρ r u).map λs=>.val false d::s|some (.own _ a)=>if u.contains i then none else(bO ρ r (i::u)).map λs=>.own true a::s|some (.lent a)=>if u.contains i then none else(bO ρ r (i::u)).map λs=>.lent a::s|_=>none:=rfl
noncomputable def aM(i:Nat):List Arg->List Sl->Option Sl|.gq k::as,s::ss=>if k=i then some s else aM i as ss|.dat _::as,_::ss=>aM i as ss|.tmp _::as,_::ss=>aM i as ss|_,_=>none
noncomputable def dh:Sl->Option Sl->Sl|.own b _,some (.own _ a)=>.own b a|.own b _,some (.val _ d)=>.val b d|s,_=>s
noncomputable def fH(as:List Arg)(ss:List Sl):Nat->List Sl->List Sl|_,[]=>[]|i,s::ρ=>dh s (aM i as ss)::fH as ss (i+1) ρ
theorem jJ{as:List Arg}{ss:List Sl}{i:Nat}:fH as ss i []=[]:=rfl
theorem gV{as:List Arg}{ss:List Sl}{i:Nat}{s:Sl}{ρ:List Sl}:fH as ss i (s::ρ)=dh s (aM i as ss)::fH as ss (i+1) ρ:=rfl
noncomputable abbrev Call:=Nat->List Sl->Res R
noncomputable def jB(c:Call)(f:Nat)(as:List Arg)(ρ:List Sl):Res R:=match bO ρ as []with|none=>.stuck|some args=>match c f args with|.ok r a=>.ok r (fH as a 0 ρ)|.exc _ _=>.stuck|.stuck=>.stuck
noncomputable def put(ρ:List Sl)(i:Nat)(s:Sl):Option (List Sl):=match ρ[i]?with|some .aN=>some (ρ.set i s)|some (.val false _)=>some (ρ.set i s)|some (.own false _)=>some (ρ.set i s)|_=>none
noncomputable def putAll(ρ:List Sl):List Nat->List D->Option (List Sl)|[],[]=>some ρ|i::is,d::a=>(put ρ i (.val false d)).bind λρ=>putAll ρ is a|_,_=>none
theorem kE{ρ:List Sl}:putAll ρ [] []=some ρ:=rfl
theorem jA{ρ:List Sl}{i:Nat}{is:List Nat}{d:D}{a:List D}:putAll ρ (i::is) (d::a)=(put ρ i (.val false d)).bind λρ=>putAll ρ is a:=rfl
theorem oF{ρ:List Sl}{i:Nat}{is:List Nat}:putAll ρ (i::is) []=none:=rfl
theorem oR{ρ:List Sl}{d:D}{a:List D}:putAll ρ [] (d::a)=none:=rfl
noncomputable def cj(ρ:List Sl)(is:List Nat)(one:Bool)(d:D):Option (List Sl):=match one,is,d with|true,[i],d=>put ρ i (.val false d)|false,is,.tup a=>putAll ρ is a|_,_,_=>none
noncomputable def srcOf(i:Option Nat)(e:Ev)(ρ:List Sl):Res (List D):=match i with
 |some i=>match ρ[i]?with|some (.val _ d)=>lift (items d) ρ|some (.own _ a)=>.ok a (ρ.set i (.lent a))|some (.lent a)=>.ok a ρ|_=>.stuck
 |none=>(e ρ).bind λr ρ=>lift (items r.d) ρ
noncomputable def bj(a:List Sl)(i:Option Nat)(ρ:List Sl):List Sl:=match i with
 |some i=>match a[i]?with|some (.own b c)=>ρ.set i (.own b c)|_=>ρ
 |none=>ρ
noncomputable def srcY(i:Nat)(f:Ev)(ρ:List Sl):Res (List D×List Sl):=(f ρ).bind λr a=>(lift (items r.d) a).bind λes a=>match a[i]?with|some (.val _ d)=>(lift (items d) a).bind λb a=>.ok ((es.zip b).map λp=>D.tup [p.1,p.2],a) a|some (.own _ b)=>.ok ((es.zip b).map λp=>D.tup [p.1,p.2],a) (a.set i (.lent b))|some (.lent b)=>.ok ((es.zip b).map λp=>D.tup [p.1,p.2],a) a|_=>.stuck
noncomputable def turns(is:List Nat)(one:Bool)(a:List Sl->Res Bool)(e:Ev):List D->List D->List Sl->Res (List D)|[],c,ρ=>.ok c ρ|d::r,c,ρ=>match cj ρ is one d with|none=>.stuck|some ρ=>(a ρ).bind λb ρ=>if b then(e ρ).bind λx ρ=>turns is one a e r (c++[x.d]) ρ else turns is one a e r c ρ
theorem Ii{is:List Nat}{o:Bool}{f:List Sl->Res Bool}{e:Ev}{a:List D}{ρ:List Sl}:turns is o f e [] a ρ=.ok a ρ:=rfl
theorem J6{is:List Nat}{o:Bool}{f:List Sl->Res Bool}{e:Ev}{d:D}{r a:List D}{ρ:List Sl}:turns is o f e (d::r) a ρ=match cj ρ is o d with|none=>.stuck|some ρ=>(f ρ).bind λb ρ=>if b then(e ρ).bind λx ρ=>turns is o f e r (a++[x.d]) ρ else turns is o f e r a ρ:=rfl
mutual
noncomputable def ev(c:Call):P->List Sl->Res R
 |.var i,ρ=>match ρ[i]?with|some (.val _ d)=>.ok (.val d) ρ|some (.own b g)=>.ok (.val (.lst g)) (ρ.set i (.val b (.lst g)))|some (.iG (.k kvs))=>.ok (.val (.dH (.k kvs))) (ρ.set i (.val false (.dH (.k kvs))))|some (.cN kvs)=>.ok (.val (.dv (kvs.map (·.1)) (kvs.map (·.2)))) (ρ.set i (.val false (.dv (kvs.map (·.1)) (kvs.map (·.2)))))|_=>.stuck
 |.con d,ρ=>.ok (.val d) ρ|.bin o a b,ρ=>(kj (isVar a) (ev c a) (isVar b) (ev c b) ρ).bind λq ρ=>lift (tR o q.1 q.2) ρ|.neg a,ρ=>(cL (isVar a) (ev c a) ρ).bind λx ρ=>lift (Jg x) ρ|.not a,ρ=>(iY (ev c a) ρ).bind λb ρ=>.ok (.val (.bl (!b))) ρ|.and a b,ρ=>(iY (ev c a) ρ).bind λx ρ=>if x then(iY (ev c b) ρ).bind λy ρ=>.ok (.val (.bl y)) ρ else .ok (.val (.bl false)) ρ|.or a b,ρ=>(iY (ev c a) ρ).bind λx ρ=>if x then .ok (.val (.bl true)) ρ else(iY (ev c b) ρ).bind λy ρ=>.ok (.val (.bl y)) ρ|.cmp o a b,ρ=>(kj (isVar a) (ev c a) (isVar b) (ev c b) ρ).bind λq ρ=>lift (yI o q.1 q.2) ρ|.QT t a b,ρ=>(iY (ev c t) ρ).bind λk ρ=>if k then(ev c a ρ).bind λr ρ=>.ok (.val r.d) ρ else(ev c b ρ).bind λr ρ=>.ok (.val r.d) ρ|.tup as,ρ=>(evs c as ρ).bind λg ρ=>.ok (.val (.tup g)) ρ|.lst as,ρ=>(evs c as ρ).bind λg ρ=>.ok (.own g) ρ|.idx a i,ρ=>(kj (isVar a) (ev c a) (isVar i) (ev c i) ρ).bind λq ρ=>lift (Nv q.1 q.2) ρ|.slice a l h,ρ=>match isVar a with|some i=>(lift (pk ρ i) ρ).bind λ_ ρ=>(cL (isVar l) (ev c l) ρ).bind λy ρ=>(cL (isVar h) (ev c h) ρ).bind λz ρ=>(lift (pk ρ i) ρ).bind λx ρ=>lift (Qi x (part l y) (part h z)) ρ|none=>(cL none (ev c a) ρ).bind λx ρ=>(cL (isVar l) (ev c l) ρ).bind λy ρ=>(cL (isVar h) (ev c h) ρ).bind λz ρ=>lift (Qi x (part l y) (part h z)) ρ
 |.call f as,ρ=>(zj c as ρ).bind λxs ρ=>jB c f xs ρ|.blt b [a],ρ=>(cL (isVar a) (ev c a) ρ).bind λx ρ=>lift (blt b [x]) ρ|.blt b as,ρ=>(evs c as ρ).bind λg ρ=>lift (blt b g) ρ|.inst C a,ρ=>(cL (isVar a) (ev c a) ρ).bind λx ρ=>.ok (.val (.bl (C.any λt=>cF t x))) ρ|.comp src n is one w B,ρ=>(srcOf (isVar src) (ev c src) ρ).bind λg s=>if g.length<=lim then(turns is one (wN c w) (ev c B) g [] (s++replicate n .aN)).bind λxs u=>.ok (.own xs) (bj ρ (isVar src) (u.take s.length))else .stuck|.wW a b,ρ=>(kj (isVar a) (ev c a) (isVar b) (ev c b) ρ).bind λq ρ=>lift ((jb q.1).bind λi=>(jb q.2).bind λj=>if-1000000<=i/\i<=1000000000/\j<=1000000000/\-1000000000<=j then some (.val (.lst ((List.range (j-i).toNat).map λ(k:Nat)=>D.int (i+(k:Int)))))else none) ρ|.zip a b,ρ=>(ev c a ρ).bind λx ρ=>(ev c b ρ).bind λy ρ=>lift ((items x.d).bind λg=>(items y.d).map λes=>.val (.lst ((g.zip es).map λp=>D.tup [p.1,p.2]))) ρ|.Xl x k d,ρ=>match ρ[x]?with
   |some (.iG _)=>(cL (isVar k) (ev c k) ρ).bind λA ρ=>(cL (isVar d) (ev c d) ρ).bind λdd ρ=>match ρ[x]?with|some (.iG m)=>lift ((m.get A).bind λo=>(jb dd).map λv=>.val (.int (o.getD v))) ρ|_=>.stuck
   |_=>.stuck
 |.vw x,ρ=>match ρ[x]?with|some (.iG m)=>.ok (.val (.dH m)) (ρ.set x (.val false (.dH m)))|some (.cN kvs)=>.ok (.val (.dv (kvs.map (·.1)) (kvs.map (·.2)))) (ρ.set x (.val false (.dv (kvs.map (·.1)) (kvs.map (·.2)))))|some (.own b g)=>.ok (.val (.lst g)) (ρ.set x (.val b (.lst g)))|some (.val _ d)=>.ok (.val d) ρ|_=>.stuck
 |.QV x k,ρ=>match ρ[x]?with
   |some (.cN _)=>(cL (isVar k) (ev c k) ρ).bind λA ρ=>match ρ[x]?with|some (.cN kvs)=>lift ((jb A).bind λk=>(mR kvs k).map .val) ρ|_=>.stuck
   |_=>.stuck
 |.QW x k neg,ρ=>(cL (isVar k) (ev c k) ρ).bind λA ρ=>match ρ[x]?with|some (.cN kvs)=>lift ((jb A).map λk=>.val (.bl (if neg then !(kvs.map (·.1)).contains k else(kvs.map (·.1)).contains k))) ρ|_=>.stuck
 |.Be k e,ρ=>.ok (.val (.dv [k] [.int e])) ρ
noncomputable def evs(c:Call):List P->List Sl->Res (List D)|[],ρ=>.ok [] ρ|a::r,ρ=>(ev c a ρ).bind λx ρ=>(evs c r ρ).bind λxs ρ=>.ok (x.d::xs) ρ
noncomputable def zj(c:Call):List P->List Sl->Res (List Arg)|[],ρ=>.ok [] ρ|a::r,ρ=>match isVar a with|some i=>(lift (pk ρ i) ρ).bind λ_ ρ=>(zj c r ρ).bind λxs ρ=>.ok (.gq i::xs) ρ|none=>(ev c a ρ).bind λx ρ=>(zj c r ρ).bind λxs ρ=>.ok (uV x::xs) ρ
noncomputable def wN(c:Call):Option P->List Sl->Res Bool|none,ρ=>.ok true ρ|some t,ρ=>iY (ev c t) ρ
end
theorem Kl{c:Call}{ρ:List Sl}:evs c [] ρ=.ok [] ρ:=rfl
theorem Hh{c:Call}{a:P}{r:List P}{ρ:List Sl}:evs c (a::r) ρ=(HH.ev c a ρ).bind λx ρ=>(evs c r ρ).bind λxs ρ=>.ok (x.d::xs) ρ:=rfl
theorem zN{c:Call}{ρ:List Sl}:zj c [] ρ=.ok [] ρ:=rfl
theorem wJ{c:Call}{a:P}{r:List P}{ρ:List Sl}:zj c (a::r) ρ=match isVar a with|some i=>(lift (pk ρ i) ρ).bind λ_ ρ=>(zj c r ρ).bind λxs ρ=>.ok (.gq i::xs) ρ|none=>(HH.ev c a ρ).bind λx ρ=>(zj c r ρ).bind λxs ρ=>.ok (uV x::xs) ρ:=rfl
theorem E1{c i ρ}:ev c (.var i) ρ=match ρ[i]?with|some (.val _ d)=>.ok (.val d) ρ|some (.own b a)=>.ok (.val (.lst a)) (ρ.set i (.val b (.lst a)))|some (.iG (.k kvs))=>.ok (.val (.dH (.k kvs))) (ρ.set i (.val false (.dH (.k kvs))))|some (.cN kvs)=>.ok (.val (.dv (kvs.map (·.1)) (kvs.map (·.2)))) (ρ.set i (.val false (.dv (kvs.map (·.1)) (kvs.map (·.2)))))|_=>.stuck:=(rfl)
theorem E2{c d ρ}:ev c (.con d) ρ=.ok (.val d) ρ:=(rfl)
theorem E3{c o a b ρ}:ev c (.bin o a b) ρ=(kj (isVar a) (ev c a) (isVar b) (ev c b) ρ).bind λe ρ=>lift (tR o e.1 e.2) ρ:=(rfl)
theorem E4{c a ρ}:ev c (.neg a) ρ=(cL (isVar a) (ev c a) ρ).bind λx ρ=>lift (Jg x) ρ:=(rfl)
theorem E5{c a ρ}:ev c (.not a) ρ=(iY (ev c a) ρ).bind λb ρ=>.ok (.val (.bl (!b))) ρ:=(rfl)
theorem E6{c a b ρ}:ev c (.and a b) ρ=(iY (ev c a) ρ).bind λx ρ=>if x then(iY (ev c b) ρ).bind λy ρ=>.ok (.val (.bl y)) ρ else .ok (.val (.bl false)) ρ:=(rfl)
theorem E7{c a b ρ}:ev c (.or a b) ρ=(iY (ev c a) ρ).bind λx ρ=>if x then .ok (.val (.bl true)) ρ else(iY (ev c b) ρ).bind λy ρ=>.ok (.val (.bl y)) ρ:=(rfl)
theorem E8{c o a b ρ}:ev c (.cmp o a b) ρ=(kj (isVar a) (ev c a) (isVar b) (ev c b) ρ).bind λe ρ=>lift (yI o e.1 e.2) ρ:=(rfl)
theorem E9{c t a b ρ}:ev c (.QT t a b) ρ=(iY (ev c t) ρ).bind λk ρ=>if k then(ev c a ρ).bind λr ρ=>.ok (.val r.d) ρ else(ev c b ρ).bind λr ρ=>.ok (.val r.d) ρ:=(rfl)
theorem E10{c as ρ}:ev c (.tup as) ρ=(evs c as ρ).bind λa ρ=>.ok (.val (.tup a)) ρ:=(rfl)
theorem E11{c as ρ}:ev c (.lst as) ρ=(evs c as ρ).bind λa ρ=>.ok (.own a) ρ:=(rfl)
theorem E12{c a i ρ}:ev c (.idx a i) ρ=(kj (isVar a) (ev c a) (isVar i) (ev c i) ρ).bind λb ρ=>lift (Nv b.1 b.2) ρ:=(rfl)
theorem E13{c a l h ρ}:ev c (.slice a l h) ρ=match isVar a with|some i=>(lift (pk ρ i) ρ).bind λ_ ρ=>(cL (isVar l) (ev c l) ρ).bind λy ρ=>(cL (isVar h) (ev c h) ρ).bind λz ρ=>(lift (pk ρ i) ρ).bind λx ρ=>lift (Qi x (part l y) (part h z)) ρ|none=>(cL none (ev c a) ρ).bind λx ρ=>(cL (isVar l) (ev c l) ρ).bind λy ρ=>(cL (isVar h) (ev c h) ρ).bind λz ρ=>lift (Qi x (part l y) (part h z)) ρ:=(rfl)
theorem E14{c f as ρ}:ev c (.call f as) ρ=(zj c as ρ).bind λxs ρ=>jB c f xs ρ:=(rfl)
theorem E15{c b a ρ}:ev c (.blt b [a]) ρ=(cL (isVar a) (ev c a) ρ).bind λx ρ=>lift (blt b [x]) ρ:=(rfl)
theorem E16{c b x y r ρ}:ev c (.blt b (x::y::r)) ρ=(evs c (x::y::r) ρ).bind λa ρ=>lift (blt b a) ρ:=(rfl)
theorem Yk{c b ρ}:ev c (.blt b []) ρ=(evs c [] ρ).bind λa ρ=>lift (blt b a) ρ:=(rfl)
theorem E17{c ts a ρ}:ev c (.inst ts a) ρ=(cL (isVar a) (ev c a) ρ).bind λx ρ=>.ok (.val (.bl (ts.any λt=>cF t x))) ρ:=(rfl)
theorem E18{c src n is one test elt ρ}:ev c (.comp src n is one test elt) ρ=(srcOf (isVar src) (ev c src) ρ).bind λe a=>if e.length<=lim then(turns is one (wN c test) (ev c elt) e [] (a++replicate n .aN)).bind λxs b=>.ok (.own xs) (bj ρ (isVar src) (b.take a.length))else .stuck:=(rfl)
theorem E19{c a b ρ}:ev c (.wW a b) ρ=(kj (isVar a) (ev c a) (isVar b) (ev c b) ρ).bind λe ρ=>lift ((jb e.1).bind λi=>(jb e.2).bind λj=>if-1000000<=i/\i<=1000000000/\j<=1000000000/\-1000000000<=j then some (.val (.lst ((List.range (j-i).toNat).map λ(k:Nat)=>D.int (i+(k:Int)))))else none) ρ:=(rfl)
theorem E20{c a b ρ}:ev c (.zip a b) ρ=(ev c a ρ).bind λx ρ=>(ev c b ρ).bind λy ρ=>lift ((items x.d).bind λe=>(items y.d).map λes=>.val (.lst ((e.zip es).map λp=>D.tup [p.1,p.2]))) ρ:=(rfl)
theorem E21{c x k d ρ}:ev c (.Xl x k d) ρ=match ρ[x]?with
 |some (.iG _)=>(cL (isVar k) (ev c k) ρ).bind λa ρ=>(cL (isVar d) (ev c d) ρ).bind λdd ρ=>match ρ[x]?with|some (.iG m)=>lift ((m.get a).bind λo=>(jb dd).map λv=>.val (.int (o.getD v))) ρ|_=>.stuck
 |_=>.stuck:=(rfl)
theorem E22{c x ρ}:ev c (.vw x) ρ=match ρ[x]?with|some (.iG m)=>.ok (.val (.dH m)) (ρ.set x (.val false (.dH m)))|some (.cN kvs)=>.ok (.val (.dv (kvs.map (·.1)) (kvs.map (·.2)))) (ρ.set x (.val false (.dv (kvs.map (·.1)) (kvs.map (·.2)))))|some (.own b a)=>.ok (.val (.lst a)) (ρ.set x (.val b (.lst a)))|some (.val _ d)=>.ok (.val d) ρ|_=>.stuck:=(rfl)
theorem E23{c x k ρ}:ev c (.QV x k) ρ=match ρ[x]?with
 |some (.cN _)=>(cL (isVar k) (ev c k) ρ).bind λa ρ=>match ρ[x]?with|some (.cN kvs)=>lift ((jb a).bind λk=>(mR kvs k).map .val) ρ|_=>.stuck
 |_=>.stuck:=(rfl)
theorem E24{c x k neg ρ}:ev c (.QW x k neg) ρ=(cL (isVar k) (ev c k) ρ).bind λa ρ=>match ρ[x]?with|some (.cN kvs)=>lift ((jb a).map λk=>.val (.bl (if neg then !(kvs.map (·.1)).contains k else(kvs.map (·.1)).contains k))) ρ|_=>.stuck:=(rfl)
theorem E25{c k e ρ}:ev c (.Be k e) ρ=.ok (.val (.dv [k] [.int e])) ρ:=(rfl)
inductive S where|pass|brk|cont|bad|expr(e:P)|asg(i:Nat)(e:P)|par(i j:Nat)(a b:P)|Gf(x:Nat)(i e:P)|app(x:Nat)(e:P)|ret(e:P)|aae|ifs(c:P)(a b:List S)|iB(src:P)(i:List Nat)(one:Bool)(body:List S)|whl(c:P)(body:List S)|aug(x:Nat)(sub:Bool)(e:P)|Kv(x:Nat)(i:P)(sub:Bool)(e:P)|yV(k:Nat)|Kw(body:List S)(bs:List (Option Bool))|Ky(x:Nat)(t:Bool)|dput(x:Nat)(k e:P)|Kz(x:Nat)(src:P)(k:Nat)(is:List Nat)(one:Bool)(elt:P)|KC(x:Nat)(i e:P)|Gg(src:P)(is:List Nat)(one:Bool)(body:List S)|dB(x:Nat)|Gh(x:Nat)|O5(x:Nat)(k e:Int)|iz(x:Nat)(k e:P)deriving Inhabited
inductive Fl where|next|brk|cont|ret(r:R)deriving Inhabited
noncomputable def zY:R->Sl|.val d=>.val false d|.own a=>.own false a
noncomputable def jq(is:List Nat)(one:Bool)(body:List Sl->Res Fl):List D->List Sl->Res Fl|[],ρ=>.ok .next ρ|d::r,ρ=>match cj ρ is one d with|none=>.stuck|some ρ=>(body ρ).bind λfl ρ=>match fl with|.next=>jq is one body r ρ|.cont=>jq is one body r ρ|.brk=>.ok .next ρ|.ret r=>.ok (.ret r) ρ
theorem Jj{is:List Nat}{o:Bool}{b:List Sl->Res Fl}{ρ:List Sl}:jq is o b [] ρ=.ok .next ρ:=rfl
theorem Ao{is:List Nat}{o:Bool}{b:List Sl->Res Fl}{d:D}{r:List D}{ρ:List Sl}:jq is o b (d::r) ρ=match cj ρ is o d with|none=>.stuck|some ρ=>(b ρ).bind λfl ρ=>match fl with|.next=>jq is o b r ρ|.cont=>jq is o b r ρ|.brk=>.ok .next ρ|.ret r=>.ok (.ret r) ρ:=rfl
noncomputable def rZ(a:List Sl->Res Bool)(body:List Sl->Res Fl):Nat->List Sl->Res Fl|0,_=>.stuck|n+1,ρ=>(a ρ).bind λb ρ=>if b then(body ρ).bind λfl ρ=>match fl with|.next=>rZ a body n ρ|.cont=>rZ a body n ρ|.brk=>.ok .next ρ|.ret r=>.ok (.ret r) ρ else .ok .next ρ
theorem Vv{f:List Sl->Res Bool}{b:List Sl->Res Fl}{ρ:List Sl}:rZ f b 0 ρ=.stuck:=rfl
theorem Js{f:List Sl->Res Bool}{b:List Sl->Res Fl}{n:Nat}{ρ:List Sl}:rZ f b (n+1) ρ=(f ρ).bind λx ρ=>if x then(b ρ).bind λfl ρ=>match fl with|.next=>rZ f b n ρ|.cont=>rZ f b n ρ|.brk=>.ok .next ρ|.ret r=>.ok (.ret r) ρ else .ok .next ρ:=rfl
noncomputable def gY(is:List Nat)(one:Bool)(b:Ev):List D->List (List D)->List Sl->Res (List (List D))|[],a,ρ=>.ok a ρ|d::r,a,ρ=>match cj ρ is one d with|none=>.stuck|some ρ=>(b ρ).bind λx ρ=>match x with|.own c=>gY is one b r (a++[c]) ρ|.val _=>.stuck
theorem JG{is:List Nat}{o:Bool}{e:Ev}{a:List (List D)}{ρ:List Sl}:gY is o e [] a ρ=.ok a ρ:=rfl
theorem Hl{is:List Nat}{o:Bool}{e:Ev}{d:D}{r:List D}{a:List (List D)}{ρ:List Sl}:gY is o e (d::r) a ρ=match cj ρ is o d with|none=>.stuck|some ρ=>(e ρ).bind λx ρ=>match x with|.own b=>gY is o e r (a++[b]) ρ|.val _=>.stuck:=rfl
noncomputable def rowAt(a:List (List D))(k:Int):Option (List D):=(jP a.length k).bind λr=>a[r]?
noncomputable def km(a:List (List D))(k:Int)(f:List D->Option (List D)):Option (List (List D)):=(jP a.length k).bind λr=>(a[r]?).bind λrow=>(f row).map λb=>a.set r b
noncomputable def setAt(l:Int)(d:D)(row:List D):Option (List D):=(jP row.length l).map λm=>row.set m d
noncomputable def jM(ρ:List Sl)(x:Nat):Option (List (List D)):=match ρ[x]?with|some (.hold a)=>some a|_=>none
noncomputable def vQ(ρ:List Sl)(x:Nat)(k:D):Option (List D):=(jM ρ x).bind λa=>(jb k).bind λk=>rowAt a k
noncomputable def Ew(ρ:List Sl)(x:Nat)(o:Option (List (List D))):Res Fl:=match o with|some a=>.ok .next (ρ.set x (.hold a))|none=>.stuck
noncomputable def rowOne(x r:Nat)(b c e:List Sl->Res D)(ρ:List Sl):Res Fl:=(c ρ).bind λk ρ=>(lift ((jM ρ x).bind λa=>(a[r]?).bind λrow=>(jb k).bind λk=>(at' row k).bind jb) ρ).bind λu ρ=>(e ρ).bind λl ρ=>(lift ((jM ρ x).bind λa=>(a[r]?).bind λrow=>(jb l).bind λl=>(at' row l).bind jb) ρ).bind λv ρ=>(b ρ).bind λj ρ=>Ew ρ x ((jM ρ x).bind λa=>(a[r]?).bind λrow=>(jb j).bind λj=>(setAt j (.int (u+v)) row).map λf=>a.set r f)
noncomputable def Vp(x y:Nat)(a b c:List Sl->Res D):Nat->Nat->List Sl->Res Fl|0,_,ρ=>.ok .next ρ|m+1,r,ρ=>(lift (put ρ y .aN) ρ).bind λρ _=>(rowOne x r a b c ρ).bind λ_ ρ=>Vp x y a b c m (r+1) ρ
noncomputable def v8(is:List Nat)(one:Bool)(body:List Sl->Res Fl)(b:List Sl->Option (Nat×List Sl)):List D->List Sl->Option (Nat×List Sl)|[],_=>none|d::r,ρ=>match cj ρ is one d with|none=>none|some ρ=>match b ρ with|some x=>some x|none=>match body ρ with|.ok .next a=>v8 is one body b r a|.ok .cont a=>v8 is one body b r a|_=>none
noncomputable def S7(a:List Sl->Res Bool)(body:List Sl->Res Fl)(e:List Sl->Option (Nat×List Sl)):Nat->List Sl->Option (Nat×List Sl)|0,_=>none|n+1,ρ=>match a ρ with
   |.ok true c=>match e c with|some x=>some x|none=>match body c with|.ok .next b=>S7 a body e n b|.ok .cont b=>S7 a body e n b|_=>none
   |_=>none
noncomputable def mG:P->P|.idx a _=>a|.blt .sum [.comp s _ _ _ _ _]=>s|e=>e
noncomputable def P0:Sl->Bool|.aN=>true|.val b _=>!b|.own b _=>!b|.lent _=>false|.iG _=>true|.hold _=>false|.cN _=>true
noncomputable def ie(c:Call)(e:P)(ρ:List Sl):Option (Nat×List Sl):=match mG e with
 |.call f as=>match zj c as ρ with
   |.ok xs b=>match bO b xs []with
     |some args=>match c f args with|.exc k a=>some (k,fH xs a 0 b)|_=>none
     |none=>none
   |_=>none
 |_=>none
mutual
noncomputable def ex(c:Call)(n:Nat):S->List Sl->Res Fl
 |.pass,ρ=>.ok .next ρ|.brk,ρ=>.ok .brk ρ|.cont,ρ=>.ok .cont ρ|.bad,_=>.stuck|.expr e,ρ=>(ev c e ρ).bind λ_ ρ=>.ok .next ρ|.asg i e,ρ=>(ev c e ρ).bind λr ρ=>(lift (put ρ i (zY r)) ρ).bind λo _=>.ok .next o|.par i j a b,ρ=>(ev c a ρ).bind λx ρ=>(ev c b ρ).bind λy ρ=>(lift ((put ρ i (.val false x.d)).bind λρ=>put ρ j (.val false y.d)) ρ).bind λo _=>.ok .next o|.Gf x i e,ρ=>(ev c e ρ).bind λr ρ=>(lift (pk ρ x) ρ).bind λ_ ρ=>(cL (isVar i) (ev c i) ρ).bind λk ρ=>match ρ[x]?,k with
   |some (.own b g),.int k=>match jP g.length k with|some j=>.ok .next (ρ.set x (.own b (g.set j r.d)))|none=>.stuck
   |_,_=>.stuck
 |.app x e,ρ=>(lift (Gu ρ x) ρ).bind λ_ ρ=>(ev c e ρ).bind λr ρ=>match ρ[x]?with|some (.own b g)=>if g.length<lim then .ok .next (ρ.set x (.own b (g++[r.d])))else .stuck|_=>.stuck
 |.ret e,ρ=>match isVar e with
   |some i=>match ρ[i]?with|some (.own false g)=>.ok (.ret (.own g)) (ρ.set i .aN)|_=>(ev c e ρ).bind λr ρ=>.ok (.ret r) ρ
   |none=>(ev c e ρ).bind λr ρ=>.ok (.ret r) ρ
 |.aae,ρ=>.ok (.ret (.val .non)) ρ|.ifs t a b,ρ=>(iY (ev c t) ρ).bind λk ρ=>if k then fO c n a ρ else fO c n b ρ|.iB src is one body,ρ=>(srcOf (isVar src) (ev c src) ρ).bind λg f=>(jq is one (fO c n body) g f).bind λfl p=>.ok fl (bj ρ (isVar src) p)|.whl t body,ρ=>rZ (iY (ev c t)) (fO c n body) n ρ|.aug x sub e,ρ=>(lift (pk ρ x) ρ).bind λa ρ=>(cL (isVar e) (ev c e) ρ).bind λb ρ=>match a,b with|.int i,.int j=>(lift (put ρ x (.val false (.int (if sub then i-j else i+j)))) ρ).bind λo _=>.ok .next o|_,_=>.stuck
 |.Kv x i sub e,ρ=>(lift (Gu ρ x) ρ).bind λ_ ρ=>(cL (isVar i) (ev c i) ρ).bind λk ρ=>(lift (Gu ρ x) ρ).bind λl ρ=>(lift ((jb k).bind λi=>at' l i) ρ).bind λa ρ=>(cL (isVar e) (ev c e) ρ).bind λb ρ=>match a,b,ρ[x]?,k with
   |.int u,.int v,some (.own w g),.int k=>match jP g.length k with|some j=>.ok .next (ρ.set x (.own w (g.set j (.int (if sub then u-v else u+v)))))|none=>.stuck
   |_,_,_,_=>.stuck
 |.Ky x t,ρ=>match ρ[x]?with|some .aN=>.ok .next (ρ.set x (.iG (if t then .t []else .k [])))|_=>.stuck
 |.dput x k e,ρ=>(ev c e ρ).bind λr ρ=>match ρ[x]?with
   |some (.iG _)=>(cL (isVar k) (ev c k) ρ).bind λq ρ=>match ρ[x]?,r with
     |some (.iG m),.val (.int v)=>match m.put q v with|some z=>.ok .next (ρ.set x (.iG z))|none=>.stuck
     |_,_=>.stuck
   |_=>.stuck
 |.yV _,_=>.stuck|.Kw body bs,ρ=>match fP c n body ρ with|some (k,_)=>if ρ.all P0=true then match bs.getD k none with|some b=>.ok (.ret (.val (.bl b))) (replicate ρ.length .aN)|none=>.stuck else .stuck|none=>.stuck
 |.Kz x src k is one s,ρ=>(srcOf (isVar src) (ev c src) ρ).bind λg f=>if g.length<=lim then(gY is one (ev c s) g [] (f++replicate k .aN)).bind λh p=>(lift (put (bj ρ (isVar src) (p.take f.length)) x (.hold h)) ρ).bind λo _=>.ok .next o else .stuck|.KC x i e,ρ=>(cL (isVar i) (ev c i) ρ).bind λk ρ=>(lift (vQ ρ x k) ρ).bind λ_ ρ=>(ev c e ρ).bind λr ρ=>Ew ρ x ((jM ρ x).bind λh=>(jb k).bind λk=>km h k λrow=>if row.length<lim then some (row++[r.d])else none)|.Gg src is one body,ρ=>(ev c src ρ).bind λr f=>(lift (items r.d) f).bind λg f=>jq is one (fO c n body) g f|.dB x,ρ=>match ρ[x]?with|some (.hold h)=>.ok .next (ρ.set x (.val false (.lst (h.map D.lst))))|_=>.stuck
 |.Gh x,ρ=>match ρ[x]?with|some .aN=>.ok .next (ρ.set x (.cN []))|some (.cN _)=>.ok .next (ρ.set x (.cN []))|some (.val false _)=>.ok .next (ρ.set x (.cN []))|_=>.stuck
 |.O5 x k e,ρ=>match ρ[x]?with|some .aN=>.ok .next (ρ.set x (.cN [(k,.int e)]))|some (.cN _)=>.ok .next (ρ.set x (.cN [(k,.int e)]))|some (.val false _)=>.ok .next (ρ.set x (.cN [(k,.int e)]))|_=>.stuck
 |.iz x k e,ρ=>(ev c e ρ).bind λr ρ=>match ρ[x]?with
   |some (.cN _)=>(cL (isVar k) (ev c k) ρ).bind λq ρ=>match ρ[x]?,q with|some (.cN kvs),.int k=>if kvs.length<lim then .ok .next (ρ.set x (.cN (iz kvs k r.d)))else .stuck|_,_=>.stuck
   |_=>.stuck
noncomputable def fO(c:Call)(n:Nat):List S->List Sl->Res Fl|[],ρ=>.ok .next ρ|s::r,ρ=>(ex c n s ρ).bind λfl ρ=>match fl with|.next=>fO c n r ρ|fl=>.ok fl ρ
noncomputable def vD(c:Call)(n:Nat):S->List Sl->Option (Nat×List Sl)
 |.yV k,ρ=>some (k,ρ)|.ifs t a b,ρ=>match iY (ev c t) ρ with|.ok x f=>if x then fP c n a f else fP c n b f|_=>none
 |.iB src is one body,ρ=>match ie c src ρ with|some x=>some x|none=>match srcOf (isVar src) (ev c src) ρ with|.ok g f=>(v8 is one (fO c n body) (fP c n body) g f).map λx=>(x.1,bj ρ (isVar src) x.2)|_=>none
 |.ret e,ρ=>ie c e ρ|.asg _ e,ρ=>ie c e ρ|.expr e,ρ=>ie c e ρ|.whl t body,ρ=>S7 (iY (ev c t)) (fO c n body) (fP c n body) n ρ|_,_=>none
noncomputable def fP(c:Call)(n:Nat):List S->List Sl->Option (Nat×List Sl)|[],_=>none|s::r,ρ=>match vD c n s ρ with|some x=>some x|none=>match ex c n s ρ with|.ok .next a=>fP c n r a|_=>none
end
theorem X1{c n ρ}:ex c n (.pass) ρ=.ok .next ρ:=(rfl)
theorem X2{c n ρ}:ex c n (.brk) ρ=.ok .brk ρ:=(rfl)
theorem X3{c n ρ}:ex c n (.cont) ρ=.ok .cont ρ:=(rfl)
theorem X4{c n ρ}:ex c n (.bad) ρ=.stuck:=(rfl)
theorem X5{c n e ρ}:ex c n (.expr e) ρ=(ev c e ρ).bind λ_ ρ=>.ok .next ρ:=(rfl)
theorem X6{c n i e ρ}:ex c n (.asg i e) ρ=(ev c e ρ).bind λr ρ=>(lift (put ρ i (zY r)) ρ).bind λa _=>.ok .next a:=(rfl)
theorem X7{c n i j a b ρ}:ex c n (.par i j a b) ρ=(ev c a ρ).bind λx ρ=>(ev c b ρ).bind λy ρ=>(lift ((put ρ i (.val false x.d)).bind λρ=>put ρ j (.val false y.d)) ρ).bind λe _=>.ok .next e:=(rfl)
theorem X8{c n x i e ρ}:ex c n (.Gf x i e) ρ=(ev c e ρ).bind λr ρ=>(lift (pk ρ x) ρ).bind λ_ ρ=>(cL (isVar i) (ev c i) ρ).bind λk ρ=>match ρ[x]?,k with
 |some (.own b a),.int k=>match jP a.length k with|some j=>.ok .next (ρ.set x (.own b (a.set j r.d)))|none=>.stuck
 |_,_=>.stuck:=(rfl)
theorem X9{c n x e ρ}:ex c n (.app x e) ρ=(lift (Gu ρ x) ρ).bind λ_ ρ=>(ev c e ρ).bind λr ρ=>match ρ[x]?with|some (.own b a)=>if a.length<lim then .ok .next (ρ.set x (.own b (a++[r.d])))else .stuck|_=>.stuck:=(rfl)
theorem X10{c n e ρ}:ex c n (.ret e) ρ=match isVar e with
 |some i=>match ρ[i]?with|some (.own false a)=>.ok (.ret (.own a)) (ρ.set i .aN)|_=>(ev c e ρ).bind λr ρ=>.ok (.ret r) ρ
 |none=>(ev c e ρ).bind λr ρ=>.ok (.ret r) ρ:=(rfl)
theorem X11{c n ρ}:ex c n (.aae) ρ=.ok (.ret (.val .non)) ρ:=(rfl)
theorem X12{c n t a b ρ}:ex c n (.ifs t a b) ρ=(iY (ev c t) ρ).bind λk ρ=>if k then fO c n a ρ else fO c n b ρ:=(rfl)
theorem X13{c n src is one body ρ}:ex c n (.iB src is one body) ρ=(srcOf (isVar src) (ev c src) ρ).bind λe a=>(jq is one (fO c n body) e a).bind λfl b=>.ok fl (bj ρ (isVar src) b):=(rfl)
theorem X14{c n t body ρ}:ex c n (.whl t body) ρ=rZ (iY (ev c t)) (fO c n body) n ρ:=(rfl)
theorem X15{c n x sub e ρ}:ex c n (.aug x sub e) ρ=(lift (pk ρ x) ρ).bind λa ρ=>(cL (isVar e) (ev c e) ρ).bind λb ρ=>match a,b with|.int i,.int j=>(lift (put ρ x (.val false (.int (if sub then i-j else i+j)))) ρ).bind λf _=>.ok .next f|_,_=>.stuck:=(rfl)
theorem X16{c n x i sub e ρ}:ex c n (.Kv x i sub e) ρ=(lift (Gu ρ x) ρ).bind λ_ ρ=>(cL (isVar i) (ev c i) ρ).bind λk ρ=>(lift (Gu ρ x) ρ).bind λl ρ=>(lift ((jb k).bind λi=>at' l i) ρ).bind λa ρ=>(cL (isVar e) (ev c e) ρ).bind λb ρ=>match a,b,ρ[x]?,k with
 |.int u,.int v,some (.own g f),.int k=>match jP f.length k with|some j=>.ok .next (ρ.set x (.own g (f.set j (.int (if sub then u-v else u+v)))))|none=>.stuck
 |_,_,_,_=>.stuck:=(rfl)
theorem X17{c n x t ρ}:ex c n (.Ky x t) ρ=match ρ[x]?with|some .aN=>.ok .next (ρ.set x (.iG (if t then .t []else .k [])))|_=>.stuck:=(rfl)
theorem X18{c n x k e ρ}:ex c n (.dput x k e) ρ=(ev c e ρ).bind λr ρ=>match ρ[x]?with
 |some (.iG _)=>(cL (isVar k) (ev c k) ρ).bind λa ρ=>match ρ[x]?,r with
   |some (.iG m),.val (.int v)=>match m.put a v with|some b=>.ok .next (ρ.set x (.iG b))|none=>.stuck
   |_,_=>.stuck
 |_=>.stuck:=(rfl)
theorem X19{c n w1 ρ}:ex c n (.yV w1) ρ=.stuck:=(rfl)
theorem X20{c n body bs ρ}:ex c n (.Kw body bs) ρ=match fP c n body ρ with|some (k,_)=>if ρ.all P0=true then match bs.getD k none with|some b=>.ok (.ret (.val (.bl b))) (replicate ρ.length .aN)|none=>.stuck else .stuck|none=>.stuck:=(rfl)
theorem X21{c n x src k is one elt ρ}:ex c n (.Kz x src k is one elt) ρ=(srcOf (isVar src) (ev c src) ρ).bind λg a=>if g.length<=lim then(gY is one (ev c elt) g [] (a++replicate k .aN)).bind λe b=>(lift (put (bj ρ (isVar src) (b.take a.length)) x (.hold e)) ρ).bind λf _=>.ok .next f else .stuck:=(rfl)
theorem X22{c n x i e ρ}:ex c n (.KC x i e) ρ=(cL (isVar i) (ev c i) ρ).bind λk ρ=>(lift (vQ ρ x k) ρ).bind λ_ ρ=>(ev c e ρ).bind λr ρ=>Ew ρ x ((jM ρ x).bind λa=>(jb k).bind λk=>km a k λrow=>if row.length<lim then some (row++[r.d])else none):=(rfl)
theorem X23{c n src is one body ρ}:ex c n (.Gg src is one body) ρ=(ev c src ρ).bind λr a=>(lift (items r.d) a).bind λb a=>jq is one (fO c n body) b a:=(rfl)
theorem X24{c n x ρ}:ex c n (.dB x) ρ=match ρ[x]?with|some (.hold a)=>.ok .next (ρ.set x (.val false (.lst (a.map D.lst))))|_=>.stuck:=(rfl)
theorem X25{c n x ρ}:ex c n (.Gh x) ρ=match ρ[x]?with|some .aN=>.ok .next (ρ.set x (.cN []))|some (.cN _)=>.ok .next (ρ.set x (.cN []))|some (.val false _)=>.ok .next (ρ.set x (.cN []))|_=>.stuck:=(rfl)
theorem X26{c n x k e ρ}:ex c n (.O5 x k e) ρ=match ρ[x]?with|some .aN=>.ok .next (ρ.set x (.cN [(k,.int e)]))|some (.cN _)=>.ok .next (ρ.set x (.cN [(k,.int e)]))|some (.val false _)=>.ok .next (ρ.set x (.cN [(k,.int e)]))|_=>.stuck:=(rfl)
theorem X27{c n x k e ρ}:ex c n (.iz x k e) ρ=(ev c e ρ).bind λr ρ=>match ρ[x]?with
 |some (.cN _)=>(cL (isVar k) (ev c k) ρ).bind λa ρ=>match ρ[x]?,a with|some (.cN kvs),.int k=>if kvs.length<lim then .ok .next (ρ.set x (.cN (iz kvs k r.d)))else .stuck|_,_=>.stuck
 |_=>.stuck:=(rfl)
structure Fd where
 np:Nat
 nn:Nat
 body:List S deriving Inhabited
noncomputable abbrev Tab:=Nat->Option Fd
noncomputable def enter(c:Call)(n:Nat)(d:Fd)(args:List Sl):Res R:=if args.length=d.np/\d.np<=d.nn then match fO c n d.body (args++replicate (d.nn-d.np) .aN)with|.ok .next ρ=>.ok (.val .non) (ρ.take d.np)|.ok (.ret r) ρ=>.ok r (ρ.take d.np)|_=>match fP c n d.body (args++replicate (d.nn-d.np) .aN)with|some (k,ρ)=>.exc k (ρ.take d.np)|none=>.stuck else .stuck
noncomputable def run(Γ:Tab)(w:Nat):Nat->Call|0,_,_=>.stuck|n+1,f,args=>match Γ f with|some d=>enter (run Γ w n) w d args|none=>.stuck
end HH
end
section
namespace HH
open PySem L2
variable{ρ:List Sl}{σ:St}{v:V}
noncomputable def Dc.ho:Dc->HO|.k kvs=>.dK (kvs.map λp=>(Sum.inl p.1,V.int p.2))|.t kvs=>.dT (kvs.map λp=>(p.1.map Sum.inl,V.int p.2))
noncomputable def Bl(ks:List Int)(vs:List V):HO:=.dK ((ks.zip vs).map λp=>(Sum.inl p.1,p.2))
section
variable(K:PySem.W.Frag)
mutual
def Rep(F:Hp):V->D->Prop|v,.non=>v=.non|v,.bl b=>v=.bl b|v,.int i=>v=.int i|v,.str x=>v=.str x|v,.tup c=>∃a xs,v=.ref a/\lR K F a xs/\aF F xs c|v,.lst c=>∃a xs,v=.ref a/\gJ K F a xs/\aF F xs c|v,.dH m=>∃a o,v=.ref a/\F a=some (.dB o m.ho)|v,.dv ks c=>∃a o vs,v=.ref a/\F a=some (.dB o (Bl ks vs))/\aF F vs c/\ks.length=c.length
def aF(F:Hp):List V->List D->Prop|vs,[]=>vs=[]|vs,d::a=>∃v r,vs=v::r/\Rep F v d/\aF F r a
end
end
section
variable{K:PySem.W.Frag}{F F' H H':Hp}
theorem aJ.jz{a:Addr}{xs:List V}(e:aJ H H')(h:lR K H a xs):lR K H' a xs:=by
 rcases h with(h|⟨o,h⟩)|h;.exact .inl (.inl (e _ _ h))
 .exact .inl (.inr ⟨o,e _ _ h⟩)
 .exact .inr h
mutual
theorem Rep.mono(e:aJ F F'):∀{d:D}{v:V},Rep K F v d->Rep K F' v d|.non,_,h=>by rw[Rep]at h ⊢;exact h|.bl _,_,h=>by rw[Rep]at h ⊢;exact h|.int _,_,h=>by rw[Rep]at h ⊢;exact h|.str _,_,h=>by rw[Rep]at h ⊢;exact h|.tup b,_,h=>by rw[Rep]at h ⊢;obtain⟨a,xs,rfl,hs,r⟩:=h;exact⟨a,xs,rfl,aJ.jz e hs,aF.mono e r⟩|.lst b,_,h=>by rw[Rep]at h ⊢;obtain⟨a,xs,rfl,hs,r⟩:=h;exact⟨a,xs,rfl,e.seq hs,aF.mono e r⟩|.dH m,_,h=>by rw[Rep]at h ⊢;obtain⟨a,o,rfl,hs⟩:=h;exact⟨a,o,rfl,e _ _ hs⟩|.dv ks b,_,h=>by rw[Rep]at h ⊢;obtain⟨a,o,vs,rfl,hs,r,c⟩:=h;exact⟨a,o,vs,rfl,e _ _ hs,aF.mono e r,c⟩theorem aF.mono(e:aJ F F'):∀{a:List D}{vs:List V},aF K F vs a->aF K F' vs a|[],_,h=>by rw[aF]at h ⊢;exact h|d::a,_,h=>by rw[aF]at h ⊢;obtain⟨v,r,rfl,h1,b⟩:=h;exact⟨v,r,rfl,Rep.mono e h1,aF.mono e b⟩end
theorem aF.nil:aF K F [] []:=by rw[aF]
theorem aF.cons{v:V}{d:D}{vs:List V}{a:List D}(h:Rep K F v d)(t:aF K F vs a):aF K F (v::vs) (d::a):=by rw[aF];exact⟨v,vs,rfl,h,t⟩
theorem aF.cI{vs:List V}{d:D}{a:List D}(h:aF K F vs (d::a)):∃v r,vs=v::r/\Rep K F v d/\aF K F r a:=by rw[aF]at h;exact h
theorem aF.gG{vs:List V}(h:aF K F vs []):vs=[]:=by rw[aF]at h;exact h
theorem aF.length:∀{a:List D}{vs:List V},aF K F vs a->vs.length=a.length|[],_,h=>by rw[h.gG];rfl|d::a,_,h=>by obtain⟨v,r,rfl,_,t⟩:=h.cI;simp[aF.length t]
theorem aF.get:∀{a:List D}{vs:List V}{i:Nat}{d:D},aF K F vs a->a[i]?=some d->∃v,vs[i]?=some v/\Rep K F v d|[],_,_,_,h,e=>by simp at e|d::a,_,0,_,h,e=>by obtain⟨v,r,rfl,h1,t⟩:=h.cI;simp at e;subst e;exact⟨v,rfl,h1⟩|d::a,_,i+1,_,h,e=>by obtain⟨v,r,rfl,_,t⟩:=h.cI;simp at e;obtain⟨w,b,c⟩:=t.get e;exact⟨w,by simpa using b,c⟩
theorem aF.append:∀{a es:List D}{vs b:List V},aF K F vs a->aF K F b es->aF K F (vs++b) (a++es)|[],_,_,_,h,h'=>by rw[h.gG];exact h'|d::a,_,_,_,h,h'=>by obtain⟨v,r,rfl,h1,t⟩:=h.cI;exact .cons h1 (t.append h')
theorem aF.set{v:V}{d:D}(hr:Rep K F v d):∀{a:List D}{vs:List V}(i:Nat),aF K F vs a->aF K F (vs.set i v) (a.set i d)|[],_,_,h=>by rw[h.gG];exact .nil|_::_,_,0,h=>by obtain⟨w,r,rfl,h1,t⟩:=h.cI;exact .cons hr t|_::_,_,i+1,h=>by obtain⟨w,r,rfl,h1,t⟩:=h.cI;exact .cons h1 (aF.set hr i t)
theorem aF.take:∀{a:List D}{vs:List V}(n:Nat),aF K F vs a->aF K F (vs.take n) (a.take n)|[],_,n,h=>by rw[h.gG];simpa using aF.nil|_::_,_,0,h=>.nil|_::_,_,n+1,h=>by obtain⟨w,r,rfl,h1,t⟩:=h.cI;exact .cons h1 (t.take n)
theorem aF.drop:∀{a:List D}{vs:List V}(n:Nat),aF K F vs a->aF K F (vs.drop n) (a.drop n)|[],_,n,h=>by rw[h.gG];simpa using aF.nil|_::_,_,0,h=>h|_::_,_,n+1,h=>by obtain⟨w,r,rfl,h1,t⟩:=h.cI;exact t.drop n
theorem aF.rep{a:List D}{vs:List V}(h:aF K F vs a):∀n,aF K F (replicate n vs).flatten (replicate n a).flatten|0=>by simpa using aF.nil|n+1=>by simpa[replicate_succ]using h.append (aF.rep h n)
inductive Oc where|l(ds:List D)|d(m:Dc)|v(kvs:List (Int×D))
noncomputable def lst?:Sl->Option Oc|.own _ a=>some (.l a)|.lent a=>some (.l a)|.iG m=>some (.d m)|.cN kvs=>some (.v kvs)|_=>none
def mq(K:PySem.W.Frag)(F:Hp)(o:HO):Oc->Prop|.l a=>∃xs,o=.lst xs/\aF K F xs a|.d m=>o=m.ho|.v kvs=>∃vs,o=Bl (kvs.map (·.1)) vs/\aF K F vs (kvs.map (·.2))
theorem mq.mono{o:HO}{x:Oc}(e:aJ F F')(h:mq K F o x):mq K F' o x:=by cases x with|l b=>obtain⟨xs,a,h⟩:=h;exact⟨xs,a,h.mono e⟩|d m=>exact h|v kvs=>obtain⟨xs,a,h⟩:=h;exact⟨xs,a,h.mono e⟩
def aP(ρ:List Sl)(σ:St)(i:Nat)(a:Addr):Prop:=(∃s b,ρ[i]?=some s/\lst? s=some b)/\σ[i]?=some (some (V.ref a))
def Own(ρ:List Sl)(σ:St)(a:Addr):Prop:=∃i,aP ρ σ i a
structure GS(K:PySem.W.Frag)(F:Hp)(ρ:List Sl)(σ:St)(H:Hp):Prop where
 sub:aJ F H
 len:ρ.length=σ.length
 val:∀(i:Nat)(b:Bool)(d:D),ρ[i]?=some (Sl.val b d)->∃v:V,σ[i]?=some (some v)/\Rep K F v d
 own:∀(i:Nat)(s:Sl)(ds:Oc),ρ[i]?=some s->lst? s=some ds->∃(a:Addr)(xs:HO),σ[i]?=some (some (V.ref a))/\H a=some xs/\F a=none/\mq K F xs ds
 dis:∀(i j:Nat)(a:Addr),aP ρ σ i a->aP ρ σ j a->i=j
theorem GS.ud(g:GS K F ρ σ H)(i:Nat)(s:Sl)(b:List D)(e:ρ[i]?=some s)(c:lst? s=some (.l b)):∃(a:Addr)(xs:List V),σ[i]?=some (some (V.ref a))/\H a=some (.lst xs)/\F a=none/\aF K F xs b:=by obtain⟨a,o,h1,f,h,xs,rfl,j⟩:=g.own i s (.l b) e c;exact⟨a,xs,h1,f,h,j⟩
noncomputable def tL:Sl->Bool|.val b _=>b|.own b _=>b|.lent _=>true|.aN=>false|.iG _=>false|.cN _=>false|.hold _=>true
def nj:Sl->Sl->Prop|.val true d,s=>s=.val true d|.own true _,s=>(∃a,s=.own true a)\/∃d,s=.val true d|.lent a,s=>s=.lent a|.hold a,s=>s=.hold a|_,_=>True
theorem nj.refl(s:Sl):nj s s:=by unfold nj;split<;>first|rfl|exact .inl ⟨_,rfl⟩|trivial
theorem nj.tL{s a:Sl}(h:nj s a)(l:tL s=true):HH.tL a=true:=by cases s with
 |aN=>cases l|iG _=>cases l|cN _=>cases l|val b d=>cases b with|true=>cases h;rfl|false=>cases l
 |own b d=>cases b with|true=>rcases h with⟨_,rfl⟩|⟨_,rfl⟩<;>rfl|false=>cases l
 |lent d=>cases h;rfl|hold d=>cases h;rfl
theorem nj.trans{s c a:Sl}(l:HH.tL s=true)(h:nj s c)(h':nj c a):nj s a:=by cases s with
 |aN=>cases l|iG _=>cases l|cN _=>cases l|val b d=>cases b with|true=>cases h;exact h'|false=>cases l
 |own b d=>cases b with
   | true => rcases h with⟨_,rfl⟩|⟨d,rfl⟩;.exact h'
             .exact .inr ⟨d,h'⟩|false=>cases l
 |lent d=>cases h;exact h'|hold d=>cases h;exact h'
noncomputable def nt:Option HO->Option HO|some (.tup _)=>none|o=>o
theorem lH{o:Option HO}(h:o=none):nt o=none:=by rw[h];rfl
theorem JV{H:Hp}{b:Addr}{xs:List V}(h:H b=some (.lst xs))(z:nt (H b)=none):False:=by rw[h]at z;cases z
theorem Il{o:HO}{x:Oc}(h:mq K F o x)(z:nt (some o)=none):False:=by cases x with|l a=>obtain⟨xs,rfl,_⟩:=h;cases z|d m=>cases m<;>(cases(show o=_ from h);cases z)|v kvs=>obtain⟨xs,rfl,_⟩:=h;cases z
structure az(K:PySem.W.Frag)(F:Hp)(ρ:List Sl)(σ:St)(H:Hp)(F':Hp)(ρ':List Sl)(σ':St)(H':Hp):Prop where
 gs:GS K F' ρ' σ' H'
 cZ:aJ F F'
 xj:∀b,F b=none->F' b≠none->Own ρ σ b\/nt (H b)=none
 keep:∀b o,H b=some o->¬ Own ρ σ b->H' b=some o
 xm:∀b,Own ρ' σ' b->Own ρ σ b\/H b=none
 len:ρ'.length=ρ.length
 lk:∀(i:Nat)(s:Sl),ρ[i]?=some s->tL s=true->σ'[i]?=σ[i]?/\∃s',ρ'[i]?=some s'/\nj s s'
theorem az.refl{ρ:List Sl}{σ:St}(g:GS K F ρ σ H):az K F ρ σ H F ρ σ H:=⟨g,aJ.refl _,λb h h'=>absurd h h',λ_ _ h _=>h,λ_ h=>.inl h,rfl,λi s h _=>⟨rfl,s,h,.refl s⟩⟩
theorem az.trans{F1 p m r:Hp}{ρ f j:List Sl}{σ g k:St}(a:az K F ρ σ H F1 f g m)(b:az K F1 f g m p j k r):az K F ρ σ H p j k r:=by
 have back:∀c,Own f g c\/m c=none->Own ρ σ c\/H c=none:=λc h=>by
  rcases h with h|h;.exact a.xm c h
  . by_cases ho:Own ρ σ c;.exact .inl ho
    .right;cases e:H c with|none=>rfl|some o=>rw[a.keep c o e ho]at h;cases h
 refine⟨b.gs,a.cZ.trans b.cZ,λc h h'=>?_,λc o h n=>?_,λc h=>back c (b.xm c h),b.len.trans a.len,λi s h l=>?_⟩
 . by_cases e:F1 c=none
   . by_cases ho:Own ρ σ c;.exact .inl ho
     . rcases b.xj c e h' with z|z;.exact(back c (.inl z)).imp id lH
       .right;cases q:H c with|none=>rfl|some o=>rw[a.keep c o q ho]at z;exact z
   .exact a.xj c h e
 . refine b.keep c o (a.keep c o h n) λh'=>?_;rcases a.xm c h' with h'|h';.exact n h'
   .rw[h]at h';cases h'
 .obtain⟨t,s1,h1,k1⟩:=a.lk i s h l;obtain⟨u,s2,w,k2⟩:=b.lk i s1 h1 (k1.tL l);exact⟨u.trans t,s2,w,.trans l k1 k2⟩
def dm(K:PySem.W.Frag)(F H:Hp)(v:V)(d:D):Prop:=Rep K F v d\/∃a xs b,v=.ref a/\H a=some (.lst xs)/\aF K F xs b/\d=.lst b
def cR(K:PySem.W.Frag)(F':Hp)(b:List Sl)(σ':St)(H':Hp)(ρ:List Sl)(σ:St)(H:Hp)(v:V):R->Prop|.val d=>Rep K F' v d|.own c=>∃a xs,v=.ref a/\H' a=some (.lst xs)/\F' a=none/\aF K F' xs c/\¬ Own b σ' a/\(Own ρ σ a\/H a=none)
theorem aJ.cA{F:Hp}{a:Addr}{o:HO}(h:F a=none):aJ F (upd F a o):=λb u e=>by
 have:b≠a:=by rintro rfl;rw[h]at e;cases e
 rw[aA this];exact e
theorem az.dB{c:List Sl}{σ':St}{r:R}(s:az K F ρ σ H F' c σ' H')(h:cR K F' c σ' H' ρ σ H v r):∃f,az K F ρ σ H f c σ' H'/\aJ F' f/\Rep K f v r.d:=by cases r with|val d=>exact⟨F',s,.refl _,h⟩|own q=>
   obtain⟨a,xs,rfl,h1,t,u,w,x⟩:=h;have sm:aJ F' (upd F' a (.lst xs)):=aJ.cA t;refine⟨upd F' a (.lst xs),⟨⟨λb o e=>?_,s.gs.len,λi b d e=>?_,λi sl j e m=>?_,s.gs.dis⟩,s.cZ.trans sm,λb n p=>?_,s.keep,s.xm,s.len,s.lk⟩,sm,?_⟩
   . by_cases g:b=a;.subst g;rw[aL]at e;cases e;exact h1
     .rw[aA g]at e;exact s.gs.sub b o e
   .obtain⟨v,k,l⟩:=s.gs.val i b d e;exact⟨v,k,l.mono sm⟩
   . obtain⟨b,ys,k,l,y,z⟩:=s.gs.own i sl j e m;have g:b≠a:=by rintro rfl;exact w ⟨i,⟨sl,j,e,m⟩,k⟩
     exact⟨b,ys,k,l,by rw[aA g];exact y,z.mono sm⟩
   . by_cases g:b=a;.subst g;exact x.imp id lH
     .rw[aA g]at p;exact s.xj b n p
   .show Rep K _ _ (.lst q);rw[Rep];exact⟨a,xs,rfl,gJ.of aL,u.mono sm⟩
theorem GS.pk{ρ:List Sl}{σ:St}{i:Nat}{d:D}(g:GS K F ρ σ H)(e:HH.pk ρ i=some d):∃v:V,σ[i]?=some (some v)/\dm K F H v d:=by
 unfold HH.pk at e;split at e;.rename_i b d' h;cases e;obtain⟨v,h1,c⟩:=g.val i b d h;exact⟨v,h1,.inl c⟩
 .rename_i b f h;cases e;obtain⟨a,xs,h1,c,k,j⟩:=g.ud i _ f h rfl;exact⟨.ref a,h1,.inr ⟨a,xs,f,rfl,c,j,rfl⟩⟩
 .rename_i f h;cases e;obtain⟨a,xs,h1,c,k,j⟩:=g.ud i _ f h rfl;exact⟨.ref a,h1,.inr ⟨a,xs,f,rfl,c,j,rfl⟩⟩
 .cases e
structure Ext(F H F' H':Hp):Prop where
 hs:aJ H H'
 fs:aJ F F'
 sub:aJ F' H'
 gr:∀b,F b=none->F' b≠none->nt (H b)=none
theorem Ext.refl(h:aJ F H):Ext F H F H:=⟨.refl _,.refl _,h,λ_ a b=>absurd a b⟩
theorem Ext.stp(g:GS K F ρ σ H)(e:Ext F H F' H'):az K F ρ σ H F' ρ σ H':=by
 refine⟨⟨e.sub,g.len,λi b d h=>?_,λi s j h h'=>?_,g.dis⟩,e.fs,λb n k=>.inr (e.gr b n k),λb o h _=>e.hs b o h,λ_ h=>.inl h,rfl,λi s h _=>⟨rfl,s,h,.refl s⟩⟩;.obtain⟨v,h1,c⟩:=g.val i b d h;exact⟨v,h1,c.mono e.fs⟩
 .obtain⟨a,xs,h1,c,l,f⟩:=g.own i s j h h';refine⟨a,xs,h1,e.hs _ _ c,?_,f.mono e.fs⟩;cases q:F' a with|none=>rfl|some o=>have:=e.gr a l (by rw[q];simp);rw[c]at this;exact(Il f this).elim
def cB(K:PySem.W.Frag)(F' H' H:Hp)(v:V):R->Prop|.val d=>Rep K F' v d|.own b=>∃a xs,v=.ref a/\H' a=some (.lst xs)/\F' a=none/\aF K F' xs b/\H a=none
theorem cB.qU{r:R}(g:GS K F ρ σ H)(h:cB K F' H' H v r):cR K F' ρ σ H' ρ σ H v r:=by cases r with|val d=>exact h|own p=>obtain⟨a,xs,rfl,h1,l,m,f⟩:=h;refine⟨a,xs,rfl,h1,l,m,?_,.inr f⟩;rintro⟨i,⟨s,c,e,n⟩,o⟩;obtain⟨b,ys,j,k,_⟩:=g.own i s c e n;rw[o]at j;cases j;rw[f]at k;cases k
theorem cR.later{F1 j k l:Hp}{c f:List Sl}{g i:St}{r:R}(a:az K F ρ σ H F1 c g j)(h:cR K k f i l c g j v r):cR K k f i l ρ σ H v r:=by cases r with|val d=>exact h|own q=>
   obtain⟨b,xs,rfl,h1,m,n,p,h5⟩:=h;refine⟨b,xs,rfl,h1,m,n,p,?_⟩;rcases h5 with h5|h5;.exact a.xm b h5
   . by_cases ho:Own ρ σ b;.exact .inl ho
     .right;cases e:H b with|none=>rfl|some o=>rw[a.keep b o e ho]at h5;cases h5
end
end HH
end
section
namespace HH
open PySem L2 PySem.Spec PyProof.Rows
variable{ρ' ρ ρ₀:List Sl}{es:List Expr}{K:PySem.W.Frag}{F H H₀:Hp}{σ:L2.St}{i n:Nat}{ds:List D}{x:Str}{v:V}{op:CmpOp}{p':Pos}{as:List Arg}
theorem aa{c e:Type}{x:Res c}{f:c->List Sl->Res e}{b:e}(h:x.bind f=.ok b ρ'):∃a ρ,x=.ok a ρ/\f a ρ=.ok b ρ':=by cases x with|ok a ρ=>exact⟨a,ρ,rfl,h⟩|exc _ _=>cases h|stuck=>cases h
theorem aG{c:Type}{o:Option c}{a:c}(h:lift o ρ=.ok a ρ'):o=some a/\ρ=ρ':=by cases o with|none=>cases h|some b=>cases h;exact⟨rfl,rfl⟩
theorem map_some{c e:Type}{o:Option c}{f:c->e}{b:e}(h:o.map f=some b):∃a,o=some a/\f a=b:=by cases o with|none=>cases h|some a=>cases h;exact⟨a,rfl,rfl⟩
theorem bW{c e:Type}{o:Option c}{f:c->Option e}{b:e}(h:o.bind f=some b):∃a,o=some a/\f a=some b:=by cases o with|none=>cases h|some a=>exact⟨a,rfl,h⟩
theorem aY{e:Type}{c:Prop}[Decidable c]{a b:e}(h:(if c then some a else none)=some b):c/\a=b:=by
 split at h;.rename_i hc;cases h;exact⟨hc,rfl⟩
 .cases h
section
variable{X:Cx}{c:Call}{e a b:Expr}{p pa pb:P}{pos:Pos}
theorem du{t t':TE}(h:PE X e t)(i:∀σ H Q,t' σ H Q->t σ H Q):PE X e t':=λf s σ H Q I q=>h f s σ H Q I (i σ H Q q)
theorem xq{t t':TT}(h:PT X e t)(i:∀σ H Q,t' σ H Q->t σ H Q):PT X e t':=λf s σ H Q I q=>h f s σ H Q I (i σ H Q q)
theorem Qh{t t':TT}(h:PW X e t)(i:∀σ H Q,t' σ H Q->t σ H Q):PW X e t':=λwh f s σ H Q I q=>h wh f s σ H Q I (i σ H Q q)
theorem sH{t t':TA}(h:PA X es t)(i:∀σ H Q,t' σ H Q->t σ H Q):PA X es t':=λpos f s σ H Q I q=>h pos f s σ H Q I (i σ H Q q)
inductive xW(K:PySem.W.Frag)(f:Ev)(σ:L2.St)(H:Hp)(Q:VK):Prop where|mk(F:Hp)(ρ:List Sl)(r:R)(ρ':List Sl)(g:GS K F ρ σ H)(e:f ρ=.ok r ρ')(k:∀v F' H',az K F ρ σ H F' ρ' σ H'->cR K F' ρ' σ H' ρ σ H v r->Q v H')
inductive GZ(K:PySem.W.Frag)(f:List Sl->Res Bool)(σ:L2.St)(H:Hp)(Q:Bool->Hp->Prop):Prop where|mk(F:Hp)(ρ:List Sl)(b:Bool)(ρ':List Sl)(g:GS K F ρ σ H)(e:f ρ=.ok b ρ')(k:∀F' H',az K F ρ σ H F' ρ' σ H'->Q b H')
inductive acK(K:PySem.W.Frag)(f:List Sl->Res (List D))(σ:L2.St)(H:Hp)(Q:List V->Hp->Prop):Prop where|mk(F:Hp)(ρ:List Sl)(ds:List D)(ρ':List Sl)(g:GS K F ρ σ H)(e:f ρ=.ok ds ρ')(k:∀vs F' H',az K F ρ σ H F' ρ' σ H'->aF K F' vs ds->Q vs H')
structure SX(X:Cx)(c:Call)(e:Expr)(p:P):Prop where ev:PE X e (xW X.K (HH.ev c p))var:∀i,isVar p=some i->PE X e (Uw i)
def SA(X:Cx)(c:Call)(es:List Expr)(ps:List P):Prop:=PA X es (acK X.K (evs c ps))/\ps.length=es.length
theorem SX.cL(h:SX X c e p):∃t,PE X e t/\∀{σ:L2.St}{H F:Hp}{ρ ρ':List Sl}{d:D}{Q:VK},GS X.K F ρ σ H->cL (isVar p) (HH.ev c p) ρ=.ok d ρ'->(∀v j f,az X.K F ρ σ H j ρ' σ f->dm X.K j f v d->Q v f)->t σ H Q:=by cases hv:isVar p with|none=>refine⟨_,h.ev,λ{σ H F ρ ρ' d Q}g e k=>?_⟩;obtain⟨r,q,l,m⟩:=aa e;cases m;refine⟨F,ρ,r,_,g,l,λv j f s u=>?_⟩;obtain⟨o,w,_,y⟩:=s.dB u;exact k v o f w (.inl y)|some i=>refine⟨_,h.var i hv,λ{σ H F ρ ρ' d Q}g e k=>?_⟩;obtain⟨l,m⟩:=aG e;subst m;obtain⟨v,h1,z⟩:=g.pk l;exact⟨v,h1,k v F H (.refl g) z⟩
theorem SX.kj(I:SX X c a pa)(M:SX X c b pb):∃J tb,PE X a J/\PE X b tb/\∀{σ:L2.St}{H F:Hp}{ρ ρ':List Sl}{h:D×D}{R:V->V->Hp->Prop},GS X.K F ρ σ H->kj (isVar pa) (HH.ev c pa) (isVar pb) (HH.ev c pb) ρ=.ok h ρ'->(∀v u t j,az X.K F ρ σ H t ρ' σ j->dm X.K t j v h.1->dm X.K t j u h.2->R v u j)->J σ H λx w=>tb σ w λy z=>R x y z:=by obtain⟨tb,l,m⟩:=M.cL;cases hv:isVar pa with|none=>refine⟨_,tb,I.ev,l,λ{σ H F ρ ρ' h R}g e k=>?_⟩;obtain⟨x,A,o,e⟩:=aa e;obtain⟨y,B,f,e⟩:=aa e;cases e;obtain⟨r,L,o,C⟩:=aa o;cases C;refine⟨F,ρ,r,_,g,o,λv t j s N=>?_⟩;obtain⟨F1,s1,_,O⟩:=s.dB N;refine m s1.gs f λu Q z s2 E=>?_;exact k v u Q z (s1.trans s2) (.inl (O.mono s2.cZ)) E|some i=>refine⟨_,tb,I.var i hv,l,λ{σ H F ρ ρ' h R}g e k=>?_⟩;obtain⟨x0,U,C,e⟩:=aa e;obtain⟨G,W⟩:=aG C;subst W;obtain⟨y,A,o,e⟩:=aa e;obtain⟨x,B,f,e⟩:=aa e;cases e;have Y:=aG f;clear f;obtain⟨f,Z⟩:=Y;subst Z;obtain⟨v,h1,_⟩:=g.pk G;refine⟨v,h1,m g o λu F1 w s1 E=>?_⟩;obtain⟨v',q,pv⟩:=s1.gs.pk f;rw[h1]at q;cases q;exact k v u F1 w s1 pv E
inductive rD(K:PySem.W.Frag)(f:D->D->Option R)(x y:V)(H:Hp)(Q:VK):Prop where|mk(F:Hp)(d e:D)(r:R)(sm:aJ F H)(px:dm K F H x d)(py:dm K F H y e)(he:f d e=some r)(k:∀v F' H',Ext F H F' H'->cB K F' H' H v r->Q v H')
inductive rD1(K:PySem.W.Frag)(f:D->Option R)(x:V)(H:Hp)(Q:VK):Prop where|mk(F:Hp)(d:D)(r:R)(sm:aJ F H)(px:dm K F H x d)(he:f d=some r)(k:∀v F' H',Ext F H F' H'->cB K F' H' H v r->Q v H')
theorem v7{E:Expr}{f:D->D->Option R}{q:P}(o:∀{m tb},PE X a m->PE X b tb->PE X E (TQ (rD X.K f) m tb))(t:SX X c a pa)(y:SX X c b pb)(z:∀ρ,HH.ev c q ρ=(HH.kj (isVar pa) (HH.ev c pa) (isVar pb) (HH.ev c pb) ρ).bind λj ρ=>lift (f j.1 j.2) ρ)(A:isVar q=none):SX X c E q:=by obtain⟨m,tb,h1,B,C⟩:=t.kj y;refine⟨du (o h1 B) ?_,λi h=>by rw[A]at h;cases h⟩;rintro σ H Q⟨F,ρ,r,ρ',g,e,k⟩;rw[z]at e;obtain⟨j,G,I,l⟩:=aa e;have J:=aG l;clear l;obtain⟨l,L⟩:=J;subst L;refine C g I λv u M Z s N O=>⟨M,j.1,j.2,r,s.gs.sub,N,O,l,λw U W x Y=>?_⟩;exact k w U W (s.trans (x.stp s.gs)) (.later s (Y.qU s.gs))
theorem U4{E:Expr}{f:D->Option R}{q:P}(m:∀{l},PE X a l->PE X E (tUn (rD1 X.K f) l))(o:SX X c a pa)(t:∀ρ,HH.ev c q ρ=(HH.cL (isVar pa) (HH.ev c pa) ρ).bind λx ρ=>lift (f x) ρ)(u:isVar q=none):SX X c E q:=by obtain⟨l,h1,y⟩:=o.cL;refine⟨du (m h1) ?_,λi h=>by rw[u]at h;cases h⟩;rintro σ H Q⟨F,ρ,r,ρ',g,e,k⟩;rw[t]at e;obtain⟨x,z,A,j⟩:=aa e;have B:=aG j;clear j;obtain⟨j,C⟩:=B;subst C;refine y g A λv G N s I=>⟨G,x,r,s.gs.sub,I,j,λw J L x M=>?_⟩;exact k w J L (s.trans (x.stp s.gs)) (.later s (M.qU s.gs))
theorem GS.freeze{b:Bool}(g:GS K F ρ σ H)(e:ρ[i]?=some (.own b ds)):∃v z,σ[i]?=some (some v)/\az K F ρ σ H z (ρ.set i (.val b (.lst ds))) σ H/\Rep K z v (.lst ds):=by
 obtain⟨a,xs,h1,C,E,G⟩:=g.ud i _ ds e rfl;have hi:i<ρ.length:=(fM e).1;have sm:aJ F (upd F a (.lst xs)):=aJ.cA E;have A:Rep K (upd F a (.lst xs)) (.ref a) (.lst ds):=by rw[Rep];exact⟨a,xs,rfl,gJ.of aL,G.mono sm⟩
 have I:Own ρ σ a:=⟨i,⟨_,_,e,rfl⟩,h1⟩;have r:∀j x,aP (ρ.set i (.val b (.lst ds))) σ j x->aP ρ σ j x/\j≠i:=λj x⟨⟨s,h,m,u⟩,y⟩=>by
  by_cases f:j=i;.subst f;rw[getElem?_set_self hi]at m;cases m;cases u
  .rw[fU f]at m;exact⟨⟨⟨s,h,m,u⟩,y⟩,f⟩
 refine⟨.ref a,upd F a (.lst xs),h1,⟨⟨λx o q=>?_,by simpa using g.len,λj b' d q=>?_,λj s h q w=>?_,λj k x q w=>g.dis j k x (r j x q).1 (r k x w).1⟩,sm,λx n B=>?_,λ_ _ q _=>q,λx⟨j,q⟩=>.inl ⟨j,(r j x q).1⟩,by simp,λj s q l=>⟨rfl,?_⟩⟩,A⟩
 . by_cases t:x=a;.subst t;rw[aL]at q;cases q;exact C
   .rw[aA t]at q;exact g.sub x o q
 . by_cases f:j=i;.subst f;rw[getElem?_set_self hi]at q;cases q;exact⟨_,h1,A⟩
   .rw[fU f]at q;obtain⟨v,m,u⟩:=g.val j b' d q;exact⟨v,m,u.mono sm⟩
 . by_cases f:j=i;.subst f;rw[getElem?_set_self hi]at q;cases q;cases w
   . rw[fU f]at q;obtain⟨x,ys,m,u,y,J⟩:=g.own j s h q w;have t:x≠a:=by rintro rfl;exact f (g.dis j i x ⟨⟨s,h,q,w⟩,m⟩ ⟨⟨_,_,e,rfl⟩,h1⟩)
     exact⟨x,ys,m,u,by rw[aA t];exact y,J.mono sm⟩
 . by_cases t:x=a;.subst t;exact .inl I
   .rw[aA t]at B;exact absurd n B
 . by_cases f:j=i;.subst f;rw[e]at q;cases q;refine⟨_,getElem?_set_self hi,?_⟩;cases b with|true=>exact .inr ⟨_,rfl⟩|false=>cases l
   .exact⟨s,by rw[fU f];exact q,.refl s⟩
theorem GS.CP{m:Dc}(g:GS K F ρ σ H)(e:ρ[i]?=some (.iG m)):∃a,σ[i]?=some (some (.ref a))/\H a=some m.ho/\∀u,az K F ρ σ H (upd F a (.dB u m.ho)) (ρ.set i (.val false (.dH m))) σ (upd H a (.dB u m.ho))/\Rep K (upd F a (.dB u m.ho)) (.ref a) (.dH m):=by
 obtain⟨a,G,h1,I,J,L⟩:=g.own i _ _ e rfl;cases(show G=m.ho from L);have hi:i<ρ.length:=(fM e).1;refine⟨a,h1,I,λu=>?_⟩;have sm:aJ F (upd F a (.dB u m.ho)):=aJ.cA J;have B:Rep K (upd F a (.dB u m.ho)) (.ref a) (.dH m):=by rw[Rep];exact⟨a,u,rfl,aL⟩
 have C:Own ρ σ a:=⟨i,⟨_,_,e,rfl⟩,h1⟩;have w:∀j x,aP (ρ.set i (.val false (.dH m))) σ j x->aP ρ σ j x/\j≠i:=λj x⟨⟨s,r,t,y⟩,A⟩=>by
  by_cases f:j=i;.subst f;rw[getElem?_set_self hi]at t;cases t;cases y
  .rw[fU f]at t;exact⟨⟨⟨s,r,t,y⟩,A⟩,f⟩
 refine⟨⟨⟨λx o q=>?_,by simpa using g.len,λj b' d q=>?_,λj s r q z=>?_,λj k x q z=>g.dis j k x (w j x q).1 (w k x z).1⟩,sm,λx n E=>?_,λx o q n=>?_,λx⟨j,q⟩=>.inl ⟨j,(w j x q).1⟩,by simp,λj s q l=>⟨rfl,?_⟩⟩,B⟩
 . by_cases h:x=a;.subst h;rw[aL]at q ⊢;exact q
   .rw[aA h]at q ⊢;exact g.sub x o q
 . by_cases f:j=i;.subst f;rw[getElem?_set_self hi]at q;cases q;exact⟨_,h1,B⟩
   .rw[fU f]at q;obtain⟨v,t,y⟩:=g.val j b' d q;exact⟨v,t,y.mono sm⟩
 . by_cases f:j=i;.subst f;rw[getElem?_set_self hi]at q;cases q;cases z
   . rw[fU f]at q;obtain⟨x,ys,t,y,A,M⟩:=g.own j s r q z;have h:x≠a:=by rintro rfl;exact f (g.dis j i x ⟨⟨s,r,q,z⟩,t⟩ ⟨⟨_,_,e,rfl⟩,h1⟩)
     exact⟨x,ys,t,by rw[aA h];exact y,by rw[aA h];exact A,M.mono sm⟩
 . by_cases h:x=a;.subst h;exact .inl C
   .rw[aA h]at E;exact absurd n E
 . have h:x≠a:=by rintro rfl;exact n C
   rw[aA h];exact q
 . by_cases f:j=i;.subst f;rw[e]at q;cases q;cases l
   .exact⟨s,by rw[fU f];exact q,.refl s⟩
theorem GS.Cu{kvs:List (Int×D)}(g:GS K F ρ σ H)(e:ρ[i]?=some (.cN kvs)):∃a vs,σ[i]?=some (some (.ref a))/\H a=some (Bl (kvs.map (·.1)) vs)/\∀t,az K F ρ σ H (upd F a (.dB t (Bl (kvs.map (·.1)) vs))) (ρ.set i (.val false (.dv (kvs.map (·.1)) (kvs.map (·.2))))) σ (upd H a (.dB t (Bl (kvs.map (·.1)) vs)))/\Rep K (upd F a (.dB t (Bl (kvs.map (·.1)) vs))) (.ref a) (.dv (kvs.map (·.1)) (kvs.map (·.2))):=by
 obtain⟨a,M,h1,E,G,I⟩:=g.own i _ _ e rfl;obtain⟨vs,rfl,J⟩:=I;have hi:i<ρ.length:=(fM e).1;refine⟨a,vs,h1,E,λt=>?_⟩;have sm:aJ F (upd F a (.dB t (Bl (kvs.map (·.1)) vs))):=aJ.cA G;have A:Rep K (upd F a (.dB t (Bl (kvs.map (·.1)) vs))) (.ref a) (.dv (kvs.map (·.1)) (kvs.map (·.2))):=by rw[Rep];exact⟨a,t,vs,rfl,aL,J.mono sm,by simp⟩
 have B:Own ρ σ a:=⟨i,⟨_,_,e,rfl⟩,h1⟩;have u:∀j x,aP (ρ.set i (.val false (.dv (kvs.map (·.1)) (kvs.map (·.2))))) σ j x->aP ρ σ j x/\j≠i:=λj x⟨⟨s,m,r,w⟩,z⟩=>by
  by_cases f:j=i;.subst f;rw[getElem?_set_self hi]at r;cases r;cases w
  .rw[fU f]at r;exact⟨⟨⟨s,m,r,w⟩,z⟩,f⟩
 refine⟨⟨⟨λx o q=>?_,by simpa using g.len,λj b' d q=>?_,λj s m q y=>?_,λj k x q y=>g.dis j k x (u j x q).1 (u k x y).1⟩,sm,λx n C=>?_,λx o q n=>?_,λx⟨j,q⟩=>.inl ⟨j,(u j x q).1⟩,by simp,λj s q l=>⟨rfl,?_⟩⟩,A⟩
 . by_cases h:x=a;.subst h;rw[aL]at q ⊢;exact q
   .rw[aA h]at q ⊢;exact g.sub x o q
 . by_cases f:j=i;.subst f;rw[getElem?_set_self hi]at q;cases q;exact⟨_,h1,A⟩
   .rw[fU f]at q;obtain⟨v,r,w⟩:=g.val j b' d q;exact⟨v,r,w.mono sm⟩
 . by_cases f:j=i;.subst f;rw[getElem?_set_self hi]at q;cases q;cases y
   . rw[fU f]at q;obtain⟨x,ys,r,w,z,L⟩:=g.own j s m q y;have h:x≠a:=by rintro rfl;exact f (g.dis j i x ⟨⟨s,m,q,y⟩,r⟩ ⟨⟨_,_,e,rfl⟩,h1⟩)
     exact⟨x,ys,r,by rw[aA h];exact w,by rw[aA h];exact z,L.mono sm⟩
 . by_cases h:x=a;.subst h;exact .inl B
   .rw[aA h]at C;exact absurd n C
 . have h:x≠a:=by rintro rfl;exact n B
   rw[aA h];exact q
 . by_cases f:j=i;.subst f;rw[e]at q;cases q;cases l
   .exact⟨s,by rw[fU f];exact q,.refl s⟩
theorem Inv.JT{X:Cx}{f:List (Addr×Obj)}{s:Shared}{a:Addr}{kvs:List (Key×V)}(I:L2.Inv X f σ H s)(h:H a=some (.dK kvs)):∃o,L2.Inv X f σ (upd H a (.dB o (.dK kvs))) s:=by obtain⟨hz,g,vs,r,dd⟩:=(show bw X.prog X.w H s.heap a (.dK kvs)from I.hok a _ h);obtain⟨o,ho,_⟩:=dd.typeIs;exact⟨o,I.write (h':=s.heap) (t':=s.toks) (by rw[h];exact trivial) (.inl rfl) (λb u _ e=>e) ⟨o,ho⟩ ⟨ho,hz,g,vs,r,dd⟩⟩
theorem SN(z:X.N[i]?=some x)(A:uX X.env.scope x)(hd:(x==("__debug__":Str))=false:=by decide)(t:(x==("__classdict__":Str))=false:=by decide):SX X c (.Name x pos) (.var i):=by
 have h:=eX (X:=X) (pos:=pos) z A hd t;refine⟨?_,λj B=>by cases B;exact h⟩;rintro f s σ H Q I⟨F,ρ,r,ρ',g,e,k⟩;rw[HH.E1]at e;split at e;.rename_i b d q;cases e;obtain⟨v,h1,l⟩:=g.val i b d q;exact h f s σ H Q I ⟨v,h1,k v F H (.refl g) l⟩
 .rename_i b ds q;cases e;obtain⟨v,C,h1,l,m⟩:=g.freeze q;exact h f s σ H Q I ⟨v,h1,k v C H l m⟩
 .rename_i kvs q;cases e;obtain⟨a,h1,l,m⟩:=g.CP q;refine bV (h f s σ H (λv w=>v=.ref a/\w=H) I ⟨.ref a,h1,rfl,rfl⟩) λu s1⟨v,H1,I1,r1,e1,e2⟩=>?_;subst e1 e2;obtain⟨o,y⟩:=Inv.JT I1 l;exact⟨.ref a,_,y,r1,k _ _ _ (m o).1 (m o).2⟩
 .rename_i kvs q;cases e;obtain⟨a,vs,h1,l,m⟩:=g.Cu q;refine bV (h f s σ H (λv w=>v=.ref a/\w=H) I ⟨.ref a,h1,rfl,rfl⟩) λu s1⟨v,H1,I1,r1,e1,e2⟩=>?_;subst e1 e2;obtain⟨o,y⟩:=Inv.JT I1 l;exact⟨.ref a,_,y,r1,k _ _ _ (m o).1 (m o).2⟩
 .cases e
theorem Bb{d:D}(h:PE X e (tC v))(hr:∀F,Rep X.K F v d):SX X c e (.con d):=⟨du h λσ H Q⟨F,ρ,r,ρ',g,e,k⟩=>by rw[HH.E2]at e;cases e;exact k v F H (.refl g) (hr F),λi h=>by cases h⟩
theorem ak{i j}:SX X c (.Constant (.int i) j pos) (.con (.int i)):=Bb sO λF=>by rw[Rep]
theorem nZ{i j}:SX X c (.Constant (.bool i) j pos) (.con (.bl i)):=Bb XX λF=>by rw[Rep]
theorem Ax{j}:SX X c (.Constant .none j pos) (.con .non):=Bb Ro λF=>by rw[Rep]
theorem dm.int{K:PySem.W.Frag}{F H:Hp}{v:V}{i:Int}(h:dm K F H v (.int i)):v=.int i:=by
 rcases h with h|⟨_,_,_,_,_,_,h⟩;.rw[Rep]at h;exact h
 .cases h
theorem dm.bl{K:PySem.W.Frag}{F H:Hp}{v:V}{i:Bool}(h:dm K F H v (.bl i)):v=.bl i:=by
 rcases h with h|⟨_,_,_,_,_,_,h⟩;.rw[Rep]at h;exact h
 .cases h
theorem dm.str{K:PySem.W.Frag}{F H:Hp}{v:V}{i:Str}(h:dm K F H v (.str i)):v=.str i:=by
 rcases h with h|⟨_,_,_,_,_,_,h⟩;.rw[Rep]at h;exact h
 .cases h
theorem dm.non{K:PySem.W.Frag}{F H:Hp}{v:V}(h:dm K F H v .non):v=.non:=by
 rcases h with h|⟨_,_,_,_,_,_,h⟩;.rw[Rep]at h;exact h
 .cases h
theorem dm.tup{K:PySem.W.Frag}{F H:Hp}{v:V}{ds:List D}(s:aJ F H)(h:dm K F H v (.tup ds)):∃a xs,v=.ref a/\lR K H a xs/\aF K F xs ds/\Rep K F v (.tup ds):=by
 rcases h with h|⟨_,_,_,_,_,_,h⟩;.have h':=h;rw[Rep]at h;obtain⟨a,xs,rfl,h1,f⟩:=h;exact⟨a,xs,rfl,aJ.jz s h1,f,h'⟩
 .cases h
theorem dm.lst{K:PySem.W.Frag}{F H:Hp}{v:V}{ds:List D}(s:aJ F H)(h:dm K F H v (.lst ds)):∃a xs,v=.ref a/\gJ K H a xs/\aF K F xs ds:=by
 rcases h with h|⟨a,xs,es,h1,f,g,h⟩;.rw[Rep]at h;obtain⟨a,xs,rfl,h1,f⟩:=h;exact⟨a,xs,rfl,s.seq h1,f⟩
 .cases h;exact⟨a,xs,h1,gJ.of f,g⟩
theorem dm.dH{m:Dc}(s:aJ F H)(h:dm K F H v (.dH m)):∃a o,v=.ref a/\H a=some (.dB o m.ho):=by
 rcases h with h|⟨_,_,_,_,_,_,h⟩;.rw[Rep]at h;obtain⟨a,o,rfl,h⟩:=h;exact⟨a,o,rfl,s _ _ h⟩
 .cases h
theorem Jo{X:Cx}{f:List (Addr×Obj)}{s:Shared}{a:Addr}{g:Obj}{m:Dc}(I:L2.Inv X f σ H s)(h:H a=some (.dB g m.ho)):∃o,s.heap.get? a=some o/\o.cls=.type "dict":=by have z:=(show bw X.prog X.w H s.heap a (.dB g m.ho)from I.hok a _ h).2;cases m with|k kvs=>obtain⟨_,_,vs,_,d2⟩:=(show bw X.prog X.w H s.heap a (.dK _)from z);exact d2.typeIs|t kvs=>obtain⟨_,_,xs,_,o,es,ep,h1,j,_⟩:=(show bw X.prog X.w H s.heap a (.dT _)from z);exact⟨o,h1,j.1⟩
theorem dm.dv{ks:List Int}(s:aJ F H)(h:dm K F H v (.dv ks ds)):∃a o vs,v=.ref a/\H a=some (.dB o (Bl ks vs))/\aF K F vs ds/\ks.length=ds.length:=by
 rcases h with h|⟨_,_,_,_,_,_,h⟩;.rw[Rep]at h;obtain⟨a,o,vs,rfl,h,h1,f⟩:=h;exact⟨a,o,vs,rfl,s _ _ h,h1,f⟩
 .cases h
theorem Jy{X:Cx}{f:List (Addr×Obj)}{s:Shared}{a:Addr}{g:Obj}{ks:List Int}{vs:List V}(I:L2.Inv X f σ H s)(h:H a=some (.dB g (Bl ks vs))):∃o,s.heap.get? a=some o/\o.cls=.type "dict":=by have z:=(show bw X.prog X.w H s.heap a (.dB g (Bl ks vs))from I.hok a _ h).2;obtain⟨_,_,vs,_,d2⟩:=(show bw X.prog X.w H s.heap a (.dK _)from z);exact d2.typeIs
theorem dm.items{d:D}(s:aJ F H)(h:dm K F H v d)(e:items d=some ds):∃a xs,v=.ref a/\(gJ K H a xs\/lR K H a xs)/\aF K F xs ds:=by cases d with|tup es=>cases e;obtain⟨a,xs,h1,f,g,_⟩:=h.tup s;exact⟨a,xs,h1,.inr f,g⟩|lst es=>cases e;obtain⟨a,xs,h1,f,g⟩:=h.lst s;exact⟨a,xs,h1,.inl f,g⟩|_=>cases e
theorem cB.cY{Q:VK}{d:D}(s:aJ F H)(r:Rep K F v d)(k:∀v g f,Ext F H g f->cB K g f H v (.val d)->Q v f):Q v H:=k v F H (.refl s) r
theorem bU(i:Int):Rep K F (.int i) (.int i):=by rw[Rep]
theorem gH(i:Bool):Rep K F (.bl i) (.bl i):=by rw[Rep]
theorem Tv(i:Str):Rep K F (.str i) (.str i):=by rw[Rep]
theorem Tf:Rep K F .non .non:=by rw[Rep]
theorem Ab{Q:VK}{xs:List V}{p:Addr}(s:aJ F H)(r:aF K F xs ds)(f:H p=none)(k:∀v h g,Ext F H h g->cB K h g H v (.own ds)->Q v g):Q (.ref p) (upd H p (.lst xs)):=by
 have j:F p=none:=by cases q:F p with|none=>rfl|some o=>rw[s p o q]at f;cases f
 exact k _ F _ ⟨aJ.cA f,.refl _,s.trans (aJ.cA f),λ_ a b=>absurd a b⟩ ⟨p,xs,rfl,aL,j,r,f⟩
theorem Ea{Q:VK}{xs:List V}{p:Addr}(s:aJ F H)(r:aF K F xs ds)(g:H p=none)(k:∀v j h,Ext F H j h->cB K j h H v (.val (.tup ds))->Q v h):Q (.ref p) (upd H p (.tup xs)):=by
 have m:F p=none:=by cases q:F p with|none=>rfl|some o=>rw[s p o q]at g;cases g
 have sm:aJ F (upd F p (.tup xs)):=aJ.cA m;refine k _ (upd F p (.tup xs)) _ ⟨aJ.cA g,sm,λb o e=>?_,λb n l=>?_⟩ ?_
 . by_cases f:b=p;.subst f;rw[aL]at e ⊢;exact e
   .rw[aA f]at e ⊢;exact s b o e
 . by_cases f:b=p;.subst f;exact lH g
   .rw[aA f]at l;exact absurd n l
 .show Rep K _ _ (.tup ds);rw[Rep];exact⟨p,xs,rfl,lR.of aL,r.mono sm⟩
end
theorem tV(k:Int)(t:Tok)(l:Addr)(a:Array Value)(n:Nat)(dd:Option Addr)(sl:Array (Option Value)):Meets (Builtin.«int.__rmul__» ⟨[.int k t,.ref l],[]⟩) (λ_ R s=>s.heap.get? l=some ⟨.type "list",dd,.seq a n,sl⟩/\R (.ok (.ret Value.notImplemented)) s):=.of_wp λprog w A R s h=>by obtain⟨b,g,d,tk,os⟩:=s;obtain⟨c,h⟩:=h;wp_walk;exact⟨_,rfl,h⟩
theorem DY(l:Addr)(a:Array Value)(n:Nat)(dd:Option Addr)(sl:Array (Option Value))(k:Int)(t:Tok)(h0:¬(!Builtin.List.listFitsIndex k)=true)(h1:¬a.size*k.toNat>(2^63-1)/8)(b:¬listTooLong (a.size*k.toNat)=true):Meets (Builtin.«list.__mul__» ⟨[.ref l,.int k t],[]⟩) (λ_ R s=>s.heap.get? l=some ⟨.type "list",dd,.seq a n,sl⟩/\R (.ok (.ret (Value.ref s.heap.objs.size))) {s with heap:=s.heap.push {cls:=.type "list",data:=.seq (foldl (·++·) #[] (replicate (if a.isEmpty=true then 0 else k.toNat) a))}}):=.of_wp λprog w A R s h=>by obtain⟨e,g,d,tk,os⟩:=s;obtain⟨c,h⟩:=h;have hz:=AutoListH.joined_fits b;wp_walk using wpAny_loadPart' c;refine wpAny_ite_false (decide_eq_false (Nat.not_lt.mpr hz)) ?_;wp_walk;exact⟨_,rfl,h⟩
section
variable{X:Cx}{c:Call}{e a b d:Expr}{p pa pb pd:P}{pos:Pos}
theorem N7:iH X (binaryOp .Add) (λx y H Q=>∃l b xs o,x=.ref l/\y=.ref b/\gJ X.K H l xs/\gJ X.K H b o/\xs.length+o.length<=sizeLine/\∀p,H p=none->Q (.ref p) (upd H p (.lst (xs++o)))):=by
 intro A s σ H x y v u Q I E G h;obtain⟨l,b,xs,o,rfl,rfl,J,L,hz,q⟩:=h;cases E;cases G;obtain⟨g,r,M,_⟩:=I.list J;obtain⟨f,B,t,_⟩:=I.list L;obtain⟨⟨cls,dd,data,sl⟩,ho,hc,n,hd⟩:=id M.isList;obtain⟨⟨C,w,data2,z⟩,j,k,N,m⟩:=id t.isList;simp only at hc hd k m;subst hc hd k m;have e:g.toArray++f.toArray=(g++f).toArray:=by simp
 refine concat_meets ⟨_,ho,rfl⟩ ⟨_,j,rfl⟩ noFill_list_add seq_list_add PySem.F.slot_list_add PySem.F.entry_list_add (PySem.F.args_list_add_2 _ _) (list_addW l b g.toArray f.toArray n N dd w sl z (by simp only[size_toArray];rw[<-r.length,<-B.length];exact hz)) ⟨ho,j,?_⟩;rw[e];exact⟨.ref _,_,I.RB (t':=s.toks) (r.append B) (by rw[length_append];exact hz),rfl,q _ I.fresh⟩
theorem Jq:iH X (binaryOp .Add) (λx y H Q=>∃a b ys,x=.ref a/\y=.ref b/\lR X.K H a []/\lR X.K H b ys/\Q (.ref b) H):=by intro r s σ H x y v u Q I w z h;obtain⟨a,b,ys,rfl,rfl,A,B,q⟩:=h;cases w;cases z;obtain⟨l,r1,p1,_⟩:=I.tuple A;obtain⟨f,G,p2,_⟩:=I.tuple B;obtain⟨⟨cls,dd,data,sl⟩,ho,hc,n,hd⟩:=id p1;obtain⟨⟨t,m,data2,o⟩,g,j,C,k⟩:=id p2;simp only at hc hd j k;subst hc hd j k;have E:l=[]:=r1.qG.mpr rfl;subst E;exact concat_meets ⟨_,ho,rfl⟩ ⟨_,g,rfl⟩ noFill_tuple_add seq_tuple_add slot_tuple_add entry_tuple_add (args_tuple_add_2 _ _) (tuple_addW0 a b _ f.toArray n C dd m sl o (by simp)) ⟨ho,g,⟨.ref b,H,I,rfl,q⟩⟩
theorem bh:iH X (binaryOp .Add) (rD X.K (tR .add)):=by
 rintro f s σ H x y v u Q I g h⟨F,d,e,r,sm,o,q,he,k⟩;replace he:rP d e=some r:=he;unfold rP at he;split at he;.cases he;rw[o.int]at g;rw[q.int]at h;exact U0 f s σ H _ _ v u Q I g h ⟨_,_,rfl,rfl,cB.cY sm (bU _) k⟩
 .rename_i xs ys;obtain⟨m,he⟩:=aY he;subst he;obtain⟨a,vs,rfl,t,j⟩:=o.lst sm;obtain⟨b,w,rfl,z,l⟩:=q.lst sm;exact N7 f s σ H _ _ v u Q I g h ⟨a,b,vs,w,rfl,rfl,t,z,by rw[j.length,l.length];exact m,λp A=>Ab sm (j.append l) A k⟩
 . rename_i xs ys;obtain⟨m,he⟩:=aY he;subst he;obtain⟨a,vs,rfl,t,j,C⟩:=o.tup sm;obtain⟨b,w,rfl,z,l,tb⟩:=q.tup sm;by_cases h0:vs=[]
   . subst h0;have B:xs=[]:=by have:=j.length;exact List.eq_nil_of_length_eq_zero this.symm
     subst B;exact Jq f s σ H _ _ v u Q I g h ⟨a,b,w,rfl,rfl,t,z,cB.cY sm tb k⟩
   . refine Lz f s σ H _ _ v u Q I g h ⟨a,b,vs,w,rfl,rfl,t,z,h0,by rw[j.length,l.length];exact m,λe=>?_,λ_ p A=>Ea sm (j.append l) A k⟩;subst e;have B:ys=[]:=by have:=l.length;exact List.eq_nil_of_length_eq_zero this.symm
     subst B;rw[append_nil]at k;exact cB.cY sm C k
 .rename_i E G;obtain⟨m,he⟩:=aY he;subst he;rw[o.str]at g;rw[q.str]at h;exact An f s σ H _ _ v u Q I g h ⟨_,_,rfl,rfl,m,cB.cY sm (Tv _) k⟩
 .cases he
theorem lJ:iH X (binaryOp .Sub) (rD X.K (tR .sub)):=by
 rintro f s σ H x y v u Q I g h⟨F,d,e,r,sm,j,l,he,k⟩;replace he:yJ d e=some r:=he;unfold yJ at he;split at he;.cases he;rw[j.int]at g;rw[l.int]at h;exact Sv f s σ H _ _ v u Q I g h ⟨_,_,rfl,rfl,cB.cY sm (bU _) k⟩
 .cases he
theorem Mi:iH X (binaryOp .Mult) (λx y H Q=>∃l k xs,x=.ref l/\y=.int k/\gJ X.K H l xs/\-(2^63)<=k/\k<2^63/\xs.length*k.toNat<=sizeLine/\∀p,H p=none->Q (.ref p) (upd H p (.lst (replicate k.toNat xs).flatten))):=by
 intro w s σ H x y v u Q I z A h;obtain⟨l,k,xs,rfl,rfl,B,h1,C,hz,q⟩:=h;cases z;obtain⟨t,rfl⟩:=A;obtain⟨f,r,E,_⟩:=I.list B;obtain⟨⟨cls,dd,data,sl⟩,ho,hc,n,hd⟩:=id E.isList;simp only at hc hd;subst hc hd;have g:f.toArray.size*k.toNat<=sizeLine:=by rw[size_toArray,<-r.length];exact hz
 have o:¬ f.toArray.size*k.toNat>(2^63-1)/8:=by
  have:(sizeLine:Nat)<=(2^63-1)/8:=by decide
  omega
 have j:foldl (·++·) #[] (replicate (if f.toArray.isEmpty=true then 0 else k.toNat) f.toArray)=(replicate k.toNat f).flatten.toArray:=by
  have f0:∀m:Nat,foldl (·++·) #[] (replicate m f.toArray)=(replicate m f).flatten.toArray:=λm=>by have:=foldl_rep f m [];rw[nil_append]at this;exact this
  rw[f0];cases f with|nil=>simp|cons a J=>rw[if_neg (by simp)]
 refine wpAny_binaryOp_repeat_ref (T:="list") (U:="int") (by decide) ⟨_,ho,rfl⟩ (λG=>typeIs_int G k t) noFill_list_mul F.fills_int_mul F.slot_int_rmul repeat_list F.slot_int_index.lookup ?_;refine call_meets F.slot_int_rmul (typeIs_int s k t) F.entry_int_rmul (F.args_int_rmul_2 _ _) (tV k t l f.toArray n dd sl) ⟨ho,rfl,⟨_,ho,rfl⟩,?_⟩;refine call_meets F.slot_list_mul ⟨_,ho,rfl⟩ F.entry_list_mul (F.args_list_mul_2 _ _) (DY l f.toArray n dd sl k t (by rw[fitsIndex_both h1 C];exact Bool.false_ne_true) o (by rw[Kg g];exact Bool.false_ne_true)) ⟨ho,?_⟩;rw[j];exact⟨.ref _,_,I.RB (t':=s.toks) (r.rep k.toNat) (by rw[len_rep,Nat.mul_comm];exact hz),rfl,q _ I.fresh⟩
theorem oJ:fillsNumberSlot (.type "tuple") "mul"=pure false:=PySem.fillsNumberSlot_seq (id:="tuple.__mul__") (r:=some (.builtin "tuple.__rmul__")) slot_tuple_mul.lookup (by decide+kernel) PySem.F.slot_tuple_rmul.lookup (by decide+kernel)
theorem wy:seqRepeat? (.type "tuple")=pure (some (.builtin "tuple.__mul__")):=by unfold seqRepeat?;rw[PySem.seqSlot_of (T:="tuple") (name:="__mul__") (id:="tuple.__mul__") slot_tuple_mul.lookup (by decide+kernel),PySem.seqSlot_of (T:="tuple") (name:="__rmul__") (id:="tuple.__rmul__") PySem.F.slot_tuple_rmul.lookup (by decide+kernel)];rfl
theorem qL(k:Int)(t:Tok)(l:Addr)(f:Array Value)(n:Nat)(dd:Option Addr)(sl:Array (Option Value)):Meets (Builtin.«int.__rmul__» ⟨[.int k t,.ref l],[]⟩) (λ_ R s=>s.heap.get? l=some ⟨.type "tuple",dd,.seq f n,sl⟩/\R (.ok (.ret Value.notImplemented)) s):=.of_wp λprog w A R s h=>by obtain⟨j,g,d,tk,os⟩:=s;obtain⟨m,h⟩:=h;wp_walk;exact⟨_,rfl,h⟩
theorem zH(l:Addr)(f:Array Value)(n:Nat)(dd:Option Addr)(sl:Array (Option Value))(k:Int)(t:Tok)(h0:0<=k)(h1:k<2^63)(hz:f.size*k.toNat<=sizeLine)(r:0<f.size):Meets (Builtin.«tuple.__mul__» ⟨[.ref l,.int k t],[]⟩) (λ_ R s=>s.heap.get? l=some ⟨.type "tuple",dd,.seq f n,sl⟩/\(k=1->R (.ok (.ret (Value.ref l))) s)/\(k≠1->R (.ok (.ret (Value.ref s.heap.objs.size))) {s with heap:=s.heap.push {cls:=.type "tuple",data:=.seq (foldl (·++·) #[] (replicate k.toNat f))}})):=.of_wp λprog w A R s h=>by
  obtain⟨u,g,d,tk,os⟩:=s;obtain⟨o,y,z⟩:=h;have j:f.isEmpty=false:=by cases e:f.isEmpty with|false=>rfl|true=>rw[Array.isEmpty_iff_size_eq_zero]at e;omega
  show wpAny _ _ (asIndex (.int k t)>>=_) _ _ _;wp_walk using wpAny_loadPart' o;have B:IsTup u l f:=⟨_,o,rfl,n,rfl⟩;rw[if_neg (by simp;omega)];refine wpAny_bind (PyProof.Rows.tupleItemsOf_ B ?_);try dsimp only
  by_cases m:k=1;.rw[if_pos (by simp[m])];wp_walk using wpAny_loadPart' o;exact⟨_,rfl,y m⟩
  . have q:=z m;rw[if_neg (by simp[j,m])];by_cases C:k=0;.subst C;rw[if_pos (by simp)];unfold tupleExact;refine wpAny_bind (wpAny_newObj_type ?_);exact wpAny_pure ⟨_,rfl,q⟩
    . have G:(f.size:Int)*k<=sizeLine:=by
       have:((f.size*k.toNat:Nat):Int)<=(sizeLine:Nat):=by exact_mod_cast hz
       rw[Int.natCast_mul,show((k.toNat:Nat):Int)=k by omega]at this;exact this
      have E:(sizeLine:Int)<=(2^63-1)/8:=by decide
      rw[if_neg (by simp[j];omega),if_neg (by omega),if_neg (by simp[Builtin.Tuple.tupleTooMany];omega)];unfold tupleExact;refine wpAny_bind (wpAny_newObj_type ?_ ?_);.exact wpAny_pure ⟨_,rfl,q⟩
      .have:=foldl_rep f.toList k.toNat [];rw[nil_append,show f.toList.toArray=f by simp]at this;show(foldl (·++·) #[] (replicate k.toNat f)).size<=sizeLine;rw[show(#[]:Array Value)=([]:List Value).toArray from rfl,this,size_toArray,len_rep,length_toList,Nat.mul_comm];exact hz
theorem OD:iH X (binaryOp .Mult) (λx y H Q=>∃l k xs,x=.ref l/\y=.int k/\lR X.K H l xs/\0<xs.length/\0<=k/\k<2^63/\xs.length*k.toNat<=sizeLine/\(k=1->Q (.ref l) H)/\(k≠1->∀p,H p=none->Q (.ref p) (upd H p (.tup (replicate k.toNat xs).flatten)))):=by
 intro w s σ H x y v u Q I z A h;obtain⟨l,k,xs,rfl,rfl,B,m,h1,C,hz,E,G⟩:=h;cases z;obtain⟨t,rfl⟩:=A;obtain⟨f,r,J,_⟩:=I.tuple B;obtain⟨⟨cls,dd,data,sl⟩,ho,hc,n,hd⟩:=id J;simp only at hc hd;subst hc hd;have g:f.toArray.size*k.toNat<=sizeLine:=by rw[size_toArray,<-r.length];exact hz
 have j:foldl (·++·) #[] (replicate k.toNat f.toArray)=(replicate k.toNat f).flatten.toArray:=by have:=foldl_rep f k.toNat [];rw[nil_append]at this;exact this
 refine wpAny_binaryOp_repeat_ref (T:="tuple") (U:="int") (by decide) ⟨_,ho,rfl⟩ (λL=>typeIs_int L k t) oJ F.fills_int_mul F.slot_int_rmul wy F.slot_int_index.lookup ?_;refine call_meets F.slot_int_rmul (typeIs_int s k t) F.entry_int_rmul (F.args_int_rmul_2 _ _) (qL k t l f.toArray n dd sl) ⟨ho,rfl,⟨_,ho,rfl⟩,?_⟩;refine call_meets slot_tuple_mul ⟨_,ho,rfl⟩ PySem.F.entry_tuple_mul (PySem.F.args_tuple_mul_2 _ _) (zH l f.toArray n dd sl k t h1 C g (by rw[size_toArray,<-r.length];exact m)) ⟨ho,λe=>⟨.ref l,H,I,rfl,E e⟩,λe=>?_⟩;rw[j];refine⟨.ref s.heap.objs.size,_,I.laid (t':=s.toks) (o:=.tup (replicate k.toNat xs).flatten) (λb M q=>iK q) (eY) ?_,rfl,G e _ (I.hok.fresh (eY))⟩;exact⟨by rw[len_rep,Nat.mul_comm];exact hz,_,r.rep k.toNat,IsTup.new _ _⟩
theorem dJ:iH X (binaryOp .Mult) (rD X.K (tR .mul)):=by
 rintro f s σ H x y v u Q I l g⟨F,d,e,r,sm,o,q,he,k⟩;replace he:lX d e=some r:=he;unfold lX at he;split at he;.obtain⟨hc,he⟩:=aY he;subst he;rw[o.int]at l;rw[q.int]at g;exact Tq f s σ H _ _ v u Q I l g ⟨_,_,rfl,rfl,hc,cB.cY sm (bU _) k⟩
 . rename_i xs i;obtain⟨⟨h1,m,j⟩,he⟩:=aY he;subst he;obtain⟨a,vs,rfl,t,h⟩:=o.lst sm;rw[q.int]at g;have w:i<2^63:=by have z:=Nat.le_mul_of_pos_left i.toNat m;have B:i.toNat<=16777216:=le_trans z j;omega
   exact Mi f s σ H _ _ v u Q I l g ⟨a,i,vs,rfl,rfl,t,by omega,w,by rw[h.length];exact j,λp A=>Ab sm (h.rep i.toNat) A k⟩
 . rename_i xs i;obtain⟨⟨h1,m,j⟩,he⟩:=aY he;subst he;obtain⟨a,vs,rfl,t,h,C⟩:=o.tup sm;rw[q.int]at g;have w:i<2^63:=by have z:=Nat.le_mul_of_pos_left i.toNat m;have B:i.toNat<=16777216:=le_trans z j;omega
   refine OD f s σ H _ _ v u Q I l g ⟨a,i,vs,rfl,rfl,t,by rw[h.length];exact m,h1,w,by rw[h.length];exact j,λe=>?_,λe p A=>Ea sm (h.rep i.toNat) A k⟩;subst e;refine cB.cY sm ?_ k;have E:(replicate (1:Int).toNat xs).flatten=xs:=by simp
   rw[E];exact C
 .cases he
theorem xY:iH X (binaryOp .FloorDiv) (rD X.K (tR .fdiv)):=by
 rintro f s σ H x y v u Q I g h⟨F,d,e,r,sm,l,m,he,k⟩;replace he:rB d e=some r:=he;unfold rB at he;split at he
 . rename_i i j;obtain⟨⟨h1,q⟩,he⟩:=aY he;subst he;rw[l.int]at g;rw[m.int]at h;obtain⟨t,rfl⟩:=g;obtain⟨t',rfl⟩:=h;have o:j.natAbs.log2<9000:=by
    have:j.natAbs<2^200:=by
     have:(2:Nat)^200=1606938044258990275541962092341162602522202993782792835301376:=by decide
     omega
    have w:=(Nat.log2_lt (by omega)).mpr this;omega
   exact floordiv_int (by omega) (by rw[Int.fdiv_eq_ediv_of_nonneg i (by omega)];exact⟨.int _,H,I.tok _,⟨_,rfl⟩,cB.cY sm (bU _) k⟩) (.inl (PyProof.noPylong_of_log2 o))
 .cases he
theorem gk:iH X (binaryOp .Mod) (rD X.K (tR .mod)):=by
 rintro f s σ H x y v u Q I g h⟨F,d,e,r,sm,j,l,he,k⟩;replace he:yK d e=some r:=he;unfold yK at he;split at he;.obtain⟨h1,he⟩:=aY he;subst he;rw[j.int]at g;rw[l.int]at h;exact Ss f s σ H _ _ v u Q I g h ⟨_,_,rfl,rfl,h1,cB.cY sm (bU _) k⟩
 .cases he
theorem mW:iH X (binaryOp .Pow) (rD X.K (tR .pow)):=by
 rintro f s σ H x y v u Q I g h⟨F,d,e,r,sm,j,l,he,k⟩;replace he:xF d e=some r:=he;unfold xF at he;split at he;.obtain⟨⟨h1,o,m⟩,he⟩:=aY he;subst he;rw[j.int]at g;rw[l.int]at h;exact Ud f s σ H _ _ v u Q I g h ⟨_,_,rfl,rfl,⟨h1,by omega,m⟩,cB.cY sm (bU _) k⟩
 .cases he
theorem aB{o:Op}{op:Operator}(ho:iH X (binaryOp op) (rD X.K (tR o)))(f:SX X c a pa)(g:SX X c b pb):SX X c (.BinOp a op b pos) (.bin o pa pb):=v7 (λh1 h=>Y7 ho h1 h) f g (λρ=>rfl) rfl
theorem rW(j:SX X c a pa):SX X c (.UnaryOp .USub a pos) (.neg pa):=by refine U4 (f:=Jg) (λh1=>XM ?_ h1) j (λρ=>rfl) rfl;rintro g s σ H x v Q I h⟨F,d,r,sm,l,he,k⟩;unfold Jg at he;obtain⟨i,m,o⟩:=map_some he;subst o;cases d<;>cases m;rw[l.int]at h;exact U5 g s σ H _ v Q I h ⟨_,rfl,cB.cY sm (bU _) k⟩
theorem Bm{f:Int->Int->Bool}(ho:iH X (compareOp op) (Qg λi j=>.bl (f i j))):iH X (compareOp op) (rD X.K λx y=>(La f x y).map λk=>.val (.bl k)):=by
 rintro g s σ H x y v u Q I l m⟨F,d,e,r,sm,o,q,he,k⟩;obtain⟨t,h,w⟩:=map_some (show(La f d e).map _=some r from he);subst w;unfold La at h;split at h;.cases h;rw[o.int]at l;rw[q.int]at m;exact ho g s σ H _ _ v u Q I l m ⟨_,_,rfl,rfl,cB.cY sm (gH _) k⟩
 .cases h
theorem Vd{f:Int->Int->Bool}(ho:iH X (compareOp op) (Qg λi j=>.bl (f i j))){o:Cm}(hc:cm o=La f):iH X (compareOp op) (rD X.K (yI o)):=by
 have e:yI o=λx y=>(La f x y).map λk=>.val (.bl k):=by funext x y;unfold yI;rw[hc]
 rw[e];exact Bm ho
theorem Tp:iH X (compareOp .Lt) (rD X.K λx y=>(La (λi j=>decide (i<j)) x y).map λk=>.val (.bl k)):=Bm ZC
theorem kI:iH X (compareOp .Gt) (rD X.K (yI .gt)):=Vd ZV rfl
theorem Fw{d:D}(h:dm K F H v d):decide (v=.non)=j6 d:=by cases d with
 |non=>rw[h.non];rfl|bl _=>rw[h.bl];rfl|int _=>rw[h.int];rfl|str _=>rw[h.str];rfl|tup _=>
   rcases h with h|⟨a,_,_,rfl,_⟩;.rw[Rep]at h;obtain⟨a,_,rfl,_⟩:=h;rfl
   .rfl|lst _=>
   rcases h with h|⟨a,_,_,rfl,_⟩;.rw[Rep]at h;obtain⟨a,_,rfl,_⟩:=h;rfl
   .rfl|dH _=>
   rcases h with h|⟨a,_,_,rfl,_⟩;.rw[Rep]at h;obtain⟨a,_,rfl,_⟩:=h;rfl
   .rfl|dv _ _=>
   rcases h with h|⟨a,_,_,rfl,_⟩;.rw[Rep]at h;obtain⟨a,_,_,rfl,_⟩:=h;rfl
   .rfl
theorem Nt:iH X (compareOp .IsNot) (rD X.K (yI .O4)):=by
 rintro f s σ H x y v u Q I h j⟨F,d,e,r,sm,l,m,he,k⟩;obtain⟨t,g,o⟩:=map_some (show(cmN true d e).map _=some r from he);subst o;unfold cmN at g;split at g;.cases g;exact Nf f s σ H x y v u Q I h j ⟨m.non,by rw[Fw l];exact cB.cY sm (gH _) k⟩
 .cases g
theorem zU{o:Cm}(ho:iH X (compareOp op) (rD X.K (yI o)))(f:SX X c a pa)(g:SX X c b pb)(h:behindInMarks op b=false):SX X c (.Compare a [op] [b] pos) (.cmp o pa pb):=v7 (λh1 j=>Lw ho h1 j h) f g (λρ=>rfl) rfl
end
section
variable{X:Cx}{c:Call}{e a b d:Expr}{p pa pb pd:P}{pos:Pos}{rest:List Expr}
theorem qR{x:D}{k:Bool}(h:zc x=some k):x=.bl k:=by cases x<;>cases h;rfl
theorem cT{x:D}{k:Int}(h:jb x=some k):x=.int k:=by cases x<;>cases h;rfl
theorem cR.bool{f g:Hp}{σ':L2.St}{r:R}{k:Bool}(h:cR K f ρ' σ' g ρ σ H v r)(e:r.d=.bl k):v=.bl k:=by cases r with|val d=>cases(show d=.bl k from e);have h:Rep K f v (.bl k):=h;rw[Rep]at h;exact h|own ds=>cases e
def ST(X:Cx)(c:Call)(e:Expr)(p:P):Prop:=PT X e (GZ X.K (iY (HH.ev c p)))
def SW(X:Cx)(c:Call)(e:Expr)(p:P):Prop:=PW X e (GZ X.K (iY (HH.ev c p)))
theorem SW.st(h:SW X c e p):ST X c e p:=PW.pt h
theorem o8{t:TE}{Q:Bool->Hp->Prop}(hi:∀Q,xW X.K (HH.ev c p) σ H Q->t σ H Q)(h:GZ X.K (iY (HH.ev c p)) σ H Q):t σ H λx l=>∃k,x=.bl k/\Q k l:=by obtain⟨F,ρ,k,ρ',g,e,q⟩:=h;obtain⟨r,j,m,f⟩:=aa e;have o:=aG f;clear f;obtain⟨f,u⟩:=o;subst u;exact hi _ ⟨F,ρ,r,j,g,m,λv w y s z=>⟨k,z.bool (qR f),q w y s⟩⟩
theorem fu(h:SX X c e p)(he:∀f,isTrue e X.env f=(do let v<-f;standAt e.pos;holding [v] (truthy v)):=by intro _;rfl):ST X c e p:=xq (J9 h.ev he) λσ H Q q=>o8 (λ_ z=>z) q
theorem eV{o:Cm}(ho:iH X (compareOp op) (rD X.K (yI o)))(j:SX X c a pa)(l:SX X c b pb)(m:behindInMarks op b=false):ST X c (.Compare a [op] [b] pos) (.cmp o pa pb):=by obtain⟨y,tb,h1,A,B⟩:=j.kj l;refine xq (DK ho h1 A m) λσ H Q q=>o8 (t:=TQ (rD X.K (yI o)) y tb) (λQ z=>?_) q;obtain⟨F,ρ,r,ρ',g,e,k⟩:=z;rw[HH.E8]at e;obtain⟨h,C,E,f⟩:=aa e;have G:=aG f;clear f;obtain⟨f,I⟩:=G;subst I;refine B g E λv u J W s L M=>⟨J,h.1,h.2,r,s.gs.sub,L,M,f,λw N O x U=>?_⟩;exact k w N O (s.trans (x.stp s.gs)) (.later s (U.qU s.gs))
theorem mO(l:ST X c a pa):ST X c (.UnaryOp .Not a pos) (.not pa):=by
 refine xq (Jv l) ?_;rintro σ H Q⟨F,ρ,k,ρ',g,e,q⟩;unfold iY at e;rw[HH.E5]at e;obtain⟨r,m,o,f⟩:=aa e;obtain⟨h,t,u,w⟩:=aa o;cases w;have y:=aG f;clear f;obtain⟨f,z⟩:=y;subst z;have f:(!h)=k:=by cases f;rfl
 exact⟨F,ρ,h,_,g,u,λA j s=>by show Q (!h) j;rw[f];exact q A j s⟩
theorem Mr(ρ:List Sl):iY (HH.ev c (.and pa pb)) ρ=(iY (HH.ev c pa) ρ).bind λx ρ=>if x then iY (HH.ev c pb) ρ else .ok false ρ:=by unfold iY;rw[HH.E6];unfold iY;cases HH.ev c pa ρ with|exc _ _=>rfl|stuck=>rfl|ok r f=>simp only[Res.bind];cases h:zc r.d with|none=>rfl|some k=>cases k with|false=>rfl|true=>simp only[lift,if_true];cases HH.ev c pb f with|exc _ _=>rfl|stuck=>rfl|ok g j=>simp only[Res.bind];cases h2:zc g.d with|none=>rfl|some k2=>rfl
theorem Tg(ρ:List Sl):iY (HH.ev c (.or pa pb)) ρ=(iY (HH.ev c pa) ρ).bind λx ρ=>if x then .ok true ρ else iY (HH.ev c pb) ρ:=by unfold iY;rw[HH.E7];unfold iY;cases HH.ev c pa ρ with|exc _ _=>rfl|stuck=>rfl|ok r f=>simp only[Res.bind];cases h:zc r.d with|none=>rfl|some k=>cases k with|true=>rfl|false=>simp only[lift,false_eq_true,if_false];cases HH.ev c pb f with|exc _ _=>rfl|stuck=>rfl|ok g j=>simp only[Res.bind];cases h2:zc g.d with|none=>rfl|some k2=>rfl
theorem Mg(f:ST X c a pa):SW X c (.BoolOp .And [a] pos) pa:=Og f
theorem sE(f:ST X c a pa):SW X c (.BoolOp .Or [a] pos) pa:=Gz f
theorem Rh(h:ST X c a pa)(j:SW X c (.BoolOp .And (b::rest) pos) pb):SW X c (.BoolOp .And (a::b::rest) pos) (.and pa pb):=by refine Qh (Q9 h j) ?_;rintro σ H Q⟨F,ρ,k,ρ',g,e,q⟩;rw[Mr]at e;obtain⟨x,f,l,e⟩:=aa e;refine⟨F,ρ,x,f,g,l,λF1 m s1=>?_⟩;cases x with|true=>rw[if_pos rfl]at e ⊢;exact⟨F1,f,k,ρ',s1.gs,e,λo r s2=>q o r (s1.trans s2)⟩|false=>rw[if_neg Bool.false_ne_true]at e ⊢;cases e;exact q F1 m s1
theorem yf(h:ST X c a pa)(j:SW X c (.BoolOp .Or (b::rest) pos) pb):SW X c (.BoolOp .Or (a::b::rest) pos) (.or pa pb):=by refine Qh (Qf h j) ?_;rintro σ H Q⟨F,ρ,k,ρ',g,e,q⟩;rw[Tg]at e;obtain⟨x,f,l,e⟩:=aa e;refine⟨F,ρ,x,f,g,l,λF1 m s1=>?_⟩;cases x with|true=>rw[if_pos rfl]at e ⊢;cases e;exact q F1 m s1|false=>rw[if_neg Bool.false_ne_true]at e ⊢;exact⟨F1,f,k,ρ',s1.gs,e,λo r s2=>q o r (s1.trans s2)⟩
theorem Rf(j:SX X c a pa):SX X c (.UnaryOp .Not a pos) (.not pa):=by refine⟨du (Jh j.ev) ?_,λi h=>by cases h⟩;rintro σ H Q⟨F,ρ,r,ρ',g,e,k⟩;rw[HH.E5]at e;obtain⟨x,l,m,o⟩:=aa e;cases o;exact o8 (c:=c) (λ_ z=>z) ⟨F,ρ,x,_,g,m,λf q s=>k _ f q s (show Rep X.K f _ _ from gH _)⟩
theorem wD{op}(f:SX X c a pa):PE X (.BoolOp op [a] pos) (xW X.K (HH.ev c pa)):=Vn f.ev
theorem v9(o:SX X c a pa)(q:PE X (.BoolOp .And (b::rest) pos) (xW X.K (HH.ev c pb))):SX X c (.BoolOp .And (a::b::rest) pos) (.and pa pb):=by refine⟨du (Ue o.ev q) ?_,λi h=>by cases h⟩;rintro σ H Q⟨F,ρ,r,ρ',g,e,k⟩;rw[HH.E6]at e;obtain⟨x,f,s,e⟩:=aa e;refine o8 (c:=c) (λ_ z=>z) (Q:=λx j=>if x=true then xW X.K (HH.ev c pb) σ j Q else Q (.bl false) j) ⟨F,ρ,x,f,g,s,λF1 j s1=>?_⟩;cases x with|true=>rw[if_pos rfl]at e ⊢;obtain⟨y,t,u,w⟩:=aa e;cases w;obtain⟨A,B,C,l⟩:=aa u;have E:=aG l;clear l;obtain⟨l,G⟩:=E;subst G;refine⟨F1,f,A,_,s1.gs,C,λv m I s2 J=>?_⟩;rw[J.bool (qR l)];exact k _ m I (s1.trans s2) (show Rep X.K m _ _ from gH _)|false=>rw[if_neg Bool.false_ne_true]at e ⊢;cases e;exact k _ F1 j s1 (show Rep X.K F1 _ _ from gH _)
theorem my(hc:ST X c e p)(w:SX X c a pa)(y:SX X c b pb):SX X c (.IfExp e a b pos) (.QT p pa pb):=by refine⟨du (Jc hc w.ev y.ev) ?_,λi h=>by cases h⟩;rintro σ H Q⟨F,ρ,r,ρ',g,e,k⟩;rw[HH.E9]at e;obtain⟨x,f,z,e⟩:=aa e;refine⟨F,ρ,x,f,g,z,λF1 B s1=>?_⟩;cases x with|true=>rw[if_pos rfl]at e ⊢;obtain⟨j,l,m,o⟩:=aa e;cases o;refine⟨F1,f,j,_,s1.gs,m,λv A q s2 s=>?_⟩;obtain⟨t,s3,_,u⟩:=s2.dB s;exact k v t q (s1.trans s3) u|false=>rw[if_neg Bool.false_ne_true]at e ⊢;obtain⟨j,l,m,o⟩:=aa e;cases o;refine⟨F1,f,j,_,s1.gs,m,λv A q s2 s=>?_⟩;obtain⟨t,s3,_,u⟩:=s2.dB s;exact k v t q (s1.trans s3) u
theorem wu:∀{ps:List P}{ρ ρ':List Sl}{ds:List D},evs c ps ρ=.ok ds ρ'->ds.length=ps.length|[],_,_,_,h=>by rw[Kl]at h;cases h;rfl|p::ps,_,_,_,h=>by rw[Hh]at h;obtain⟨r,f,_,h⟩:=aa h;obtain⟨xs,g,j,h⟩:=aa h;cases h;simp[wu j]
theorem aK:SA X c [] []:=⟨sH dO λσ H Q⟨F,ρ,ds,ρ',g,e,k⟩=>by rw[Kl]at e;cases e;exact k [] F H (.refl g) .nil,rfl⟩
theorem Ca{ps:List P}(h:SX X c a pa)(hr:SA X c es ps)(hs:starEach (a::es) X.env=(false,eval a X.env)::starEach es X.env:=by rfl):SA X c (a::es) (pa::ps):=by refine⟨sH (bD h.ev hr.1 hs) ?_,by simp[hr.2]⟩;rintro σ H Q⟨F,ρ,ds,ρ',g,e,k⟩;rw[Hh]at e;obtain⟨r,f,j,e⟩:=aa e;obtain⟨xs,l,m,e⟩:=aa e;cases e;refine⟨F,ρ,r,f,g,j,λv y z s o=>?_⟩;obtain⟨F1,s1,_,q⟩:=s.dB o;refine⟨F1,f,xs,_,s1.gs,m,λvs t u s2 w=>?_⟩;exact k _ t u (s1.trans s2) (.cons (q.mono s2.cZ) w)
theorem Ext.Nh{h j:Hp}{Q:VK}{xs:List V}(s:az K j ρ σ h F ρ' σ H)(r:aF K F xs ds)(k:∀v g f,az K j ρ σ h g ρ' σ f->cR K g ρ' σ f ρ σ h v (.val (.tup ds))->Q v f)(p:Addr)(l:H p=none):Q (.ref p) (upd H p (.tup xs)):=Ea s.gs.sub r l λv g f x m=>k v g f (s.trans (x.stp s.gs)) m
theorem dz{ps:List P}{x1}(h:SA X c es ps)(hz:ps.length<=sizeLine:=by decide):SX X c (.Tuple es x1 pos) (.tup ps):=by refine⟨du (GQ h.1) ?_,λi h=>by cases h⟩;rintro σ H Q⟨F,ρ,r,ρ',g,e,k⟩;rw[HH.E10]at e;obtain⟨ds,l,f,e⟩:=aa e;cases e;exact⟨F,ρ,ds,_,g,f,λvs o q s j=>⟨by rw[j.length,wu f];exact hz,λp m=>Ext.Nh s j k p m⟩⟩
theorem cC{ps:List P}(h:SA X c es ps)(hz:ps.length<=sizeLine:=by decide):SX X c (.List es pos) (.lst ps):=by refine⟨du (Vj h.1) ?_,λi h=>by cases h⟩;rintro σ H Q⟨F,ρ,r,ρ',g,e,k⟩;rw[HH.E11]at e;obtain⟨ds,l,f,e⟩:=aa e;cases e;exact⟨F,ρ,ds,_,g,f,λvs u w s j=>⟨by rw[j.length,wu f];exact hz,λp m=>Ab s.gs.sub j m λv o q x t=>k v o q (s.trans (x.stp s.gs)) (.later s (t.qU s.gs))⟩⟩
theorem Im{i:Int}{d:D}(h:at' ds i=some d):∃j,L2.jP ds.length i=some j/\ds[j]?=some d:=bW h
theorem acr:IxR X (rD X.K Nv):=by
 rintro f slice g s σ H x y v u Q I m l⟨F,d,e,r,sm,t,A,he,k⟩hs;unfold Nv at he;obtain⟨ds,B,he⟩:=bW he;obtain⟨i,C,he⟩:=bW he;obtain⟨z,E,he⟩:=map_some he;subst he;cases cT C;rw[A.int]at l;obtain⟨p,xs,rfl,hq,o⟩:=t.items sm B;obtain⟨j,h1,G⟩:=Im E;obtain⟨w,J,q⟩:=o.get G;have h:Jz xs i=some w:=by unfold Jz;rw[o.length,h1];exact J
 rcases hq with hq|hq;.exact BJ f slice g s σ H _ _ v u Q I m l ⟨p,xs,i,w,rfl,rfl,hq,h,cB.cY sm q k⟩ hs
 .exact TJ f slice g s σ H _ _ v u Q I m l ⟨p,xs,i,w,rfl,rfl,hq,h,cB.cY sm q k⟩ hs
theorem aC(g:SX X c a pa)(h:SX X c b pb)(hs:vZ b:=by intro _ _;rfl):SX X c (.Subscript a b pos) (.idx pa pb):=v7 (f:=Nv) (λh1 j=>Pz acr h1 j hs) g h (λρ=>rfl) rfl
def Qj(K:PySem.W.Frag)(f:D->Option R):List V->Hp->VK->Prop:=λxs H Q=>∃x,xs=[x]/\rD1 K f x H Q
theorem sU{E:Expr}{f:D->Option R}{q:P}(l:∀{t},PA X [a] t->PE X E (tCB (Qj X.K f) t))(m:SX X c a pa)(o:∀ρ,HH.ev c q ρ=(HH.cL (isVar pa) (HH.ev c pa) ρ).bind λx ρ=>lift (f x) ρ)(u:isVar q=none)(hs:starEach [a] X.env=(false,eval a X.env)::starEach [] X.env:=by rfl):SX X c E q:=by obtain⟨N,h1,y⟩:=m.cL;refine⟨du (l (bD h1 dO hs)) ?_,λi h=>by rw[u]at h;cases h⟩;rintro σ H Q⟨F,ρ,r,ρ',g,e,k⟩;rw[o]at e;obtain⟨x,z,A,j⟩:=aa e;have B:=aG j;clear j;obtain⟨j,C⟩:=B;subst C;refine y g A λv G O s I=>⟨v,rfl,G,x,r,s.gs.sub,I,j,λw J L x M=>?_⟩;exact k w J L (s.trans (x.stp s.gs)) (.later s (M.qU s.gs))
theorem Xq:dU X (.builtin "len") (Qj X.K λx=>blt .len [x]):=by rintro f s σ H xs g Q I r⟨x,h,F,d,j,sm,l,he,k⟩;obtain⟨ds,m,he⟩:=map_some (show(items d).map _=some j from he);subst he;obtain⟨p,ys,rfl,o,q⟩:=l.items sm m;exact wG f s σ H xs g Q I r ⟨p,ys,h,o,by rw[q.length];exact cB.cY sm (bU _) k⟩
theorem Rc:dU X (.type "list") (Qj X.K λx=>blt .list [x]):=by rintro f s σ H xs g Q I r⟨x,h,F,d,j,sm,m,he,k⟩;obtain⟨ds,o,he⟩:=map_some (show(items d).map _=some j from he);subst he;obtain⟨p,ys,rfl,q,t⟩:=m.items sm o;exact vO f s σ H xs g Q I r ⟨p,ys,h,q,λl u=>Ab sm t u k⟩
theorem Mz:dU X (.type "tuple") (Qj X.K λx=>blt .tuple [x]):=by rintro f s σ H xs j Q I r⟨x,m,F,d,t,sm,o,he,k⟩;obtain⟨ds,g,he⟩:=map_some (show(items d).map _=some t from he);subst he;cases d with|tup es=>cases g;obtain⟨a,ys,rfl,h,q,rt⟩:=o.tup sm;exact mj f s σ H xs j Q I r ⟨a,ys,m,.inr ⟨h,cB.cY sm rt k⟩⟩|lst es=>cases g;obtain⟨a,ys,rfl,h,q⟩:=o.lst sm;exact mj f s σ H xs j Q I r ⟨a,ys,m,.inl ⟨h,λl u=>Ea sm q u k⟩⟩|_=>cases g
theorem ju(f:x="len")(g:Gl X x)(j:X.mg x=none)(k:SX X c a pa)(hs:starEach [a] X.env=(false,eval a X.env)::starEach [] X.env:=by rfl):SX X c (.Call (.Name x p') [a] [] pos) (.blt .len [pa]):=by subst f;exact sU (λh=>dD Xq g j PySem.boot_len h (he:=hs)) k (λρ=>rfl) rfl hs
theorem Bk(f:x="list")(g:Gl X x)(j:X.mg x=none)(k:SX X c a pa)(hs:starEach [a] X.env=(false,eval a X.env)::starEach [] X.env:=by rfl):SX X c (.Call (.Name x p') [a] [] pos) (.blt .list [pa]):=by subst f;exact sU (λh=>o6 Rc g j (by decide+kernel) h (he:=hs)) k (λρ=>rfl) rfl hs
theorem GJ(f:x="tuple")(g:Gl X x)(j:X.mg x=none)(k:SX X c a pa)(hs:starEach [a] X.env=(false,eval a X.env)::starEach [] X.env:=by rfl):SX X c (.Call (.Name x p') [a] [] pos) (.blt .tuple [pa]):=by subst f;exact sU (λh=>o6 Mz g j (by decide+kernel) h (he:=hs)) k (λρ=>rfl) rfl hs
end
def Mu(K:PySem.W.Frag)(np:Nat)(f:List Sl->Res R):Sp:=λvs H Q _=>vs.length=np/\∃F args r a,GS K F args (vs.map some) H/\f args=.ok r a/\∀v c σ' b,az K F args (vs.map some) H c a σ' b->cR K c a σ' b args (vs.map some) H v r->Q v b
section
variable{K:PySem.W.Frag}
def zJ(K:PySem.W.Frag)(F:Hp)(ρ:List Sl)(σ:L2.St)(H:Hp)(ρ₀:List Sl)(H₀:Hp)(v:V):Arg->Prop|.dat d=>Rep K F v d|.tmp ds=>∃x xs,v=.ref x/\H x=some (.lst xs)/\F x=none/\aF K F xs ds/\¬ Own ρ σ x/\(Own ρ₀ σ x\/H₀ x=none)|.gq i=>σ[i]?=some (some v)
structure xX(K:PySem.W.Frag)(F:Hp)(ρ:List Sl)(σ:L2.St)(H:Hp)(ρ₀:List Sl)(H₀:Hp)(as:List Arg)(vs:List V):Prop where
 len:as.length=vs.length
 one:∀(j:Nat)(a:Arg)(v:V),as[j]?=some a->vs[j]?=some v->zJ K F ρ σ H ρ₀ H₀ v a
 dis:∀(j k:Nat)(ds es:List D)(x:Addr),as[j]?=some (.tmp ds)->as[k]?=some (.tmp es)->vs[j]?=some (.ref x)->vs[k]?=some (.ref x)->j=k
theorem zJ.later{b f:Hp}{a:Arg}(s:az K F ρ σ H b ρ' σ f)(h:zJ K F ρ σ H ρ₀ H₀ v a):zJ K b ρ' σ f ρ₀ H₀ v a:=by cases a with|dat d=>exact Rep.mono s.cZ h|gq i=>exact h|tmp ds=>
   obtain⟨x,xs,h1,c,g,j,e,k⟩:=h;refine⟨x,xs,h1,s.keep x _ c e,?_,j.mono s.cZ,λo=>?_,k⟩;.cases q:b x with|none=>rfl|some o=>
       rcases s.xj x g (by rw[q];simp)with z|z;.exact absurd z e
       .exact(JV c z).elim
   . rcases s.xm x o with z|z;.exact e z
     .rw[c]at z;cases z
theorem xX.nil:xX K F ρ σ H ρ₀ H₀ [] []:=⟨rfl,λj a v h=>by simp at h,λj k ds es x h=>by simp at h⟩
theorem xX.cons{F H H₀:Hp}{ρ ρ₀:List Sl}{σ:L2.St}{a:Arg}{v:V}{as:List Arg}{vs:List V}(h:zJ K F ρ σ H ρ₀ H₀ v a)(t:xX K F ρ σ H ρ₀ H₀ as vs)(hd:∀ds x,a=.tmp ds->v=.ref x->∀(k:Nat)es,as[k]?=some (.tmp es)->vs[k]?≠some (.ref x)):xX K F ρ σ H ρ₀ H₀ (a::as) (v::vs):=by
 refine⟨by simp[t.len],λj b u h1 c=>?_,λj k ds es x h1 c e f=>?_⟩;.cases j with|zero=>simp at h1 c;subst h1;subst c;exact h|succ j=>exact t.one j b u (by simpa using h1) (by simpa using c)
 .cases j with
   |zero=>cases k with|zero=>rfl|succ k=>simp at h1 e;exact absurd (by simpa using f) (hd ds x h1 e k es (by simpa using c))
   |succ j=>cases k with|zero=>simp at c f;exact absurd (by simpa using e) (hd es x c f j ds (by simpa using h1))|succ k=>rw[t.dis j k ds es x (by simpa using h1) (by simpa using c) (by simpa using e) (by simpa using f)]
def HX(ρ:List Sl):Arg->Sl->Prop|.dat d,s=>s=.val false d|.tmp ds,s=>s=.own false ds|.gq i,s=>(∃b d,ρ[i]?=some (.val b d)/\s=.val false d)\/(∃b ds,ρ[i]?=some (.own b ds)/\s=.own true ds)\/∃ds,ρ[i]?=some (.lent ds)/\s=.lent ds
theorem rM{ρ:List Sl}:∀{as:List Arg}{c:List Nat}{args:List Sl},bO ρ as c=some args->args.length=as.length/\(∀(j:Nat)(a:Arg)(s:Sl),as[j]?=some a->args[j]?=some s->HX ρ a s)/\(∀(j:Nat)(i:Nat)(s:Sl)ds,as[j]?=some (.gq i)->args[j]?=some s->lst? s=some ds->i∉c)/\(∀(j k:Nat)(i:Nat)(s t:Sl)ds es,as[j]?=some (.gq i)->as[k]?=some (.gq i)->args[j]?=some s->args[k]?=some t->lst? s=some ds->lst? t=some es->j=k)
 |[],c,args,h=>by rw[mC]at h;cases h;exact⟨rfl,λj a s h=>by simp at h,λj i s ds h=>by simp at h,λj k i s t ds es h=>by simp at h⟩|a::as,c,args,h=>by--the aeL slot,the aeM
   have key:∃s0 r u,args=s0::r/\bO ρ as u=some r/\HX ρ a s0/\((∃i ds,a=.gq i/\lst? s0=some ds/\u=i::c/\i∉c)\/((∀i ds,a=.gq i->lst? s0≠some ds)/\u=c)):=by cases a with|dat d=>rw[mL]at h;obtain⟨r,g,l⟩:=map_some h;exact⟨_,r,c,l.symm,g,rfl,.inr ⟨λi ds z=>(by cases z),rfl⟩⟩|tmp d=>rw[mK]at h;obtain⟨r,g,l⟩:=map_some h;exact⟨_,r,c,l.symm,g,rfl,.inr ⟨λi ds z=>(by cases z),rfl⟩⟩|gq i=>
      rw[jr]at h;split at h;.rename_i b d q;obtain⟨r,g,l⟩:=map_some h;exact⟨_,r,c,l.symm,g,.inl ⟨b,d,q,rfl⟩,.inr ⟨λ_ _ _ z=>(by cases z),rfl⟩⟩
      . rename_i b ds q;split at h;.cases h
        .rename_i o;obtain⟨r,g,l⟩:=map_some h;exact⟨_,r,_,l.symm,g,.inr (.inl ⟨b,ds,q,rfl⟩),.inl ⟨i,_,rfl,rfl,rfl,by simpa using o⟩⟩
      . rename_i ds q;split at h;.cases h
        .rename_i o;obtain⟨r,g,l⟩:=map_some h;exact⟨_,r,_,l.symm,g,.inr (.inr ⟨ds,q,rfl⟩),.inl ⟨i,_,rfl,rfl,rfl,by simpa using o⟩⟩
      .cases h
   obtain⟨s0,r,u,rfl,hr,A,o⟩:=key;obtain⟨M,l2,B,N⟩:=rM hr;have sub:∀i,i∉u->i∉c:=λi hi J=>by
    rcases o with⟨_,_,_,_,rfl,_⟩|⟨_,rfl⟩;.exact hi (mem_cons_of_mem _ J)
    .exact hi J
   refine⟨by simp[M],λj b s h1 f=>?_,λj i s ds h1 f p=>?_,λj k i s t ds es h1 f p y C E=>?_⟩;.cases j with|zero=>simp at h1 f;subst h1;subst f;exact A|succ j=>exact l2 j b s (by simpa using h1) (by simpa using f)
   .cases j with|zero=>
       simp at h1 f;subst h1;subst f;rcases o with⟨L,_,e,_,_,m⟩|⟨m,_⟩;.cases e;exact m
       .exact absurd p (m i ds rfl)|succ j=>exact sub i (B j i s ds (by simpa using h1) (by simpa using f) p)
   . have O:∀(k:Nat)(t:Sl)es,a=.gq i->lst? s0=some ds->(as[k]?=some (.gq i))->r[k]?=some t->lst? t=some es->False:=λk t es w G I ht he=>by
      rcases o with⟨L,_,e,_,rfl,m⟩|⟨m,_⟩;.rw[w]at e;cases e;exact B k i t es I ht he mem_cons_self
      .exact m i ds w G
     have Q:∀(k:Nat)(t:Sl)es,a=.gq i->lst? s0=some es->(as[k]?=some (.gq i))->r[k]?=some t->lst? t=some ds->False:=λk t es w G I ht he=>by
      rcases o with⟨L,_,e,_,rfl,m⟩|⟨m,_⟩;.rw[w]at e;cases e;exact B k i t ds I ht he mem_cons_self
      .exact m i es w G
     cases j with
     |zero=>cases k with|zero=>rfl|succ k=>simp at h1 p;subst p;exact(O k t es h1 C (by simpa using f) (by simpa using y) E).elim
     |succ j=>cases k with|zero=>simp at f y;subst y;exact(Q j s es f E (by simpa using h1) (by simpa using p) C).elim|succ k=>rw[N j k i s t ds es (by simpa using h1) (by simpa using f) (by simpa using p) (by simpa using y) C E]
theorem xX.get{vs:List V}(A:xX K F ρ σ H ρ₀ H₀ as vs){args:List Sl}{j:Nat}{s:Sl}(c:args.length=as.length)(h:args[j]?=some s):∃a v,as[j]?=some a/\vs[j]?=some v/\zJ K F ρ σ H ρ₀ H₀ v a:=by
 have e:j<args.length:=(fM h).1;have h1:j<as.length:=by omega
 have b:j<vs.length:=by rw[<-A.len];exact h1
 exact⟨as[j],vs[j],by simp[h1],by simp[b],A.one j _ _ (by simp[h1]) (by simp[b])⟩
theorem args_gs{vs:List V}{args:List Sl}(g:GS K F ρ σ H)(A:xX K F ρ σ H ρ₀ H₀ as vs)(h:bO ρ as []=some args):GS K F args (vs.map some) H:=by
 obtain⟨I,l2,l3,X⟩:=rM h;have M:∀{j:Nat}{v:V},vs[j]?=some v->(vs.map some)[j]?=some (some v):=λe=>by rw[getElem?_map,e];rfl
 have dn:∀{j:Nat}{v:V},(vs.map some)[j]?=some (some v)->vs[j]?=some v:=λ{j v}e=>by rw[getElem?_map]at e;cases q:vs[j]?with|none=>rw[q]at e;cases e|some w=>rw[q]at e;cases e;rfl
 refine⟨g.sub,by rw[I,A.len,length_map],λj b d e=>?_,λj s ds e J=>?_,λj k x⟨⟨s,ds,e1,e2⟩,N⟩⟨⟨t,es,f1,f2⟩,f3⟩=>?_⟩;.obtain⟨a,v,h1,u,m⟩:=A.get I e;have B:=l2 j a _ h1 e;refine⟨v,M u,?_⟩;cases a with|dat d'=>cases B;exact m|tmp ds=>cases B|gq i=>
     rcases B with⟨b',d',r,c⟩|⟨_,_,_,c⟩|⟨_,_,c⟩;.cases c;obtain⟨w,f,p⟩:=g.val i b' d r;have m:σ[i]?=some (some v):=m;rw[m]at f;cases f;exact p
     .cases c
     .cases c
 .obtain⟨a,v,h1,u,m⟩:=A.get I e;have B:=l2 j a _ h1 e;cases a with|dat d'=>cases B;cases J|tmp es=>cases B;cases J;obtain⟨x,xs,rfl,c,f,p,_⟩:=m;exact⟨x,_,M u,c,f,xs,rfl,p⟩|gq i=>
     have m:σ[i]?=some (some v):=m;rcases B with⟨b',d',r,c⟩|⟨b',es,r,c⟩|⟨es,r,c⟩;.cases c;cases J
     .cases c;cases J;obtain⟨x,xs,f,p⟩:=g.own i _ _ r rfl;rw[m]at f;cases f;exact⟨x,xs,M u,p⟩
     .cases c;cases J;obtain⟨x,xs,f,p⟩:=g.own i _ _ r rfl;rw[m]at f;cases f;exact⟨x,xs,M u,p⟩
 . obtain⟨a,v,h1,u,m⟩:=A.get I e1;obtain⟨O,v',C,L,E⟩:=A.get I f1;have N:=dn N;have f3:=dn f3;rw[u]at N;cases N;rw[L]at f3;cases f3;have s1:=l2 j a _ h1 e1;have s2:=l2 k O _ C f1;have nm:∀{i:Nat}{s:Sl}{ds:Oc},lst? s=some ds->HX ρ (.gq i) s->∃G o,ρ[i]?=some G/\lst? G=some o:=λ{i s ds}l z=>by
    rcases z with⟨_,_,_,z⟩|⟨b,es,q,_⟩|⟨es,q,_⟩;.subst z;cases l
    .exact⟨_,_,q,rfl⟩
    .exact⟨_,_,q,rfl⟩
   cases a with
   |dat d=>cases s1;cases e2|tmp Y=>cases O with|dat d=>cases s2;cases f2|tmp W=>exact A.dis j k Y W x h1 C u L|gq i=>obtain⟨y,_,r,_,_,_,c,_⟩:=m;cases r;obtain⟨G,o,f,p⟩:=nm f2 s2;exact absurd ⟨i,⟨G,o,f,p⟩,E⟩ c
   |gq i=>obtain⟨G,o,f,p⟩:=nm e2 s1;cases O with|dat d=>cases s2;cases f2|tmp W=>obtain⟨y,_,r,_,_,_,c,_⟩:=E;cases r;exact absurd ⟨i,⟨G,o,f,p⟩,m⟩ c|gq Z=>obtain⟨Q,U,q5,q6⟩:=nm f2 s2;have:=g.dis i Z x ⟨⟨G,o,f,p⟩,m⟩ ⟨⟨Q,U,q5,q6⟩,E⟩;subst this;exact X j k i s t ds es h1 C e1 f1 e2 f2
theorem oK{as:List Arg}{ss:List Sl}:∀(ρ:List Sl)(n i:Nat),(fH as ss n ρ)[i]?=(ρ[i]?).map λs=>dh s (aM (n+i) as ss)
 |[],n,i=>by simp[jJ,gV]|s::ρ,n,0=>by simp[jJ,gV]|s::ρ,n,i+1=>by
   rw[gV];simp only[List.getElem?_cons_succ];rw[oK ρ (n+1) i];have:n+1+i=n+(i+1):=by omega
   rw[this]
theorem oU{as:List Arg}{ss:List Sl}:∀(ρ:List Sl)(n:Nat),(fH as ss n ρ).length=ρ.length|[],n=>rfl|s::ρ,n=>by rw[gV];simp[oU ρ]
theorem jH{i:Nat}:∀{as:List Arg}{ss:List Sl}{t:Sl},aM i as ss=some t->∃j:Nat,as[j]?=some (.gq i)/\ss[j]?=some t
 |[],_,_,h=>by simp[aM]at h|a::as,[],_,h=>by cases a<;>simp[aM]at h|a::as,s::ss,t,h=>by
   have b:aM i as ss=some t->∃j:Nat,(a::as)[j]?=some (.gq i)/\(s::ss)[j]?=some t:=λh=>by obtain⟨j,h1,c⟩:=jH h;exact⟨j+1,by simpa using h1,by simpa using c⟩
   cases a with|dat d=>exact b (by simpa[aM]using h)|tmp d=>exact b (by simpa[aM]using h)|gq k=>
     rw[aM]at h;split at h;.rename_i e;cases h;subst e;exact⟨0,rfl,rfl⟩
     .exact b h
theorem mH{i:Nat}:∀{as:List Arg}{ss:List Sl},as.length=ss.length->aM i as ss=none->∀j:Nat,as[j]?≠some (.gq i)
 |[],_,_,_=>λj h=>by simp at h|a::as,[],b,_=>by simp at b|a::as,s::ss,b,h=>λj c=>by
   have f:as.length=ss.length:=by simpa using b
   have g:aM i as ss=none/\a≠.gq i:=by cases a with|dat d=>exact⟨by simpa[aM]using h,by simp⟩|tmp d=>exact⟨by simpa[aM]using h,by simp⟩|gq k=>
      rw[aM]at h;split at h;.cases h
      .rename_i l;exact⟨h,λe=>l (by cases e;rfl)⟩
   cases j with|zero=>simp at c;exact g.2 c|succ j=>exact mH f g.1 j (by simpa using c)
theorem rA{Q X H':Hp}{args c:List Sl}{σ':L2.St}{vs:List V}(s0:az K Q ρ₀ σ H₀ F ρ σ H)(A:xX K F ρ σ H ρ₀ H₀ as vs)(hb:bO ρ as []=some args)(s:az K F args (vs.map some) H X c σ' H'):az K Q ρ₀ σ H₀ X (fH as c 0 ρ) σ H'/\∀v r,cR K X c σ' H' args (vs.map some) H v r->cR K X (fH as c 0 ρ) σ H' ρ₀ σ H₀ v r:=by
 have g:=s0.gs;obtain⟨M,l2,l3,l4⟩:=rM hb;have up:∀{j:Nat}{v:V},vs[j]?=some v->(vs.map some)[j]?=some (some v):=λe=>by rw[getElem?_map,e];rfl
 have dn:∀{j:Nat}{v:V},(vs.map some)[j]?=some (some v)->vs[j]?=some v:=λ{j v}e=>by rw[getElem?_map]at e;cases q:vs[j]?with|none=>rw[q]at e;cases e|some w=>rw[q]at e;cases e;rfl
 have la:as.length=c.length:=by rw[s.len,M]--whose are the lists that the callee holds
 have own:∀b,Own args (vs.map some) b->(∃(j:Nat)(ds:List D),as[j]?=some (Arg.tmp ds)/\vs[j]?=some (V.ref b)/\¬ Own ρ σ b/\(Own ρ₀ σ b\/H₀ b=none))\/Own ρ σ b:=λb⟨j,⟨sl,ds,E,U⟩,e3⟩=>by obtain⟨a,v,h1,C,J⟩:=A.get M E;have s1:=l2 j a _ h1 E;have e3:=dn e3;rw[C]at e3;cases e3;cases a with|dat d=>cases s1;cases U|tmp es=>obtain⟨x,_,k,_,_,_,f,N⟩:=J;cases k;exact .inl ⟨j,es,h1,C,f,N⟩|gq i=>
    right;rcases s1 with⟨_,_,_,z⟩|⟨b',es,q,_⟩|⟨es,q,_⟩;.subst z;cases U
    .exact⟨i,⟨_,_,q,rfl⟩,J⟩
    .exact⟨i,⟨_,_,q,rfl⟩,J⟩
 have back:∀b,Own ρ σ b\/H b=none->Own ρ₀ σ b\/H₀ b=none:=λb h=>by
  rcases h with h|h;.exact s0.xm b h
  . by_cases ho:Own ρ₀ σ b;.exact .inl ho
    .right;cases e:H₀ b with|none=>rfl|some o=>rw[s0.keep b o e ho]at h;cases h
 have L:∀b,Own args (vs.map some) b->Own ρ₀ σ b\/H₀ b=none:=λb h=>by
  rcases own b h with⟨_,_,_,_,_,z⟩|z;.exact z
  .exact back b (.inl z)--a name's slot behind the call
 have slot:∀{i:Nat}{t:Sl},(fH as c 0 ρ)[i]?=some t->∃s1,ρ[i]?=some s1/\t=dh s1 (aM i as c):=λ{i t}h=>by rw[oK]at h;obtain⟨s1,E,U⟩:=map_some h;exact⟨s1,E,by rw[<-U,zero_add]⟩
 have ae:∀{i:Nat}{s1:Sl},ρ[i]?=some s1->(fH as c 0 ρ)[i]?=some (dh s1 (aM i as c)):=λ{i s1}h=>by rw[oK,h,zero_add];rfl--what the callee left of a list that was lent to it
 have lent:∀{i j:Nat}{s1 t:Sl}{ds:List D},ρ[i]?=some s1->lst? s1=some (.l ds)->as[j]?=some (.gq i)->c[j]?=some t->∃v s2,σ[i]?=some (some v)/\σ'[j]?=some (some v)/\args[j]?=some s2/\nj s2 t/\((∃b,s1=.own b ds/\s2=.own true ds)\/(s1=.lent ds/\s2=.lent ds)):=λ{i j s1 t ds}h1 C J h4=>by
  have Y:j<args.length:=by rw[M];exact(fM J).1
  have E:args[j]?=some args[j]:=by simp[Y]
  obtain⟨a,v,k,f,N⟩:=A.get M E;rw[J]at k;cases k;have q4:=l2 j _ _ J E;have kind:(∃b,s1=.own b ds/\args[j]=.own true ds)\/(s1=.lent ds/\args[j]=.lent ds):=by
   rcases q4 with⟨_,_,z,_⟩|⟨b,es,z,z'⟩|⟨es,z,z'⟩;.rw[h1]at z;cases z;cases C
   .rw[h1]at z;cases z;cases C;exact .inl ⟨b,rfl,z'⟩
   .rw[h1]at z;cases z;cases C;exact .inr ⟨rfl,z'⟩
  have lk:tL args[j]=true:=by rcases kind with⟨_,_,z⟩|⟨_,z⟩<;>rw[z]<;>rfl
  obtain⟨u,s',y,z3⟩:=s.lk j _ E lk;rw[h4]at y;cases y;exact⟨v,_,N,by rw[u];exact up f,E,z3,kind⟩
 have O7:∀{i:Nat}{x:Addr},aP (fH as c 0 ρ) σ i x->aP ρ σ i x:=λ{i x}⟨⟨t,ds,E,U⟩,e3⟩=>by obtain⟨s1,k,f⟩:=slot E;refine⟨?_,e3⟩;cases s1 with|aN=>subst f;cases U|val b d=>subst f;cases U|own b es=>exact⟨_,_,k,rfl⟩|lent es=>exact⟨_,_,k,rfl⟩|iG m=>exact⟨_,_,k,rfl⟩|cN m=>exact⟨_,_,k,rfl⟩|hold _=>subst f;cases U
 refine⟨?_,λv r h=>?_⟩;rotate_left;.cases r with|val d=>exact h|own ds=>
     obtain⟨x,xs,h1,C,J,h4,h5,h6⟩:=h;refine⟨x,xs,h1,C,J,h4,λ⟨i,h⟩=>?_,?_⟩
     . have hO:=O7 h;obtain⟨⟨s1,VD,k,f⟩,N⟩:=hO;obtain⟨x',ai,w1,w2,_⟩:=g.own i s1 VD k f;rw[N]at w1;cases w1;rcases h6 with h6|h6
       . rcases own x h6 with⟨_,_,_,_,z,_⟩|_;.exact z ⟨i,⟨s1,VD,k,f⟩,N⟩
         .--a name was lent
           obtain⟨j,⟨sl,es,Z,w4⟩,w5⟩:=h6;obtain⟨a',v',G,O,y3⟩:=A.get M Z;have sa:=l2 j a' _ G Z;have w5:=dn w5;rw[O]at w5;cases w5;cases a' with|dat d=>cases sa;cases w4|tmp al=>obtain⟨_,_,u1,_,_,_,u2,_⟩:=y3;cases u1;exact u2 ⟨i,⟨s1,VD,k,f⟩,N⟩|gq i'=>
             have ex:∃s' ac,ρ[i']?=some s'/\lst? s'=some ac:=by
              rcases sa with⟨_,_,_,z⟩|⟨b,es,q,_⟩|⟨es,q,_⟩;.subst z;cases w4
              .exact⟨_,_,q,rfl⟩
              .exact⟨_,_,q,rfl⟩
             have:=g.dis i i' x ⟨⟨s1,VD,k,f⟩,N⟩ ⟨ex,y3⟩;subst this;have hk:∃O6,VD=.l O6:=by
              rcases sa with⟨_,_,_,z⟩|⟨b,es,q,_⟩|⟨es,q,_⟩;.subst z;cases w4
              .rw[k]at q;cases q;cases f;exact⟨_,rfl⟩
              .rw[k]at q;cases q;cases f;exact⟨_,rfl⟩
             obtain⟨O6,rfl⟩:=hk;have Y:j<c.length:=by rw[<-la];exact(fM G).1
             have B:c[j]?=some c[j]:=by simp[Y]
             obtain⟨v2,s2,u1,u2,u3,u4,u5⟩:=lent k f G B;rw[N]at u1;cases u1--the slot behind the call is a list's
             obtain⟨⟨t,dt,t1,t2⟩,_⟩:=h;obtain⟨s3,t3,t4⟩:=slot t1;rw[k]at t3;cases t3;have lo:∃t5,aM i as c=some t5:=by cases I:aM i as c with|none=>exact absurd G (mH la I j)|some t5=>exact⟨t5,rfl⟩
             obtain⟨t5,I⟩:=lo;obtain⟨j2,t6,t7⟩:=jH I;have am:j2<args.length:=by rw[M];exact(fM t6).1
             obtain⟨_,s6,_,ap,af,ar,ag⟩:=lent k f t6 t7;have ah:j2=j:=by
              have a1:lst? s6=some (.l O6):=by rcases ag with⟨_,_,z⟩|⟨_,z⟩<;>rw[z]<;>rfl
              have a2:lst? s2=some (.l O6):=by rcases u5 with⟨_,_,z⟩|⟨_,z⟩<;>rw[z]<;>rfl
              exact l4 j2 j i s6 s2 _ _ t6 G af u3 a1 a2
             subst ah;rw[B]at t7;cases t7;rw[I]at t4;refine h5 ⟨j2,?_,u2⟩;rcases u5 with⟨b,u,y⟩|⟨u,y⟩
             . subst u;subst y;rcases u4 with⟨d2,z⟩|⟨d2,z⟩;.exact⟨_,.l d2,B,by rw[z];rfl⟩
               .rw[z]at t4;subst t4;cases t2
             .subst u;subst y;exact⟨_,.l O6,B,by rw[show c[j2]=.lent O6 from u4];rfl⟩
       .rw[w2]at h6;cases h6
     . rcases h6 with h6|h6;.exact L x h6
       .exact back x (.inr h6)
 refine⟨⟨s.gs.sub,by rw[oU];exact g.len,λi b d e=>?_,λi t ds e B=>?_,λi j x h1 C=>g.dis i j x (O7 h1) (O7 C)⟩,s0.cZ.trans s.cZ,λb n n'=>?_,λb o h n=>?_,λb⟨i,h⟩=>back b (.inl ⟨i,O7 h⟩),by rw[oU];exact s0.len,λi s1 h l=>?_⟩;.--data
   obtain⟨s1,k,f⟩:=slot e;cases s1 with|aN=>cases f|lent es=>cases f|iG _=>cases f|cN _=>cases f|hold _=>cases f|val b' d'=>cases f;obtain⟨v,u,y⟩:=g.val i b d k;exact⟨v,u,y.mono s.cZ⟩|own b' es=>cases I:aM i as c with|none=>rw[I]at f;cases f|some t=>rw[I]at f;obtain⟨j,u,y⟩:=jH I;obtain⟨v,s2,G,O,y3,y4,p⟩:=lent k rfl u y;cases t with|aN=>cases f|own _ _=>cases f|lent _=>cases f|iG _=>cases f|cN _=>cases f|hold _=>cases f|val b2 d2=>cases f;obtain⟨w,W,x2⟩:=s.gs.val j b2 d y;rw[O]at W;cases W;exact⟨v,G,x2⟩
 .--lists
   obtain⟨s1,k,f⟩:=slot e--a list that was not lent
   have stay:∀es,lst? s1=some es->(∀j:Nat,as[j]?≠some (.gq i))->t=s1->∃(a:Addr)(xs:HO),σ[i]?=some (some (V.ref a))/\H' a=some xs/\X a=none/\mq K X xs ds:=λes he hn ht=>by
    subst ht;rw[he]at B;cases B;obtain⟨a,xs,u,y,z3,z4⟩:=g.own i _ ds k he;have no:¬ Own args (vs.map some) a:=λh=>by obtain⟨j,⟨sl,es,w1,w2⟩,Z⟩:=h;obtain⟨a',v,h1,C,J⟩:=A.get M w1;have sa:=l2 j a' _ h1 w1;have Z:=dn Z;rw[C]at Z;cases Z;cases a' with|dat d=>cases sa;cases w2|tmp es=>obtain⟨x,_,G,_,_,_,O,_⟩:=J;cases G;exact O ⟨i,⟨_,ds,k,he⟩,u⟩|gq i'=>
       have:∃s' ac,ρ[i']?=some s'/\lst? s'=some ac:=by
        rcases sa with⟨_,_,_,z⟩|⟨b,es,q,_⟩|⟨es,q,_⟩;.subst z;cases w2
        .exact⟨_,_,q,rfl⟩
        .exact⟨_,_,q,rfl⟩
       have:=g.dis i i' a ⟨⟨_,ds,k,he⟩,u⟩ ⟨this,J⟩;subst this;exact hn j h1
    refine⟨a,xs,u,s.keep a _ y no,?_,z4.mono s.cZ⟩;cases q:X a with|none=>rfl|some o=>
      rcases s.xj a z3 (by rw[q];simp)with z|z;.exact absurd z no
      .rw[y]at z;exact(Il z4 z).elim
   cases I:aM i as c with
   |none=>have hn:=mH la I;rw[I]at f;cases s1 with|aN=>subst f;cases B|val b' d'=>subst f;cases B|own b' es=>exact stay _ rfl hn f|lent es=>exact stay _ rfl hn f|iG m=>exact stay _ rfl hn f|cN m=>exact stay _ rfl hn f|hold _=>subst f;cases B
   |some t2=>rw[I]at f;obtain⟨j,u,y⟩:=jH I;cases s1 with
     |aN=>subst f;cases B|val b' d'=>subst f;cases B|hold _=>subst f;cases B|iG m=>
       have Y:j<args.length:=by rw[M];exact(fM u).1
       rcases l2 j _ _ u (show args[j]?=some args[j]by simp[Y])with⟨_,_,z,_⟩|⟨_,_,z,_⟩|⟨_,z,_⟩<;>(rw[k]at z;cases z)|cN m=>
       have Y:j<args.length:=by rw[M];exact(fM u).1
       rcases l2 j _ _ u (show args[j]?=some args[j]by simp[Y])with⟨_,_,z,_⟩|⟨_,_,z,_⟩|⟨_,z,_⟩<;>(rw[k]at z;cases z)|own b' es=>
       obtain⟨v,s2,G,O,y3,y4,p⟩:=lent k rfl u y;have:t2≠.aN/\∀x,t2≠.lent x:=by
        rcases p with⟨_,_,p⟩|⟨p,_⟩;.subst p;rcases y4 with⟨_,rfl⟩|⟨_,rfl⟩<;>simp
        .cases p
       cases t2 with
       |aN=>exact absurd rfl this.1|hold x=>
         rcases p with⟨_,_,p⟩|⟨p,_⟩;.subst p;rcases y4 with⟨_,h⟩|⟨_,h⟩<;>cases h
         .cases p|iG x=>
         rcases p with⟨_,_,p⟩|⟨p,_⟩;.subst p;rcases y4 with⟨_,h⟩|⟨_,h⟩<;>cases h
         .cases p|cN x=>
         rcases p with⟨_,_,p⟩|⟨p,_⟩;.subst p;rcases y4 with⟨_,h⟩|⟨_,h⟩<;>cases h
         .cases p|lent x=>exact absurd rfl (this.2 x)|val b2 d2=>subst f;cases B|own b2 av=>subst f;cases B;obtain⟨a,xs,W,x2⟩:=s.gs.own j _ _ y rfl;rw[O]at W;cases W;exact⟨a,xs,G,x2⟩
     |lent es=>
       obtain⟨v,s2,G,O,y3,y4,p⟩:=lent k rfl u y;have ht:t=.lent es:=by rw[f];cases t2<;>rfl
       subst ht;cases B;rcases p with⟨_,p,_⟩|⟨_,p⟩;.cases p
       .subst p;cases(show t2=.lent es from y4);obtain⟨a,xs,W,x2⟩:=s.gs.own j _ _ y rfl;rw[O]at W;cases W;exact⟨a,xs,G,x2⟩
 . by_cases q:F b=none
   . rcases s.xj b q n' with z|z;.exact(L b z).imp id lH
     . by_cases ho:Own ρ₀ σ b;.exact .inl ho
       .right;cases f:H₀ b with|none=>rfl|some o=>rw[s0.keep b o f ho]at z;exact z
   .exact s0.xj b n q
 . refine s.keep b o (s0.keep b o h n) λz=>?_;rcases L b z with z|z;.exact n z
   .rw[h]at z;cases z
 .obtain⟨E,s2,C,k2⟩:=s0.lk i s1 h l;refine⟨E,_,ae C,?_⟩;have Xm:=k2.tL l;refine nj.trans l k2 ?_;cases s2 with
   |aN=>cases Xm|iG _=>cases Xm|cN _=>cases Xm|hold _=>exact nj.refl _|val b d=>exact nj.refl _|lent es=>cases aM i as c with|none=>rfl|some t=>cases t<;>rfl
   |own b es=>cases b with|false=>cases Xm|true=>cases aM i as c with|none=>exact .inl ⟨_,rfl⟩|some t=>cases t with|aN=>exact .inl ⟨_,rfl⟩|lent _=>exact .inl ⟨_,rfl⟩|iG _=>exact .inl ⟨_,rfl⟩|cN _=>exact .inl ⟨_,rfl⟩|hold _=>exact .inl ⟨_,rfl⟩|own _ ds=>exact .inl ⟨_,rfl⟩|val _ d=>exact .inr ⟨_,rfl⟩
theorem xX.rebase{F1 g k l:Hp}{c f:List Sl}{vs:List V}(a:az K F ρ σ H F1 c σ g)(A:xX K k f σ l c g as vs):xX K k f σ l ρ H as vs:=by refine⟨A.len,λj b v h1 m=>?_,A.dis⟩;have h:=A.one j b v h1 m;cases b with|dat d=>exact h|gq i=>exact h|tmp ds=>
   obtain⟨x,xs,p,q,r,s,t,q6⟩:=h;refine⟨x,xs,p,q,r,s,t,?_⟩;rcases q6 with q6|q6;.exact a.xm x q6
   . by_cases ho:Own ρ σ x;.exact .inl ho
     .right;cases e:H x with|none=>rfl|some o=>rw[a.keep x o e ho]at q6;cases q6
theorem xX.YK{F1 c e f:Hp}{a b:List Sl}{vs:List V}{r:R}(s1:az K F ρ σ H F1 a σ c)(g:cR K F1 a σ c ρ σ H v r)(s2:az K F1 a σ c e b σ f)(A:xX K e b σ f a c as vs):xX K e b σ f ρ H (uV r::as) (v::vs):=by
 have h1:zJ K F1 a σ c ρ H v (uV r):=by cases r with|val d=>exact g|own ds=>exact g
 refine .cons (h1.later s2) (A.rebase s1) λds x m ev k es o j=>?_;cases r with|val d=>cases m|own p=>
   obtain⟨y,xs,l,q,u,w,s,B⟩:=g;rw[ev]at l;cases l;have h:=A.one k _ _ o j;obtain⟨z,C,t,_,_,_,_,w6⟩:=h;cases t;rcases w6 with w6|w6;.exact s w6
   .rw[q]at w6;cases w6
end
section
variable{K:PySem.W.Frag}{F F1 H H1:Hp}{ρ ρ1 ρ2:List Sl}{σ σ1:L2.St}
theorem vN{s:Sl}(h:put ρ i s=some ρ1):∃s0,ρ[i]?=some s0/\tL s0=false/\ρ1=ρ.set i s:=by
 unfold put at h;split at h;.rename_i q;cases h;exact⟨_,q,rfl,rfl⟩
 .rename_i q;cases h;exact⟨_,q,rfl,rfl⟩
 .rename_i q;cases h;exact⟨_,q,rfl,rfl⟩
 .cases h
theorem az.put{r:R}(s:az K F ρ σ H F1 ρ1 σ1 H1)(w:cR K F1 ρ1 σ1 H1 ρ σ H v r)(h:HH.put ρ1 i (zY r)=some ρ2):az K F ρ σ H F1 ρ2 (σ1.set i (some v)) H1:=by
 obtain⟨s0,h0,A,rfl⟩:=vN h;have hi:i<ρ1.length:=(fM h0).1;have m:i<σ1.length:=by rw[<-s.gs.len];exact hi
 have f:∀{j:Nat}{a:Addr},j≠i->aP (ρ1.set i (zY r)) (σ1.set i (some v)) j a->aP ρ1 σ1 j a:=λ{j a}c⟨⟨t,ds,o,p⟩,g⟩=>by rw[fU c]at o g;exact⟨⟨t,ds,o,p⟩,g⟩
 have new:∀{a:Addr},aP (ρ1.set i (zY r)) (σ1.set i (some v)) i a->¬ Own ρ1 σ1 a/\(Own ρ σ a\/H a=none):=λ{a}⟨⟨t,ds,o,p⟩,g⟩=>by rw[getElem?_set_self hi]at o;rw[getElem?_set_self m]at g;cases o;cases g;cases r with|val d=>cases p|own es=>obtain⟨x,xs,G,B,C,E,I,J⟩:=w;cases G;exact⟨I,J⟩
 refine⟨⟨s.gs.sub,by simp[s.gs.len],λj b d e=>?_,λj t ds e y=>?_,λj k a h1 z=>?_⟩,s.cZ,s.xj,s.keep,λa⟨j,c⟩=>?_,by simp[s.len],λj t e l=>?_⟩
 . by_cases c:j=i;.subst c;rw[getElem?_set_self hi]at e;cases r with|own es=>cases e|val d'=>cases e;exact⟨v,getElem?_set_self m,w⟩
   .rw[fU c]at e ⊢;exact s.gs.val j b d e
 . by_cases c:j=i;.subst c;rw[getElem?_set_self hi]at e;cases r with|val d'=>cases e;cases y|own es=>cases e;cases y;obtain⟨x,xs,rfl,B,C,E,_⟩:=w;exact⟨x,_,getElem?_set_self m,B,C,xs,rfl,E⟩
   .rw[fU c]at e ⊢;exact s.gs.own j t ds e y
 . by_cases c:j=i
   . by_cases q:k=i;.rw[c,q]
     .subst c;exact absurd ⟨k,f q z⟩ (new h1).1
   . by_cases q:k=i;.subst q;exact absurd ⟨j,f c h1⟩ (new z).1
     .exact s.gs.dis j k a (f c h1) (f q z)
 . by_cases u:j=i;.subst u;exact(new c).2
   .exact s.xm a ⟨j,f u c⟩
 . obtain⟨o,t1,p,g⟩:=s.lk j t e l;have c:j≠i:=by rintro rfl;rw[h0]at p;cases p;rw[g.tL l]at A;cases A
   exact⟨by rw[fU c];exact o,t1,by rw[fU c];exact p,g⟩
theorem GS.mut{x:Nat}{b:Bool}{es:List D}{a:Addr}{ys:List V}(g:GS K F ρ σ H)(e:ρ[x]?=some (.own b ds))(p:σ[x]?=some (some (.ref a)))(r:aF K F ys es):az K F ρ σ H F (ρ.set x (.own b es)) σ (upd H a (.lst ys)):=by
 have hi:x<ρ.length:=(fM e).1;have w:aP ρ σ x a:=⟨⟨_,_,e,rfl⟩,p⟩;obtain⟨I,xs,h1,J,y,L⟩:=g.ud x _ ds e rfl;rw[p]at h1;cases h1;have h:∀{j:Nat}{c:Addr},aP (ρ.set x (.own b es)) σ j c->aP ρ σ j c:=λ{j c}⟨⟨t,dt,m,s⟩,q3⟩=>by
  by_cases f:j=x;.subst f;exact⟨⟨_,_,e,rfl⟩,q3⟩
  .rw[fU f]at m;exact⟨⟨t,dt,m,s⟩,q3⟩
 refine⟨⟨λc o q=>?_,by simp[g.len],λj b' d q=>?_,λj t dt q u=>?_,λj k c m s=>g.dis j k c (h m) (h s)⟩,.refl _,λc n A=>absurd n A,λc o q n=>?_,λc⟨j,q⟩=>.inl ⟨j,h q⟩,by simp,λj t q l=>⟨rfl,?_⟩⟩
 . have:c≠a:=by rintro rfl;rw[y]at q;cases q
   rw[aA this];exact g.sub c o q
 . by_cases f:j=x;.subst f;rw[getElem?_set_self hi]at q;cases q
   .rw[fU f]at q;exact g.val j b' d q
 . by_cases f:j=x;.subst f;rw[getElem?_set_self hi]at q;cases q;cases u;exact⟨a,_,p,aL,y,ys,rfl,r⟩
   . rw[fU f]at q;obtain⟨c,B,z,C,E,G⟩:=g.own j t dt q u;have:c≠a:=by rintro rfl;exact f (g.dis j x c ⟨⟨t,dt,q,u⟩,z⟩ w)
     exact⟨c,B,z,by rw[aA this];exact C,E,G⟩
 . have:c≠a:=by rintro rfl;exact n ⟨x,w⟩
   rw[aA this];exact q
 . by_cases f:j=x;.subst f;rw[e]at q;cases q;refine⟨_,getElem?_set_self hi,?_⟩;cases b with|true=>exact .inl ⟨_,rfl⟩|false=>cases l
   .exact⟨t,by rw[fU f];exact q,.refl t⟩
theorem GS.lend{b:Bool}(g:GS K F ρ σ H)(e:ρ[i]?=some (.own b ds)):GS K F (ρ.set i (.lent ds)) σ H:=by
 have hi:i<ρ.length:=(fM e).1;have f:∀{j:Nat}{c:Addr},aP (ρ.set i (.lent ds)) σ j c->aP ρ σ j c:=λ{j c}⟨⟨t,dt,h,l⟩,q3⟩=>by
  by_cases a:j=i;.subst a;exact⟨⟨_,_,e,rfl⟩,q3⟩
  .rw[fU a]at h;exact⟨⟨t,dt,h,l⟩,q3⟩
 refine⟨g.sub,by simp[g.len],λj b' d q=>?_,λj t dt q m=>?_,λj k c h l=>g.dis j k c (f h) (f l)⟩
 . by_cases a:j=i;.subst a;rw[getElem?_set_self hi]at q;cases q
   .rw[fU a]at q;exact g.val j b' d q
 . by_cases a:j=i;.subst a;rw[getElem?_set_self hi]at q;cases q;cases m;exact g.own j _ _ e rfl
   .rw[fU a]at q;exact g.own j t dt q m
theorem az.bj{b:Bool}(g:GS K F ρ σ H)(e:ρ[i]?=some (.own b ds))(s:az K F (ρ.set i (.lent ds)) σ H F1 ρ1 σ1 H1):az K F ρ σ H F1 (ρ1.set i (.own b ds)) σ1 H1/\∀v r,cR K F1 ρ1 σ1 H1 (ρ.set i (.lent ds)) σ H v r->cR K F1 (ρ1.set i (.own b ds)) σ1 H1 ρ σ H v r:=by
 have hi:i<ρ.length:=(fM e).1;have h1:(ρ.set i (.lent ds))[i]?=some (.lent ds):=getElem?_set_self hi;obtain⟨C,E,z,G⟩:=s.lk i _ h1 rfl;cases(show E=.lent ds from G);have u:i<ρ1.length:=(fM z).1;have A:∀{j:Nat}{c:Addr},aP (ρ.set i (.lent ds)) σ j c->aP ρ σ j c:=λ{j c}⟨⟨t,dt,f,p⟩,m⟩=>by
  by_cases a:j=i;.subst a;exact⟨⟨_,_,e,rfl⟩,m⟩
  .rw[fU a]at f;exact⟨⟨t,dt,f,p⟩,m⟩
 have I:∀{c:Addr},Own ρ σ c->Own (ρ.set i (.lent ds)) σ c:=λ{c}⟨j,⟨t,dt,f,p⟩,m⟩=>by
  by_cases a:j=i;.subst a;exact⟨j,⟨_,_,h1,rfl⟩,m⟩
  .exact⟨j,⟨t,dt,by rw[fU a];exact f,p⟩,m⟩
 have y:∀{j:Nat}{c:Addr},aP (ρ1.set i (.own b ds)) σ1 j c->aP ρ1 σ1 j c:=λ{j c}⟨⟨t,dt,f,p⟩,m⟩=>by
  by_cases a:j=i;.subst a;exact⟨⟨_,_,z,rfl⟩,m⟩
  .rw[fU a]at f;exact⟨⟨t,dt,f,p⟩,m⟩
 have w:∀{c:Addr}{h:Hp},Own (ρ.set i (.lent ds)) σ c\/h c=none->Own ρ σ c\/h c=none:=λ{c h}q=>q.imp (λ⟨j,q⟩=>⟨j,A q⟩) id;have J:∀{c:Addr}{h:Hp},Own (ρ.set i (.lent ds)) σ c\/nt (h c)=none->Own ρ σ c\/nt (h c)=none:=λ{c h}q=>q.imp (λ⟨j,q⟩=>⟨j,A q⟩) id;refine⟨⟨⟨s.gs.sub,by simp[s.gs.len],λj b' d q=>?_,λj t dt q B=>?_,λj k c f p=>s.gs.dis j k c (y f) (y p)⟩,s.cZ,λc n L=>J (s.xj c n L),λc o q n=>s.keep c o q λ⟨j,x⟩=>n ⟨j,A x⟩,λc⟨j,q⟩=>w (s.xm c ⟨j,y q⟩),by simpa using s.len,λj t q l=>?_⟩,λv r h=>?_⟩
 . by_cases a:j=i;.subst a;rw[getElem?_set_self u]at q;cases q
   .rw[fU a]at q;exact s.gs.val j b' d q
 . by_cases a:j=i;.subst a;rw[getElem?_set_self u]at q;cases q;cases B;exact s.gs.own j _ _ z rfl
   .rw[fU a]at q;exact s.gs.own j t dt q B
 . by_cases a:j=i;.subst a;rw[e]at q;cases q;refine⟨C,_,getElem?_set_self u,?_⟩;cases b with|true=>exact .inl ⟨_,rfl⟩|false=>cases l
   .obtain⟨M,t',N,O⟩:=s.lk j t (by rw[fU a];exact q) l;exact⟨M,t',by rw[fU a];exact N,O⟩
 .cases r with|val d=>exact h|own es=>obtain⟨x,xs,f,p,m,Q,U,W⟩:=h;exact⟨x,xs,f,p,m,Q,λ⟨j,q⟩=>U ⟨j,y q⟩,w W⟩
theorem GS.give(g:GS K F ρ σ H)(e:ρ[i]?=some (.own false ds)):∃v,σ[i]?=some (some v)/\az K F ρ σ H F (ρ.set i .aN) σ H/\cR K F (ρ.set i .aN) σ H ρ σ H v (.own ds):=by
 have hi:i<ρ.length:=(fM e).1;obtain⟨a,xs,h1,r,s,u⟩:=g.ud i _ ds e rfl;have f:∀{j:Nat}{c:Addr},aP (ρ.set i .aN) σ j c->aP ρ σ j c/\j≠i:=λ{j c}⟨⟨t,dt,h,m⟩,q3⟩=>by
  by_cases b:j=i;.subst b;rw[getElem?_set_self hi]at h;cases h;cases m
  .rw[fU b]at h;exact⟨⟨⟨t,dt,h,m⟩,q3⟩,b⟩
 have o:aP ρ σ i a:=⟨⟨_,_,e,rfl⟩,h1⟩;refine⟨.ref a,h1,⟨⟨g.sub,by simp[g.len],λj b' d q=>?_,λj t dt q p=>?_,λj k c h m=>g.dis j k c (f h).1 (f m).1⟩,.refl _,λc n w=>absurd n w,λ_ _ q _=>q,λc⟨j,q⟩=>.inl ⟨j,(f q).1⟩,by simp,λj t q l=>⟨rfl,?_⟩⟩,a,xs,rfl,r,s,u,λ⟨j,q⟩=>?_,.inl ⟨i,o⟩⟩
 . by_cases b:j=i;.subst b;rw[getElem?_set_self hi]at q;cases q
   .rw[fU b]at q;exact g.val j b' d q
 . by_cases b:j=i;.subst b;rw[getElem?_set_self hi]at q;cases q;cases p
   .rw[fU b]at q;exact g.own j t dt q p
 . by_cases b:j=i;.subst b;rw[e]at q;cases q;cases l
   .exact⟨t,by rw[fU b];exact q,.refl t⟩
 .exact(f q).2 (g.dis j i a (f q).1 o)
theorem GS.more{τ:List (Option V)}(g:GS K F ρ σ H)(u:τ.length=n):GS K F (ρ++replicate n .aN) (σ++τ) H:=by
 have get:∀{j:Nat}{t:Sl},(ρ++replicate n Sl.aN)[j]?=some t->t≠.aN->ρ[j]?=some t/\j<ρ.length:=λ{j t}q ne=>by
  by_cases h:j<ρ.length;.rw[getElem?_append_left h]at q;exact⟨q,h⟩
  . rw[getElem?_append_right (by omega),getElem?_replicate]at q;split at q;.cases q;exact absurd rfl ne
    .cases q
 have m:∀{j:Nat}{v:Option V},j<ρ.length->(σ[j]?=some v↔(σ++τ)[j]?=some v):=λ{j v}h=>by rw[getElem?_append_left (by rw[<-g.len];exact h)]
 have e:∀{j:Nat}{c:Addr},aP (ρ++replicate n .aN) (σ++τ) j c->aP ρ σ j c:=λ{j c}⟨⟨t,dt,o,l⟩,q3⟩=>by obtain⟨h1,f⟩:=get o (by rintro rfl;cases l);exact⟨⟨t,dt,h1,l⟩,(m f).mpr q3⟩
 refine⟨g.sub,by simp[g.len,u],λj b d q=>?_,λj t dt q s=>?_,λj k c o l=>g.dis j k c (e o) (e l)⟩;.obtain⟨h1,f⟩:=get q (by simp);obtain⟨v,p,r⟩:=g.val j b d h1;exact⟨v,(m f).mp p,r⟩
 .obtain⟨h1,f⟩:=get q (by rintro rfl;cases s);obtain⟨a,xs,p,r⟩:=g.own j t dt h1 s;exact⟨a,xs,(m f).mp p,r⟩
theorem az.less{τ:List (Option V)}{m:Nat}(J:m=ρ.length)(g:GS K F ρ σ H)(Z:τ.length=n)(s:az K F (ρ++replicate n .aN) (σ++τ) H F1 ρ1 σ1 H1):az K F ρ σ H F1 (ρ1.take m) (σ1.take m) H1/\∀v r,cR K F1 ρ1 σ1 H1 (ρ++replicate n .aN) (σ++τ) H v r->cR K F1 (ρ1.take m) (σ1.take m) H1 ρ σ H v r:=by
 subst J;have L:ρ.length<=ρ1.length:=by rw[s.len];simp
 have l2:ρ.length<=σ1.length:=by rw[<-s.gs.len];exact L
 have tk:∀{y:Type}{l:List y}{j:Nat}{x:y},(l.take ρ.length)[j]?=some x->l[j]?=some x/\j<ρ.length:=λ{y l j x}q=>by
  rw[List.getElem?_take]at q;split at q;.exact⟨q,by assumption⟩
  .cases q
 have A:∀{y:Type}{l:List y}{j:Nat}{x:y},j<ρ.length->l[j]?=some x->(l.take ρ.length)[j]?=some x:=λ{y l j x}f q=>by rw[List.getElem?_take,if_pos f];exact q
 have B:∀{c:Addr},Own (ρ++replicate n .aN) (σ++τ) c->Own ρ σ c:=λ{c}⟨j,⟨t,dt,e,p⟩,u⟩=>by
  by_cases f:j<ρ.length;.rw[getElem?_append_left f]at e;rw[getElem?_append_left (by rw[<-g.len];exact f)]at u;exact⟨j,⟨t,dt,e,p⟩,u⟩
  . rw[getElem?_append_right (by omega),getElem?_replicate]at e;split at e;.cases e;cases p
    .cases e
 have M:∀{c:Addr},Own ρ σ c->Own (ρ++replicate n .aN) (σ++τ) c:=λ{c}⟨j,⟨t,dt,e,p⟩,u⟩=>by have f:j<ρ.length:=(fM e).1;exact⟨j,⟨t,dt,by rw[getElem?_append_left f];exact e,p⟩,by rw[getElem?_append_left (by rw[<-g.len];exact f)];exact u⟩
 have z:∀{j:Nat}{c:Addr},aP (ρ1.take ρ.length) (σ1.take ρ.length) j c->aP ρ1 σ1 j c:=λ{j c}⟨⟨t,dt,e,p⟩,u⟩=>⟨⟨t,dt,(tk e).1,p⟩,(tk u).1⟩;have w:∀{c:Addr}{h:Hp},Own (ρ++replicate n .aN) (σ++τ) c\/h c=none->Own ρ σ c\/h c=none:=λ{c h}q=>q.imp B id;have N:∀{c:Addr}{h:Hp},Own (ρ++replicate n .aN) (σ++τ) c\/nt (h c)=none->Own ρ σ c\/nt (h c)=none:=λ{c h}q=>q.imp B id;refine⟨⟨⟨s.gs.sub,by simp only[length_take];omega,λj b d q=>?_,λj t dt q O=>?_,λj k c e p=>s.gs.dis j k c (z e) (z p)⟩,s.cZ,λc a b=>N (s.xj c a b),λc o q n=>s.keep c o q λx=>n (B x),λc⟨j,q⟩=>w (s.xm c ⟨j,z q⟩),by simp only[length_take];omega,λj t q l=>?_⟩,λv r h=>?_⟩;.obtain⟨h1,C⟩:=tk q;obtain⟨v,E,G⟩:=s.gs.val j b d h1;exact⟨v,A C E,G⟩
 .obtain⟨h1,C⟩:=tk q;obtain⟨a,xs,E,G⟩:=s.gs.own j t dt h1 O;exact⟨a,xs,A C E,G⟩
 .have f:j<ρ.length:=(fM q).1;obtain⟨I,t',Q,U⟩:=s.lk j t (by rw[getElem?_append_left f];exact q) l;rw[getElem?_append_left (by rw[<-g.len];exact f)]at I;refine⟨?_,t',A f Q,U⟩;rw[List.getElem?_take,if_pos f];exact I
 .cases r with|val d=>exact h|own es=>obtain⟨x,xs,e,p,u,W,X,Y⟩:=h;exact⟨x,xs,e,p,u,W,λ⟨j,q⟩=>X ⟨j,z q⟩,w Y⟩
end
section
variable{X:Cx}{c:Call}{n:Nat}{e a b d:Expr}{p pa pb pd:P}{pos:Pos}{es:List Expr}{ps:List P}
inductive ade(K:PySem.W.Frag)(f:List Sl->Res (List Arg))(σ:L2.St)(H:Hp)(Q:List V->Hp->Prop):Prop where|mk(F:Hp)(ρ:List Sl)(as:List Arg)(ρ':List Sl)(g:GS K F ρ σ H)(e:f ρ=.ok as ρ')(k:∀vs F' H',az K F ρ σ H F' ρ' σ H'->xX K F' ρ' σ H' ρ H as vs->Q vs H')
def SG(X:Cx)(c:Call)(es:List Expr)(ps:List P):Prop:=PA X es (ade X.K (zj c ps))
theorem au:SG X c [] []:=sH dO λσ H Q⟨F,ρ,as,ρ',g,e,k⟩=>by rw[zN]at e;cases e;exact k [] F H (.refl g) .nil
theorem Oz(q:SX X c a pa)(hr:SG X c es ps)(hs:starEach (a::es) X.env=(false,eval a X.env)::starEach es X.env:=by rfl):SG X c (a::es) (pa::ps):=by cases hv:isVar pa with|none=>refine sH (bD q.ev hr hs) ?_;rintro σ H Q⟨F,ρ,as,ρ',g,e,k⟩;rw[wJ,hv]at e;obtain⟨r,f,s,e⟩:=aa e;obtain⟨xs,h,j,e⟩:=aa e;cases e;refine⟨F,ρ,r,f,g,s,λv F1 B s1 t=>⟨F1,f,xs,_,s1.gs,j,λvs l m s2 A=>k _ l m (s1.trans s2) (xX.YK s1 t s2 A)⟩⟩|some i=>refine sH (bD (q.var i hv) hr hs) ?_;rintro σ H Q⟨F,ρ,as,ρ',g,e,k⟩;rw[wJ,hv]at e;obtain⟨x0,u,w,e⟩:=aa e;obtain⟨o,y⟩:=aG w;subst y;obtain⟨xs,h,j,e⟩:=aa e;cases e;obtain⟨v,h1,_⟩:=g.pk o;exact⟨v,h1,F,ρ,xs,_,g,j,λvs l m s2 A=>k _ l m s2 (.cons h1 A λds x z=>by cases z)⟩
theorem Ly{k f:Nat}{t:Addr}{fd:FuncData}{j:List Str}(J:jh X.prog X.w X.K X.mg X.base JB k t fd j (Mu X.K j.length (c f)))(hr:iW k X.A)(L:Gl X x)(M:X.mg x=some (.ref t))(N:keepIn X.K (.ref t)=true)(O:Binds X.K fd j [])(U:SG X c (e::es) ps)(W:(e::es).length=j.length)(u:(x==("__debug__":Str))=false:=by decide)(he:starEach (e::es) X.env=(false,eval e X.env)::starEach es X.env:=by rfl)(hpl:(backTo pos (starEach es X.env)).any (·.1)=false:=by rfl)(y:ps.length=(e::es).length:=by rfl):SX X c (.Call (.Name x p') (e::es) [] pos) (.call f ps):=by
 refine⟨du (vq (E:=E0) J hr L M N O .nil Zx U u he hpl) ?_,λi h=>by cases h⟩;rintro σ H Q⟨F,ρ,r,ρ',g,e,k⟩;rw[HH.E14]at e;obtain⟨as,z,G,e⟩:=aa e;unfold jB at e;split at e;.cases e
 . rename_i args m;split at e
   . rename_i r' l hc;cases e;refine⟨F,ρ,as,z,g,G,λvs F1 Y s1 A=>?_⟩;have o:vs.length=j.length:=by
      have:∀{ps:List P}{ρ ρ':List Sl}{as:List Arg},zj c ps ρ=.ok as ρ'->as.length=ps.length:=by intro ps;induction ps with|nil=>intro ρ ρ' as h;rw[zN]at h;cases h;rfl|cons q j I=>
         intro ρ ρ' as h;rw[wJ]at h;split at h;.obtain⟨_,_,_,h⟩:=aa h;obtain⟨xs,B,C,h⟩:=aa h;cases h;simp[I C]
         .obtain⟨_,_,_,h⟩:=aa h;obtain⟨xs,B,C,h⟩:=aa h;cases h;simp[I C]
      rw[<-A.len,this G,y,W]
     show Mu X.K j.length (c f) (vs++[]) Y Q E0;rw[append_nil];refine⟨o,F1,args,r,l,args_gs s1.gs A m,hc,λv Z σ' H' s rr=>?_⟩;obtain⟨z1,z2⟩:=rA s1 A m s;exact k v Z H' z1 (z2 v r rr)
   .cases e
   .cases e
def Ju(K:PySem.W.Frag)(D:Ends)(g:Hp)(ρ':List Sl)(σ':L2.St)(f:Hp)(ρ:List Sl)(σ:L2.St)(H:Hp)(fl:Fl):Prop:=match fl with|.next=>D.nx σ' f|.brk=>D.bk σ' f|.cont=>D.ct σ' f|.ret r=>∀v,cR K g ρ' σ' f ρ σ H v r->D.rt v f
inductive tEx(K:PySem.W.Frag)(f:List Sl->Res Fl)(D:Ends)(σ:L2.St)(H:Hp):Prop where|mk(F:Hp)(ρ:List Sl)(fl:Fl)(ρ':List Sl)(g:GS K F ρ σ H)(e:f ρ=.ok fl ρ')(k:∀F' σ' H',az K F ρ σ H F' ρ' σ' H'->Ju K D F' ρ' σ' H' ρ σ H fl)
def SS(X:Cx)(c:Call)(n:Nat)(st:Stmt)(s:S):Prop:=PS X st (tEx X.K (ex c n s))
def SB(X:Cx)(c:Call)(n:Nat)(st:List Stmt)(s:List S):Prop:=pO X st (tEx X.K (fO c n s))
theorem cP{st:Stmt}{t t':TS}(h:PS X st t)(i:∀D σ H,t' D σ H->t D σ H):PS X st t':=λf s σ H D I q=>h f s σ H D I (i D σ H q)
theorem iy{st:List Stmt}{t t':TS}(h:pO X st t)(i:∀D σ H,t' D σ H->t D σ H):pO X st t':=λf s σ H D I q=>h f s σ H D I (i D σ H q)
theorem xs0{c:Call}:fO c n [] ρ=.ok .next ρ:=rfl
theorem Vb{c:Call}{s:S}{r:List S}:fO c n (s::r) ρ=(ex c n s ρ).bind λfl ρ=>match fl with|.next=>fO c n r ρ|fl=>.ok fl ρ:=rfl
theorem aq:SB X c n [] []:=iy qj λD σ H⟨F,ρ,fl,ρ',g,e,k⟩=>by rw[xs0]at e;cases e;exact k F σ H (.refl g)
theorem aZ{st:Stmt}{s:S}{sts:List Stmt}{ss:List S}(h1:SS X c n st s)(l:SB X c n sts ss):SB X c n (st::sts) (s::ss):=by refine iy (jf h1 l) ?_;rintro D σ H⟨F,ρ,fl,ρ',g,e,k⟩;rw[Vb]at e;obtain⟨f1,f,h,e⟩:=aa e;cases f1 with
 |next=>refine⟨F,ρ,.next,f,g,h,λF1 m w s1=>⟨F1,f,fl,ρ',s1.gs,e,λo j t s2=>?_⟩⟩;have q:=k o j t (s1.trans s2);cases fl with|next=>exact q|brk=>exact q|cont=>exact q|ret r=>exact λv u=>q v (u.later s1)
 |brk=>cases e;exact⟨F,ρ,.brk,_,g,h,k⟩|cont=>cases e;exact⟨F,ρ,.cont,_,g,h,k⟩|ret r=>cases e;exact⟨F,ρ,.ret r,_,g,h,k⟩
theorem YL{t1 t2:TE}(h1:PE X e t1)(g:PE X e t2):PE X e (λσ H Q=>t1 σ H Q\/t2 σ H Q):=λf s σ H Q I h=>h.elim (h1 f s σ H Q I) (g f s σ H Q I)
theorem Tw(he:SX X c e p):SS X c n (.Return (some e) pos) (.ret p):=by
 have plain:∀(D:Ends)(σ:L2.St)(H:Hp),(∃F ρ fl ρ',GS X.K F ρ σ H/\((HH.ev c p ρ).bind λr ρ=>.ok (Fl.ret r) ρ)=.ok fl ρ'/\∀h σ' f,az X.K F ρ σ H h ρ' σ' f->(match fl with|.next=>D.nx σ' f|.brk=>D.bk σ' f|.cont=>D.ct σ' f|.ret r=>∀v,cR X.K h ρ' σ' f ρ σ H v r->D.rt v f))->xW X.K (HH.ev c p) σ H D.rt:=λD σ H⟨F,ρ,fl,ρ',g,e,k⟩=>by obtain⟨r,j,l,e⟩:=aa e;cases e;exact⟨F,ρ,r,_,g,l,λv F1 m s1 o=>k F1 σ m s1 v o⟩
 cases hv:isVar p with|none=>refine cP (vA he.ev) λD σ H⟨F,ρ,fl,ρ',g,e,k⟩=>plain D σ H ⟨F,ρ,fl,ρ',g,?_,k⟩;rw[HH.X10,hv]at e;exact e|some i=>--by the name itself:its own list is handed back,else its data
   have s:p=.var i:=by cases p<;>cases hv;rfl
   subst s;refine cP (vA (YL (he.var i hv) he.ev)) ?_;rintro D σ H⟨F,ρ,fl,ρ',g,e,k⟩;rw[HH.X10,hv]at e;dsimp only at e;split at e;.rename_i ds q;cases e;obtain⟨v,h1,t,u⟩:=g.give q;exact .inl ⟨v,h1,k F σ H t v u⟩
   .exact .inr (plain D σ H ⟨F,ρ,fl,ρ',g,e,k⟩)
theorem j5{m o:List Stmt}{s tb:List S}(hc:ST X c e p)(t:SB X c n m s)(u:SB X c n o tb):SS X c n (.If e m o pos) (.ifs p s tb):=by refine cP (CG hc t u) ?_;rintro D σ H⟨F,ρ,fl,ρ',g,e,k⟩;rw[HH.X12]at e;obtain⟨x,j,w,e⟩:=aa e;refine⟨F,ρ,x,j,g,w,λF1 y s1=>?_⟩;have go:∀{f:List Sl->Res Fl},f j=.ok fl ρ'->tEx X.K f D σ y:=λ{f}h=>⟨F1,j,fl,ρ',s1.gs,h,λz l A s2=>by have q:=k z l A (s1.trans s2);cases fl with|next=>exact q|brk=>exact q|cont=>exact q|ret r=>exact λv B=>q v (B.later s1)⟩;cases x with|true=>rw[if_pos rfl]at e;exact go e|false=>rw[if_neg Bool.false_ne_true]at e;exact go e
theorem qI{f:Pos}(l:X.N.Nodup)(hi:X.N[i]?=some x)(m:Loc X.env.scope x)(he:SX X c e p)(hs:swapsWith e (some (.Name x f)) pos.line X.env=pure false:=by rfl)(o:X.fn x=true\/X.env.scope.names.lookup x=some .local:=by first|exact .inl rfl|exact .inr rfl|assumption):SS X c n (.Assign [.Name x f] e pos) (.asg i p):=by refine cP (oG l hi m he.ev hs o) ?_;rintro D σ H⟨F,ρ,fl,ρ',g,e,k⟩;rw[HH.X6]at e;obtain⟨r,j,q,e⟩:=aa e;obtain⟨s,t,h,e⟩:=aa e;cases e;have u:=aG h;clear h;obtain⟨h,z⟩:=u;exact⟨F,ρ,r,j,g,q,λv F1 w s1 y=>k F1 _ w (s1.put y h)⟩
end
end HH
end
section
namespace L2
open PySem PySem.Spec PyProof.Rows
variable{env:Env}{scope:Scope}{X:Cx}
noncomputable def uI(X:Cx)(scope:Scope)(N':List Str)(cl:List (Str×Addr))(C:Addr)(s₀:Shared)(H₀:Hp)(ex:List Addr):Cx:={X with N:=N',s₀:=s₀,H₀:=H₀,env:=compEnvC scope cl C X.env,outer:=X.stack,stack:=X.stack,ex:=ex,fn:=λx=>scope.names.lookup x==some .cell,pn:=[],xe:=λ_ _=>False}
theorem Ad(l:List (Str×NameKind)):∀(cs:List (Str×Addr)),(∀n,(n,NameKind.free)∈l->∃c,env.cells.lookup n=some c)->(∀n c,cs.lookup n=some c->env.cells.lookup n=some c)->∃ cl,(forIn l cs (λ(x:Str × NameKind)(r:List (Str × Addr))=>(if(x.2==NameKind.free)=true then(do let a<-cellOf env x.1;pure (ForInStep.yield ((x.1,a)::r)))else pure (ForInStep.yield r):Sem (ForInStep (List (Str × Addr))))):Sem (List (Str × Addr)))=pure cl/\(∀n c,cl.lookup n=some c->env.cells.lookup n=some c)/\(∀n,((n,NameKind.free)∈l\/(cs.lookup n).isSome)->(cl.lookup n).isSome):=by induction l with|nil=>intro cs _ h;exact⟨cs,rfl,h,λn hn=>by rcases hn with hn|hn;cases hn;exact hn⟩|cons y l i=>
   obtain⟨n,k⟩:=y;intro cs b hc;rw[List.forIn_cons];by_cases f:k=.free
   . subst f;obtain⟨a,j⟩:=b n mem_cons_self;obtain⟨cl,e,h1,g⟩:=i ((n,a)::cs) (λm hm=>b m (mem_cons_of_mem _ hm)) λm c hm=>by
      rw[lookup_cons]at hm;split at hm;.rename_i q;have q:=eq_of_beq q;subst q;cases hm;exact j
      .exact hc m c hm
     refine⟨cl,?_,h1,λm hm=>g m ?_⟩
     . rw[<-e];have:cellOf env n=pure a:=by unfold cellOf;rw[j]
       simp only[beq_self_eq_true,if_true,this];rfl
     . rcases hm with hm|hm
       . rcases mem_cons.mp hm with hm|hm;.cases hm;right;simp[lookup_cons]
         .exact .inl hm
       . right;rw[lookup_cons];split;.rfl
         .exact hm
   . obtain⟨cl,e,h1,g⟩:=i cs (λm hm=>b m (mem_cons_of_mem _ hm)) hc;refine⟨cl,?_,h1,λm hm=>g m ?_⟩
     . rw[<-e];have:(k==NameKind.free)=false:=by simpa using f
       simp only[this,false_eq_true,if_false];rfl
     . rcases hm with hm|hm
       . rcases mem_cons.mp hm with hm|hm;.cases hm;exact absurd rfl f
         .exact .inl hm
       .exact .inr hm
theorem Aj(a:∀n,(n,NameKind.free)∈scope.names->∃c,env.cells.lookup n=some c):∃cl,closureFor scope env=pure cl/\(∀n c,cl.lookup n=some c->env.cells.lookup n=some c)/\∀n,(n,NameKind.free)∈scope.names->(cl.lookup n).isSome:=by obtain⟨cl,e,h1,b⟩:=Ad (env:=env) scope.names [] a (by simp);refine⟨cl,?_,h1,λn f=>b n (.inl f)⟩;unfold closureFor;exact(congrArg (λt=>t>>=λr=>pure r) e).trans rfl
theorem fB{env:Env}:∀(names:List (Str×NameKind))(x:Str),(names.map λ(n,k)=>if(k==NameKind.free&&env.scope.kind==.function&&env.kindOf n==some .cell)then(n,NameKind.cell)else(n,k)).lookup x=(names.lookup x).map λk=>if(k==NameKind.free&&env.scope.kind==.function&&env.kindOf x==some .cell)=true then NameKind.cell else k
 |[],x=>rfl|(n,k)::r,x=>by
   have a:=fB (env:=env) r x;show List.lookup x ((if(k==NameKind.free&&env.scope.kind==.function&&env.kindOf n==some .cell)=true then(n,NameKind.cell)else(n,k))::_)=_;by_cases hc:(k==NameKind.free&&env.scope.kind==.function&&env.kindOf n==some .cell)=true;.rw[if_pos hc,lookup_cons,lookup_cons];cases hx:x==n with|true=>have:=eq_of_beq hx;subst this;show some NameKind.cell=some (if _ then _ else _);rw[if_pos hc]|false=>exact a
   .rw[if_neg hc,lookup_cons,lookup_cons];cases hx:x==n with|true=>have:=eq_of_beq hx;subst this;show some k=some (if _ then _ else _);rw[if_neg hc]|false=>exact a
noncomputable def Yx(N N':List Str)(a:Scope):Bool:=(N.zip N').all λp=>(p.1==p.2&&a.names.lookup p.2==some .free)||(a.names.lookup p.2!=some .local&&a.names.lookup p.2!=some .cell&&a.names.lookup p.2!=some .free)
structure gC(X:Cx)(scope:Scope)(N':List Str)(n:Nat):Prop where
 kind:scope.kind=.function
 cons:∀y∈scope.names,scope.names.lookup y.1=some y.2
 names:∀y∈scope.names,y.2=.local->scope.names.lookup y.1=some .local
 cap:∀y∈scope.names,y.2=.free->X.env.scope.names.lookup y.1=some .cell\/X.env.scope.names.lookup y.1=some .free
 len:N'.length=X.N.length+n
 same:Yx X.N N' scope=true
theorem gC.get{N':List Str}{n:Nat}(c:gC X scope N' n){i:Nat}{x:Str}(hi:i<X.N.length)(h:N'[i]?=some x)(a:uX (relabel scope X.env) x):X.N[i]?=some x/\scope.names.lookup x=some .free:=by
 have hz:(X.N.zip N')[i]?=some (X.N[i],x):=by rw[List.getElem?_zip_eq_some];exact⟨by simp[hi],h⟩
 have:=(all_eq_true.mp c.same) _ (mem_of_getElem? hz);simp only[or_eq_true,and_eq_true]at this;rcases this with⟨h1,b⟩|⟨⟨h1,b⟩,f⟩;.have h1:=eq_of_beq h1;have b:=eq_of_beq b;exact⟨by simp[hi,h1],b⟩
 . exfalso;have h1:scope.names.lookup x≠some .local:=by simpa using h1
   have b:scope.names.lookup x≠some .cell:=by simpa using b
   have f:scope.names.lookup x≠some .free:=by simpa using f
   have e:=fB (env:=X.env) scope.names x;have a:(relabel scope X.env).names.lookup x=some .local\/(relabel scope X.env).names.lookup x=some .cell\/(relabel scope X.env).names.lookup x=some .free:=a;rw[show(relabel scope X.env).names.lookup x=_ from e]at a;cases q:scope.names.lookup x with|none=>rw[q]at a;simp at a|some k=>
     rw[q]at a h1 b f;have g:(k==NameKind.free)=false:=by cases k<;>first|rfl|exact absurd rfl f
     simp only[Option.map_some,g,Bool.false_and,false_eq_true,if_false,Option.some.injEq]at a;rcases a with rfl|rfl|rfl;.exact h1 rfl
     .exact b rfl
     .exact f rfl
structure CI(cl:List (Str×Addr))(z:Nat)(h:Heap)(acc:List (Str×Addr)):Prop where from':∀n c,acc.lookup n=some c->cl.lookup n=some c\/(z<=c/\h.IsCell c none)inj:∀n n' c,acc.lookup n=some c->acc.lookup n'=some c->n=n'
theorem Ip{cl:List (Str×Addr)}{z:Nat}(i:∀n c,cl.lookup n=some c->c<z):∀(names:List (Str×NameKind))(h:Heap)(f:List (Str×Addr)),z<=h.objs.size->CI cl z h f->CI cl z (pushCells h names) (cellsFrom h.objs.size names f)/\(∀n,(f.lookup n).isSome->((cellsFrom h.objs.size names f).lookup n).isSome)/\(∀n,((∃c,f.lookup n=some c/\z<=c)\/(n,NameKind.cell)∈names)->∃c,(cellsFrom h.objs.size names f).lookup n=some c/\z<=c)/\(∀n c,(n,NameKind.cell)∉names->(cellsFrom h.objs.size names f).lookup n=some c->f.lookup n=some c)
 |[],h,f,hz,x=>by
   refine⟨x,λ_ q=>q,λn q=>?_,λ_ _ _ q=>q⟩;rcases q with q|q;.exact q
   .cases q|(name,kind)::r,h,f,hz,x=>by
   unfold pushCells cellsFrom;by_cases l:kind=.cell
   . subst l;rw[if_pos (by rfl),if_pos (by rfl)];have p:CI cl z (h.push {cls:=.type "cell",data:=.cell none}) ((name,h.objs.size)::f):=by
      have lt:∀n c,f.lookup n=some c->c<h.objs.size:=λn c e=>by
       rcases x.from' n c e with q|q;.exact lt_of_lt_of_le (i n c q) hz
       .exact q.2.lt
      refine⟨λn c e=>?_,λn m c e j=>?_⟩
      . rw[lookup_cons]at e;split at e;.cases e;exact .inr ⟨hz,_,get?_push_size _ rfl,rfl⟩
        . rcases x.from' n c e with q|q;.exact .inl q
          .exact .inr ⟨q.1,q.2.keeps λb o e=>iK e⟩
      . rw[lookup_cons]at e j;split at e<;>split at j;.rename_i _ a _ b;rw[eq_of_beq a,eq_of_beq b]
        .cases e;exact absurd (lt m _ j) (lt_irrefl _)
        .cases j;exact absurd (lt n _ e) (lt_irrefl _)
        .exact x.inj n m c e j
     have g:=Ip i r (h.push {cls:=.type "cell",data:=.cell none}) ((name,h.objs.size)::f) (by rw[size_push];omega) p;rw[size_push]at g;refine⟨g.1,λn q=>g.2.1 n ?_,λn q=>g.2.2.1 n ?_,λn c q e=>?_⟩
     . rw[lookup_cons];split;.rfl
       .exact q
     . rcases q with⟨c,e,hc⟩|q
       . left;rw[lookup_cons];split;.exact⟨_,rfl,hz⟩
         .exact⟨c,e,hc⟩
       . rcases mem_cons.mp q with q|q;.cases q;left;exact⟨_,by simp[lookup_cons],hz⟩
         .exact .inr q
     . have:=g.2.2.2 n c (λz=>q (mem_cons_of_mem _ z)) e;rw[lookup_cons]at this;split at this;.rename_i a;exact absurd (by rw[eq_of_beq a];exact mem_cons_self) q
       .exact this
   . have k:(kind==NameKind.cell)=false:=by simpa using l
     rw[if_neg (by rw[k];decide),if_neg (by rw[k];decide)];have g:=Ip i r h f hz x;refine⟨g.1,g.2.1,λn q=>g.2.2.1 n ?_,λn c q e=>g.2.2.2 n c (λz=>q (mem_cons_of_mem _ z)) e⟩;rcases q with q|q;.exact .inl q
     . rcases mem_cons.mp q with q|q;.cases q;exact absurd rfl l
       .exact .inr q
structure Jb(X:Cx)(scope:Scope)(z:Nat)(h:Heap)(cs:List (Str×Addr)):Prop where
 from':∀n c,cs.lookup n=some c->X.env.cells.lookup n=some c\/(z<c/\h.IsCell c none)inj:∀n n' c,cs.lookup n=some c->cs.lookup n'=some c->n=n'
 has:∀n,(scope.names.lookup n=some .free\/scope.names.lookup n=some .cell)->∃c,cs.lookup n=some c
 fre:∀n c,scope.names.lookup n=some .free->cs.lookup n=some c->X.env.cells.lookup n=some c
 own:∀n c,scope.names.lookup n=some .cell->cs.lookup n=some c->z<c
theorem Fy{M:Model}{A:Around}{E:Value->Shared->Prop}{s:Shared}{N':List Str}{n:Nat}{cl:List (Str×Addr)}{Q:Env->Shared->Prop}(ok:gC X scope N' n)(h:∀n c,X.env.cells.lookup n=some c->c<s.heap.objs.size)(f:∀x y c,X.env.cells.lookup x=some c->X.env.cells.lookup y=some c->x=y)(a:∀n c,cl.lookup n=some c->X.env.cells.lookup n=some c)(l:∀n,(n,NameKind.free)∈scope.names->(cl.lookup n).isSome)(m:∀ cs h',h'.Ns s.heap.objs.size (λ_=>none)->(∀ b o,s.heap.get? b=some o->h'.get? b=some o)->Jb X scope s.heap.objs.size h' cs->Q {scope:=scope,locals:=s.heap.objs.size,globals:=X.env.globals,cells:=cs,qual:=X.env.qual,func:=none,code:=X.env.code,frame:=X.env.frame,builtins:=X.env.builtins} {s with heap:=h'}):wpAny M A (newFunctionEnv scope X.env.globals cl [] X.env.qual none .none (some X.env)) Q E s:=by
 simp only[newFunctionEnv,Option.isSome_some,if_true];refine wpAny_bind (wpAny_alloc ?_);refine wpAny_bind (wpAny_layCells _ (λname kind cells=>by cases i:kind==NameKind.cell<;>simp[i]) _ _ _ _ ?_);have ck:=Ip (cl:=cl) (z:=s.heap.objs.size+1) (λn c e=>Nat.lt_succ_of_lt (h n c (a n c e))) scope.names (s.heap.push {cls:=.type "dict",data:=.dict #[]}) cl (by rw[size_push];exact eY) ⟨λn c e=>.inl e,λn k c e g=>f n k c (a n c e) (a k c g)⟩;obtain⟨c1,c2,c3,c4⟩:=ck;rw[show({s with heap:=s.heap.push {cls:=.type "dict",data:=.dict #[]}}:Shared).heap.objs.size=(s.heap.push {cls:=.type "dict",data:=.dict #[]}).objs.size from rfl];refine wpAny_bind ?_;rw[List.forIn_nil];refine wpAny_pure (wpAny_pure (m _ _ ((Heap.Ns.new s.heap (.type "dict")).keeps (pushCells_keeps _ _)) (λb o e=>pushCells_keeps _ _ b o (iK e)) ⟨λn c e=>?_,c1.inj,λn q=>?_,λn c q e=>?_,λn c q e=>?_⟩))
 . rcases c1.from' n c e with z|z;.exact .inl (a n c z)
   .exact .inr ⟨z.1,z.2⟩
 . rcases q with q|q;.exact Option.isSome_iff_exists.mp (c2 n (l n (PySem.mem_of_lookup q)))
   .obtain⟨c,e,_⟩:=c3 n (.inr (PySem.mem_of_lookup q));exact⟨c,e⟩
 .refine a n c (c4 n c (λz=>?_) e);have:=ok.cons _ z;rw[q]at this;cases this
 .obtain⟨p,g,j⟩:=c3 n (.inr (PySem.mem_of_lookup q));rw[e]at g;cases g;exact j
section
variable{X:Cx}{pins:List (Addr×Obj)}{σ:L2.St}{H:Hp}{s:Shared}{scope:Scope}{N':List Str}{n:Nat}{fp:List Addr}{cl:List (Str×Addr)}
theorem G9{h1:Heap}{m:Str->Option Value}{t:Nat}{cs:List (Str×Addr)}(ok:gC X scope N' n)(I:Inv X pins σ H s)(G:∀b∈fp,sG X pins H b/\b<s.heap.objs.size)(w:Jb X scope s.heap.objs.size h1 cs)(U:h1.Ns s.heap.objs.size m)(j:∀b u,s.heap.get? b=some u->h1.get? b=some u):Inv (uI X scope N' cs s.heap.objs.size s H fp) [] (σ++replicate n none) H {s with heap:=h1,toks:=t}:=by
 have J:∀x,scope.names.lookup x=some .free->(relabel scope X.env).names.lookup x=some .cell\/(relabel scope X.env).names.lookup x=some .free:=λx h=>by
  have e:=fB (env:=X.env) scope.names x;rw[h]at e;have L:(relabel scope X.env).names.lookup x=_:=e;rw[L];simp only[Option.map_some];split;.exact .inl rfl
  .exact .inr rfl
 refine⟨⟨I.ok.mod,ok.kind,I.ok.glob,I.ok.blt,eY,λx y c h1 W=>w.inj x y c h1 W,λx z=>?_,λx c h e=>le_of_lt (w.own x c (eq_of_beq (show(scope.names.lookup x==some NameKind.cell)=true from h)) e),I.ok.hd,I.ok.frames,.inl rfl,λb B=>?_,I.bs,le_trans I.ok.Gb I.sz,λb u e B=>?_,λb B M=>?_,I.stack,I.p8⟩,rfl,I.bare,Un.kept j,⟨m,U,λi x v Y C Z=>?_⟩,λx c e=>?_,I.hok.fresh (eY),λx c e=>?_,λp hp=>(by cases hp),I.hok.kept j,?_⟩;.--a aah name has its cell
   have z:(relabel scope X.env).names.lookup x=some .cell\/(relabel scope X.env).names.lookup x=some .free:=z;have e:=fB (env:=X.env) scope.names x;have L:(relabel scope X.env).names.lookup x=_:=e;rw[L]at z;refine w.has x ?_;cases q:scope.names.lookup x with|none=>rw[q]at z;simp at z|some k=>
     rw[q]at z;by_cases hk:k=.free;.rw[hk];exact .inl rfl
     . have g:(k==NameKind.free)=false:=by simpa using hk
       simp only[Option.map_some,g,Bool.false_and,false_eq_true,if_false,Option.some.injEq]at z;rcases z with rfl|rfl;.exact .inr rfl
       .exact absurd rfl hk
 . obtain⟨f,lt⟩:=G b B;refine⟨ne_of_lt lt,λx c e=>?_⟩;rcases w.from' x c e with e|e;.exact f.2.2.2.2.1 x c e
   .rintro rfl;exact absurd (Nat.lt_trans e.1 lt) (lt_irrefl _)
 . obtain⟨f,lt⟩:=G b B;rcases f.2.2.2.1 with h|h;.exact I.ok.ue b u e h
   .have this:b<X.base.objs.size:=lt_size e;exact absurd (lt_of_lt_of_le this (le_trans I.ok.Gb h)) (lt_irrefl _)
 . obtain⟨f,lt⟩:=G b B;rcases mem_cons.mp (I.rF b M)with h|h;.exact f.2.1 h
   .exact f.2.2.1 h
 .--the names
   have hi:i<σ.length:=by
    by_cases hi:i<σ.length;.exact hi
    .rw[getElem?_append_right (by omega),getElem?_replicate]at C;split at C<;>cases C
   rw[getElem?_append_left hi]at C;obtain⟨N,o⟩:=ok.get (by rw[<-I.len];exact hi) Y Z;have hk:=ok.cap (x,.free) (PySem.mem_of_lookup o) rfl;obtain⟨m0,ac,hl⟩:=I.loc;obtain⟨u,r,l⟩:=hl i x v N C (.inr hk);refine⟨u,r,.inr ⟨J x o,?_⟩⟩;rcases l with⟨g,_⟩|⟨_,c,hc,A⟩;.have g:X.env.scope.names.lookup x=some .local:=g;rcases hk with hk|hk<;>(rw[g]at hk;cases hk)
   .obtain⟨c',E⟩:=w.has x (.inl o);have:=w.fre x c' o E;rw[hc]at this;cases this;refine⟨c,E,?_⟩;obtain⟨oc,O,Q⟩:=A;exact⟨oc,j c oc O,Q⟩
 . rcases w.from' x c e with e|e;.obtain⟨v,oc,O,Q⟩:=I.cell x c e;exact⟨v,oc,j c oc O,Q⟩
   .exact⟨_,e.2⟩
 . rcases w.from' x c e with e|e;.exact I.fV x c e
   .exact I.hok.fresh (le_of_lt e.1)
 .show(σ++replicate n none).length=N'.length;rw[length_append,List.length_replicate,I.len,ok.len]
theorem vB{prog:Program}{w:World}{A:Around}{R:Result->Shared->Prop}{p a iter:Expr}{ifs:List Expr}{pos:Pos}{it q:Value}(I:Nat->Shared->Prop)(t:∀ n s,I n s->wpAny (model prog w) A (pyNext it) (λr b=>match r with|none=>R (.ok .next) b|some v=>wpAny (model prog w) A (letOwnedTupleGo a it v) (λ_ b=>wpAny (model prog w) A (assign a env v) (λ_ j=>wpAny (model prog w) A (forIn ifs true λc r=>if r=true then do let ok<-isTrue c env (eval c env);pure (ForInStep.yield ok)else pure (ForInStep.yield r)) (λok g=>if ok=true then wpAny (model prog w) A (eval p env) (λx k=>wpAny (model prog w) A (call (.builtin "list.append") [q,x]) (λ_ l=>∃m,m<n/\I m l) (notedBy (model prog w) A env λe i=>R (.error e) i) k) (notedBy (model prog w) A env λe i=>R (.error e) i) g else ∃m,m<n/\I m g) (notedBy (model prog w) A env λe i=>R (.error e) i) j) (notedBy (model prog w) A env λe i=>R (.error e) i) b) (notedBy (model prog w) A env λe i=>R (.error e) i) b) (notedBy (model prog w) A env λe i=>R (.error e) i) s)(n:Nat){s:Shared}(h:I n s):codeAny (model prog w) A (.compLoop (.ListComp p [⟨a,iter,ifs,0⟩] scope pos) 0 it q env) R s:=by refine codeAny_loop rfl I (λn s B=>?_) n h;show wpAny _ A ((compTurn (.ListComp p [⟨a,iter,ifs,0⟩] scope pos) 0 it q env).onRaise (λx=>do noteFrame x env;theTreesLotGoes x)) _ _ s;refine wpAny_noted ?_;rw[compTurn_list];refine wpAny_bind (wpAny_standAt (wpAny_bind (wpAny_mono (t n s B) (λr b f=>?_) λ_ _ h'=>h')));cases r with|none=>exact wpAny_pure f|some v=>refine wpAny_bind (wpAny_mono f (λ_ b f=>?_) λ_ _ h'=>h');refine wpAny_bind (wpAny_mono f (λ_ j u=>wpAny_bind (wpAny_mono u (λok g o=>?_) λ_ _ h'=>h')) λ_ _ h'=>h');cases ok with|false=>exact wpAny_pure ⟨rfl,o⟩|true=>exact wpAny_bind (wpAny_bind (wpAny_mono o (λx k y=>wpAny_bind (wpAny_mono y (λ_ l z=>wpAny_pure (wpAny_pure ⟨rfl,z⟩)) λ_ _ h'=>h')) λ_ _ h'=>h'))
def Ub(X:Cx)(ifs:List Expr)(t:TT):Prop:=∀(pins:List (Addr × Obj))(s:Shared)(σ:L2.St)(H:Hp)(Q:Bool->Hp->Prop),Inv X pins σ H s->t σ H Q->wpAny (model X.prog X.w) X.A (forIn ifs true λc r=>if r=true then do let ok<-isTrue c X.env (eval c X.env);pure (ForInStep.yield ok)else pure (ForInStep.yield r)) (TP X pins σ Q) X.xe s
theorem NT:Ub X [] (λ_ H Q=>Q true H):=λpins s σ H Q I h=>wpAny_tests_nil ⟨H,I,h⟩
theorem M4{c:Expr}{t:TT}(h:PT X c t):Ub X [c] t:=λpins s σ H Q I q=>wpAny_tests_one (h pins s σ H Q I q)
def Pu(J:It)(g:TG)(tt:TT)(te:TE)(D:Addr)(Q:Hp->Prop)(W:Nat->Nat->List V->L2.St->Hp->Prop):Prop:=∀ i m ys σ H,W i m ys σ H->H D=some (.lst ys)/\((J.stop i H/\Q H)\/(J.go i H/\∀ x e,J.O3 i H x e->g x σ e λa j=>tt a j λb f=>if b=true then te a f λy h=>h D=some (.lst ys)/\ys.length<sizeLine/\∃c,c<m/\W (i+1) c (ys++[y]) a (upd h D (.lst (ys++[y])))else ∃c,c<m/\W (i+1) c ys a f))
theorem uK{E:Value->Shared->Prop}{af a iter:Expr}{ifs:List Expr}{pos:Pos}{it:Addr}{tn:Nat->Heap->Prop}{J:It}{g:TG}{tt:TT}{te:TE}{Q:Addr->Hp->Prop}{RR:Value->Addr->Result->Shared->Prop}(hc:X.calm=true)(ok:gC X scope N' n)(I:Inv X pins σ H s)(bi:∀n c,cl.lookup n=some c->X.env.cells.lookup n=some c)(Bf:∀n,(n,NameKind.free)∈scope.names->(cl.lookup n).isSome)(T:Turn X.prog X.w X.K a J fp it tn)(h0:tn 0 s.heap)(hf:∀b∈fp,sG X pins H b)(hg:∀cl C s₀ H₀ ex,PG (uI X scope N' cl C s₀ H₀ ex) a g)(ht:∀cl C s₀ H₀ ex,Ub (uI X scope N' cl C s₀ H₀ ex) ifs tt)(he:∀cl C s₀ H₀ ex,PE (uI X scope N' cl C s₀ H₀ ex) af te)(hw:∀D,H D=none->∃W,(∃m,W 0 m [] (σ++replicate n none) (upd H D (.lst [])))/\Pu J g tt te D (Q D) W)(bn:∀D C B l,Q D l->(∃m,B.heap.Ns C m)->sG X pins l C->Inv X pins σ l B->RR (.ref D) C (.ok .next) B):wpAny (model X.prog X.w) X.A (newList []) (λar av=>wpAny (model X.prog X.w) X.A (newFunctionEnv scope X.env.globals cl [] X.env.qual none .none (some X.env)) (λai aw=>codeAny (model X.prog X.w) X.A (.compStart (.ListComp af [⟨a,iter,ifs,0⟩] scope pos) 0 (.ref it) ar {ai with scope:=relabel scope X.env}) (RR ar ai.locals) aw) E av) E s:=by
 refine wpAny_newObj_type (Fy ok (λx c e=>?lt) I.ok.inj bi Bf (λcs L al hold bc=>?_));case lt=>obtain⟨v,z⟩:=I.cell x c e;exact lt_of_lt_of_le z.lt (by show _<=(s.heap.push _).objs.size;rw[size_push];exact Nat.le_succ _)
 dsimp only at al hold bc ⊢--the new list,tracked
 have I3:Inv X pins σ (upd H s.heap.objs.size (.lst [])) {s with heap:=s.heap.push {cls:=.type "list",data:=.seq ([]:List Value).toArray}}:=I.RB (t':=s.toks) .nil (uy);generalize am:({s with heap:=s.heap.push {cls:=.type "list",data:=.seq ([]:List Value).toArray}}:Shared)=s3 at I3;have hsz:s3.heap.objs.size=s.heap.objs.size+1:=by rw[<-am];exact size_push _ _
 have QX:s3.heap=s.heap.push {cls:=.type "list",data:=.seq ([]:List Value).toArray}:=by rw[<-am]
 obtain⟨W,⟨m0,w0⟩,ax⟩:=hw s.heap.objs.size I.fresh;have ay:∀{h':Heap},(∀b o,s.heap.get? b=some o->h'.get? b=some o)->tn 0 h':=λk=>T.keep _ _ _ h0 λb j o e=>k b o e;have ag:∀b∈fp,sG X pins (upd H s.heap.objs.size (.lst [])) b/\b<s3.heap.objs.size:=λb j=>by obtain⟨o,e,_⟩:=T.obj 0 _ h0 b j;have lt:=lt_size e;obtain⟨f1,f2⟩:=hf b j;exact⟨⟨by rw[aA (ne_of_lt lt)];exact f1,f2⟩,by rw[hsz];exact Nat.lt_succ_of_lt lt⟩
 rw[<-QX]at al hold bc ⊢;have I4:=G9 (t:=s3.toks) ok I3 ag bc al hold;have aE:∀b o,s.heap.get? b=some o->L.get? b=some o:=λb o e=>hold b o (by rw[QX];exact iK e);generalize O:uI X scope N' cs s3.heap.objs.size s3 (upd H s.heap.objs.size (.lst [])) fp=G at I4;have hA:G.A=X.A:=by rw[<-O];rfl
 have M:G.prog=X.prog:=by rw[<-O];rfl
 have N:G.w=X.w:=by rw[<-O];rfl
 have aI:G.K=X.K:=by rw[<-O];rfl
 have U:G.calm=true:=by rw[<-O];exact hc
 have bo:G.xe=λ_ _=>False:=by rw[<-O];rfl
 have aS:G.env=compEnvC scope cs s3.heap.objs.size X.env:=by rw[<-O];rfl
 have bp:PG G a g:=by rw[<-O];exact hg _ _ _ _ _
 have bq:Ub G ifs tt:=by rw[<-O];exact ht _ _ _ _ _
 have br:PE G af te:=by rw[<-O];exact he _ _ _ _ _
 have ff:∀{l:Hp}{b:Addr},b∈fp->l b=none->sG G [] l b:=λ{l b}j hn=>by
  obtain⟨f,lt⟩:=ag b j;rw[<-O];refine⟨hn,ne_of_lt lt,λbt=>?_,.inl j,λx c e=>?_,λp hp=>by cases hp⟩
  . rcases mem_cons.mp (I3.rF b bt)with h|h;.exact f.2.1 h
    .exact f.2.2.1 h
  . rcases bc.from' x c e with e|e;.exact f.2.2.2.2.1 x c e
    .rintro rfl;exact absurd (Nat.lt_trans e.1 lt) (lt_irrefl _)--behind the block
 have fin:∀{σ':L2.St}{l:Hp}{B:Shared},Inv G [] σ' l B->Q s.heap.objs.size l->RR (.ref s.heap.objs.size) s3.heap.objs.size (.ok .next) B:=λ{σ' l B}Y q=>by
  rw[<-O]at Y;have hC:l s3.heap.objs.size=none:=Y.free;obtain⟨hh,gg,dd,bv,bP⟩:=B;have bS:bP=s3.os:=Y.os;subst bS;refine bn _ _ _ l q (let⟨m,hm,_⟩:=Y.loc;⟨m,hm⟩) ?_ (I3.call (h':=hh) (g':=gg) (d':=dd) (t':=bv) (ch:=fp) Y.base Y.hok Y.bare λb j=>?_);.exact I3.GR (eY) hC
  .obtain⟨f,lt⟩:=ag b j;exact⟨f.2.2.2.1,f.2.1,f.2.2.2.2.1,f.2.2.2.2.2⟩
 have ac:codeAny (model X.prog X.w) X.A (.compLoop (.ListComp af [⟨a,iter,ifs,0⟩] scope pos) 0 (.ref it) (.ref s.heap.objs.size) G.env) (RR (.ref s.heap.objs.size) s3.heap.objs.size) {s3 with heap:=L,toks:=s3.toks}:=by
  refine vB (λk B=>∃i ys σ' l,Inv G [] σ' l B/\tn i B.heap/\(∀b∈fp,l b=none)/\W i k ys σ' l) (λk s5 hI=>?_) m0 ⟨0,[],_,_,I4,ay aE,λb j=>(ag b j).1.1,w0⟩;obtain⟨i,ys,ah,H5,I5,t5,f5,w5⟩:=hI;obtain⟨hD,ap⟩:=ax i k ys ah H5 w5;have V0:∀{Z:Value->Shared->Prop},∀(e:Value)(B:Shared),G.xe e B->Z e B:=λe B z=>by rw[bo]at z;exact False.elim z
  rcases ap with⟨stop,q⟩|⟨go,step⟩;.have z:=T.done G M N aI U i [] s5 ah H5 (λ_ _=>False) I5 (λb j=>ff j (f5 b j)) t5 stop;rw[hA]at z;refine wpAny_mono z (?_) λ_ _ z=>False.elim z;rintro r s6⟨hr,I6⟩;subst hr;exact fin I6 q
  . have z:=T.item G M N aI U i [] s5 ah H5 (λ_ _=>False) I5 (λb j=>ff j (f5 b j)) t5 go;rw[hA]at z;refine wpAny_mono z (?_) λ_ _ z=>False.elim z;rintro r s6⟨u,hr,z6⟩;subst hr;refine wpAny_mono z6 (?_) λ_ _ z=>False.elim z;rintro _ s7⟨x,H7,I7,r7,y7,t7,f7⟩;have bX:=I7.pinned (λb j=>ff j (f7 b j)) (T.obj _ _ t7)--what the pins keep
    have back:∀{σ':L2.St}{l:Hp}{B:Shared},Inv G ([]++rN fp s7.heap) σ' l B->Inv G [] σ' l B/\tn (i+1) B.heap/\∀b∈fp,l b=none:=λ{σ' l B}Y=>by refine⟨Y.nY,T.keep _ _ _ t7 λb j o e=>(Y.pin (b,o) (mem_append_right _ (mem_append_right _ (jE j e)))).1,λb j=>?_⟩;obtain⟨o,e,_⟩:=T.obj _ _ t7 b j;exact(Y.pin (b,o) (mem_append_right _ (mem_append_right _ (jE j e)))).2.1
    have z7:=bp _ s7 ah H7 x u _ bX r7 (step x H7 y7);rw[hA,M,N]at z7;refine wpAny_mono z7 (?_) V0;rintro _ s8⟨ae,H8,I8,q8⟩;have z8:=bq _ s8 ae H8 _ I8 q8;rw[hA,M,N]at z8;refine wpAny_mono z8 (?_) V0;rintro b s9⟨H9,I9,q9⟩;cases b with|false=>rw[if_neg Bool.false_ne_true]at q9 ⊢;obtain⟨m',hm,w'⟩:=q9;obtain⟨b1,b2,b3⟩:=back I9;exact⟨m',hm,i+1,ys,ae,H9,b1,b2,b3,w'⟩|true=>rw[if_pos rfl]at q9 ⊢;have z9:=br _ s9 ae H9 _ I9 q9;rw[hA,M,N]at z9;refine wpAny_mono z9 (?_) V0;rintro y tM⟨yv,aT,cb,cf,ci,a8,m',hm,w'⟩;have a9:=pg _ tM ae aT (.ref s.heap.objs.size) [yv] (.ref s.heap.objs.size) [y] (λv ba=>ba=upd aT s.heap.objs.size (.lst (ys++[yv]))) cb rfl (.cons cf .nil) ⟨_,ys,yv,rfl,rfl,ci,a8,rfl⟩;rw[hA,M,N]at a9;refine wpAny_mono a9 (?_) V0;rintro _ VR⟨_,ba,cn,_,cr⟩;subst cr;obtain⟨b1,b2,b3⟩:=back cn;exact⟨m',hm,i+1,ys++[yv],ae,_,b1,b2,b3,w'⟩
 have e3:({s3 with heap:=L,toks:=s3.toks}:Shared)={s with heap:=L}:=by rw[<-am]
 rw[aS,e3]at ac;exact codeAny_compStart_list ac (T.self _ 0 _ _ _ (ay aE) ac)
end
section
variable{X:Cx}{elt target iter:Expr}{ifs:List Expr}{scope:Scope}{pos:Pos}{N':List Str}{n:Nat}{wi:TI}{g:TG}{tt:TT}{te:TE}
def uR(n:Nat)(wi:TI)(g:TG)(tt:TT)(te:TE):TE:=λσ H Q=>wi σ H λJ a=>∀D,a D=none->∃W,(∃m,W 0 m [] (σ++replicate n none) (upd a D (.lst [])))/\Pu J g tt te D (λb=>Q (.ref D) b) W
theorem mY{a:List (Addr×Obj)}{σ:L2.St}{H:Hp}{s:Shared}(I:Inv X a σ H s)(ok:gC X scope N' n):∃cl,closureFor scope X.env=pure cl/\(∀n c,cl.lookup n=some c->X.env.cells.lookup n=some c)/\∀n,(n,NameKind.free)∈scope.names->(cl.lookup n).isSome:=Aj λm b=>I.ok.has m (ok.cap (m,.free) b rfl)
theorem CJ(hc:X.calm=true)(ok:gC X scope N' n)(hi:PI X target iter wi)(r:∀cl C s₀ H₀ ex,PG (uI X scope N' cl C s₀ H₀ ex) target g)(ht:∀cl C s₀ H₀ ex,Ub (uI X scope N' cl C s₀ H₀ ex) ifs tt)(he:∀cl C s₀ H₀ ex,PE (uI X scope N' cl C s₀ H₀ ex) elt te)(hs:∀x,foldedSetIterable iter X.env x=pure x:=by intro _;rfl):PE X (.ListComp elt [⟨target,iter,ifs,0⟩] scope pos) (uR n wi g tt te):=by intro a s σ H Q I h;obtain⟨cl,c,i,t⟩:=mY I ok;rw[eval_ListComp];refine wpAny_comprehension_free (use:=none) rfl hs c ok.kind ok.names (bV (hi a s σ H _ I h) λv s1 h1=>bV h1 λu s2 y=>?_);obtain⟨it,M,N,J,O,rfl,z,T,t0,f2,B⟩:=y;refine uK (Q:=λD j=>Q (.ref D) j) (RR:=λk C=>compPost (model X.prog X.w) X.A X.xe none (EP X a σ Q) k C) hc ok z i t T t0 f2 r ht he B λD C E j q l f G=>?_;obtain⟨m,l⟩:=l;refine⟨m,l,λh' p=>⟨.ref D,j,?_,rfl,q⟩⟩;exact G.turned (t':=E.toks) (λb o L e=>p.extBut b o L e) f.1 f.2.1 f.2.2.2.1 f.2.2.2.2.1 f.2.2.2.2.2
theorem Nj{i:Nat}{x:Str}{c j:Pos}(hc:X.calm=true)(U:X.N.Nodup)(r:X.N[i]?=some x)(W:Loc X.env.scope x)(ok:gC X scope N' n)(hi:PI X target iter wi)(Y:∀cl C s₀ H₀ ex,PG (uI X scope N' cl C s₀ H₀ ex) target g)(ht:∀cl C s₀ H₀ ex,Ub (uI X scope N' cl C s₀ H₀ ex) ifs tt)(he:∀cl C s₀ H₀ ex,PE (uI X scope N' cl C s₀ H₀ ex) elt te)(t:swapsWith (.ListComp elt [⟨target,iter,ifs,0⟩] scope pos) (some (.Name x c)) j.line X.env=pure true)(hs:∀x,foldedSetIterable iter X.env x=pure x:=by intro _;rfl)(Z:X.fn x=true\/X.env.scope.names.lookup x=some .local:=by first|exact .inl rfl|exact .inr rfl|assumption):PS X (.Assign [.Name x c] (.ListComp elt [⟨target,iter,ifs,0⟩] scope pos) j) (Ve (uR n wi g tt te) (j8 i)):=by
 intro f s σ H D I h;obtain⟨cl,k,u,Bf⟩:=mY I ok;rw[exec_Assign_Name_used _ _ _ _ t];refine wpAny_bind (wpAny_standAt (wpAny_bind ?_));show wpAny _ X.A (do let _<-comprehension (.ListComp elt [⟨target,iter,ifs,0⟩] scope pos) scope X.env _ (newList []) false (eval iter X.env) (some (assign (.Name x c) X.env))) _ _ s;refine wpAny_bind (wpAny_mono (wpAny_comprehension_free (use:=some (assign (.Name x c) X.env)) (Q:=λ_ p=>SP X f D .next p) rfl hs k ok.kind ok.names (bV (hi f s σ H _ I h) λv s1 h1=>bV h1 λac s2 h2=>?_)) (λ_ p hq=>wpAny_pure (wpAny_pure hq)) λ_ _ e=>e);obtain⟨it,fp,tn,J,H2,rfl,I2,T,t0,f2,hw⟩:=h2;refine uK (Q:=λDa y=>D.nx (σ.set i (some (.ref Da))) y) (RR:=λB C=>compPost (model X.prog X.w) X.A X.xe (some (assign (.Name x c) X.env)) (λ_ p=>SP X f D .next p) B C) hc ok I2 u Bf T t0 f2 Y ht he hw λDa C p y q E l I'=>?_;obtain⟨m,E⟩:=E;show wpAny _ X.A (assign (.Name x c) X.env (.ref Da)) _ _ _;refine wpAny_assign_Name (uG I' U r W (show RelV (.ref Da) (.ref Da)from rfl) (?_) Z);rintro G L⟨a,sb,ha⟩;have M:C≠a:=by
  rcases ha with rfl|ha;.exact l.2.1
  .exact λz=>l.2.2.2.2.1 x a ha z.symm
 refine⟨m,E.sameBut sb M,λh' O=>⟨_,y,?_,q⟩⟩;exact L.turned (t':=G.toks) (λb o hb e=>O.extBut b o hb e) l.1 l.2.1 l.2.2.2.1 l.2.2.2.2.1 l.2.2.2.2.2
def adb(K:PySem.W.Frag)(c:TE):TI:=λσ H R=>c σ H λx b=>∃a,x=.ref a/\(((∃xs,gJ K b a xs)/\R (Uj K a) b)\/((∃xs,lR K b a xs)/\R (WR K a) b))
theorem vI{u l:Expr}{r:TE}(w:PE X l r):PI X u l (adb X.K r):=by
 intro f s σ H R I h;refine bV (w f s σ H _ I h) ?_;rintro v s1⟨x,t,c,r1,j⟩;obtain⟨a,e,j⟩:=j;subst e;cases r1;rcases j with⟨⟨xs,k⟩,q⟩|⟨⟨xs,k⟩,q⟩
 . obtain⟨i,y,p,hz⟩:=c.list k;refine wpAny_pyIter_list p.isList ?_;refine⟨s1.heap.objs.size,[s1.heap.objs.size],_,_,t,rfl,c.kept (t':=s1.toks) λb o e=>iK e,FW a _,⟨_,get?_push_size _ rfl,rfl,rfl⟩,λb m=>?_,q⟩;have e:b=s1.heap.objs.size:=by simpa using m
   subst e;exact c.GR (eY) (c.hok.fresh (eY))
 . obtain⟨i,y,p,hz⟩:=c.tuple k;refine wpAny_pyIter_tuple (show s1.heap.IsTuple a i.toArray from p) ?_;refine⟨s1.heap.objs.size,[s1.heap.objs.size],_,_,t,rfl,c.kept (t':=s1.toks) λb o e=>iK e,Az a _,⟨_,get?_push_size _ rfl,rfl,rfl⟩,λb m=>?_,q⟩;have e:b=s1.heap.objs.size:=by simpa using m
   subst e;exact c.GR (eY) (c.hok.fresh (eY))
end
end L2
end
section
namespace HH
open PySem L2 PySem.Spec PyProof.Rows
variable{v:V}{i m:Nat}{K:PySem.W.Frag}{F H:Hp}{ρ:List Sl}{σ:L2.St}{x:Str}{p':Pos}{is:List Nat}{ds:List D}{s:Shared}{A:Around}{u':Value}
structure Walk(K:PySem.W.Frag)(F:Hp)(ρ:List Sl)(σ:L2.St)(H:Hp)(ul:List Sl->List Sl)(J:It)(ds:List D)(F1:Hp)(ρ1:List Sl)(H1:Hp):Prop where
 gs:GS K F1 ρ1 σ H1
 src:∀(n k:Nat)(F':Hp)(ρ':List Sl)(σ':L2.St)(H':Hp),az K F1 (ρ1++replicate n .aN) (σ++replicate n none) H1 F' ρ' σ' H'->(∀d,ds[k]?=some d->J.go k H'/\∀x tO,J.O3 k H' x tO->∃F'',Ext F' H' F'' tO/\Rep K F'' x d)/\(ds.length<=k->J.stop k H')fin:∀F2 ρ2 σ2 H2,az K F1 ρ1 σ H1 F2 ρ2 σ2 H2->az K F ρ σ H F2 (ul ρ2) σ2 H2/\∀v r,cR K F2 ρ2 σ2 H2 ρ1 σ H1 v r->cR K F2 (ul ρ2) σ2 H2 ρ σ H v r
inductive tIt(K:PySem.W.Frag)(iv:Option Nat)(f:Ev)(σ:L2.St)(H:Hp)(R:It->Hp->Prop):Prop where|mk(F:Hp)(ρ:List Sl)(ds:List D)(ρ1:List Sl)(g:GS K F ρ σ H)(e:srcOf iv f ρ=.ok ds ρ1)(k:∀J F1 H1,Walk K F ρ σ H (bj ρ iv) J ds F1 ρ1 H1->R J H1)
section
variable{K:PySem.W.Frag}{F F1 H H1:Hp}{ρ ρ1:List Sl}{σ:L2.St}{ds:List D}{a:Addr}
theorem Dl{xs:List V}{f b:Hp}(g:lR K b a xs)(r:aF K f xs ds)(s:aJ f b)(k:Nat):(∀d,ds[k]?=some d->(WR K a).go k b/\∀x j,(WR K a).O3 k b x j->∃c,Ext f b c j/\Rep K c x d)/\(ds.length<=k->(WR K a).stop k b):=by refine⟨λd hd=>?_,λh=>⟨xs,g,by rw[r.length];exact h⟩⟩;obtain⟨w,h1,l⟩:=r.get hd;refine⟨⟨xs,w,g,h1⟩,?_⟩;rintro x j⟨e,y⟩;subst e;have:=y xs g;rw[h1]at this;cases this;exact⟨f,.refl s,l⟩
theorem rE{xs:List V}{f b:Hp}(g:gJ K b a xs)(r:aF K f xs ds)(s:aJ f b)(k:Nat):(∀d,ds[k]?=some d->(Uj K a).go k b/\∀x j,(Uj K a).O3 k b x j->∃c,Ext f b c j/\Rep K c x d)/\(ds.length<=k->(Uj K a).stop k b):=by refine⟨λd hd=>?_,λh=>⟨xs,g,by rw[r.length];exact h⟩⟩;obtain⟨w,h1,l⟩:=r.get hd;refine⟨⟨xs,w,g,h1⟩,?_⟩;rintro x j⟨e,y⟩;subst e;have:=y xs g;rw[h1]at this;cases this;exact⟨f,.refl s,l⟩
theorem xr{ul:List Sl->List Sl}{d:D}(s:az K F ρ σ H F1 ρ1 σ H1)(r:Rep K F1 v d)(hi:items d=some ds)(fin:∀f b c g,az K F1 ρ1 σ H1 f b c g->az K F ρ σ H f (ul b) c g/\∀v r,cR K f b c g ρ1 σ H1 v r->cR K f (ul b) c g ρ σ H v r):∃a,v=.ref a/\(((∃xs,gJ K H1 a xs)/\Walk K F ρ σ H ul (Uj K a) ds F1 ρ1 H1)\/((∃xs,lR K H1 a xs)/\Walk K F ρ σ H ul (WR K a) ds F1 ρ1 H1)):=by cases d with|tup es=>cases hi;rw[Rep]at r;obtain⟨a,xs,rfl,h1,h⟩:=r;exact⟨a,rfl,.inr ⟨⟨xs,aJ.jz s.gs.sub h1⟩,s.gs,λn k l j σ' o e=>Dl (aJ.jz e.gs.sub (aJ.jz e.cZ h1)) (h.mono e.cZ) e.gs.sub k,fin⟩⟩|lst es=>cases hi;rw[Rep]at r;obtain⟨a,xs,rfl,h1,h⟩:=r;exact⟨a,rfl,.inl ⟨⟨xs,s.gs.sub.seq h1⟩,s.gs,λn k l j σ' o e=>rE (e.gs.sub.seq (e.cZ.seq h1)) (h.mono e.cZ) e.gs.sub k,fin⟩⟩|_=>cases hi
theorem uO{ul:List Sl->List Sl}(g:GS K F ρ1 σ H)(e:ρ1[i]?=some (.lent ds))(fin:∀f b c h,az K F ρ1 σ H f b c h->az K F ρ σ H f (ul b) c h/\∀v r,cR K f b c h ρ1 σ H v r->cR K f (ul b) c h ρ σ H v r):∃a,σ[i]?=some (some (.ref a))/\(∃xs,gJ K H a xs)/\Walk K F ρ σ H ul (Uj K a) ds F ρ1 H:=by obtain⟨a,xs,h1,p,B,C⟩:=g.ud i _ ds e rfl;have hi:i<ρ1.length:=(fM e).1;refine⟨a,h1,⟨xs,gJ.of p⟩,g,λn k E q σ' G j=>?_,fin⟩;obtain⟨l,t,u,w⟩:=j.lk i _ (by rw[getElem?_append_left hi];exact e) rfl;cases(show t=.lent ds from w);rw[getElem?_append_left (by rw[<-g.len];exact hi),h1]at l;obtain⟨I,ys,o,y,J,z⟩:=j.gs.ud i _ ds u rfl;rw[l]at o;cases o;exact rE (gJ.of y) z j.gs.sub k
end
section
variable{X:Cx}{c:Call}{n:Nat}{e a b d tg:Expr}{p pa pb pd:P}{pos:Pos}
theorem rH{t t':TI}(h:PI X tg e t)(i:∀σ H R,t' σ H R->t σ H R):PI X tg e t':=λf s σ H R I q=>h f s σ H R I (i σ H R q)
def SI(X:Cx)(c:Call)(tg e:Expr)(p:P):Prop:=PI X tg e (tIt X.K (isVar p) (HH.ev c p))
theorem bH(h:SX X c e p):SI X c tg e p:=by unfold SI;cases hv:isVar p with|none=>refine rH (vI h.ev) ?_;rintro σ H R⟨F,ρ,ds,u,g,e,k⟩;obtain⟨r,f,L,t⟩:=aa e;have y:=aG t;clear t;obtain⟨t,B⟩:=y;subst B;refine⟨F,ρ,r,_,g,L,λv U W s C=>?_⟩;obtain⟨l,s2,_,M⟩:=s.dB C;obtain⟨a,E,G⟩:=xr (ul:=bj ρ none) s2 M t λY N O Z s3=>⟨s2.trans s3,λv r C=>C.later s2⟩;exact⟨a,E,G.imp (λ⟨z,w⟩=>⟨z,k _ _ _ w⟩) (λ⟨z,w⟩=>⟨z,k _ _ _ w⟩)⟩|some i=>
   refine rH (vI (h.var i hv)) ?_;rintro σ H R⟨F,ρ,ds,u,g,e,k⟩;unfold srcOf at e;dsimp only at e;split at e
   . rename_i b d q;have y:=aG e;clear e;obtain⟨t,B⟩:=y;subst B;obtain⟨v,h1,Q⟩:=g.val i b d q;have fin:∀l f j o,az X.K F ρ σ H l f j o->az X.K F ρ σ H l (bj ρ (some i) f) j o/\∀v r,cR X.K l f j o ρ σ H v r->cR X.K l (bj ρ (some i) f) j o ρ σ H v r:=λl f j o s=>by unfold bj;dsimp only;rw[q];exact⟨s,λ_ _ z=>z⟩
     obtain⟨a,E,G⟩:=xr (ul:=bj ρ (some i)) (.refl g) Q t fin;exact⟨v,h1,a,E,G.imp (λ⟨z,w⟩=>⟨z,k _ _ _ w⟩) (λ⟨z,w⟩=>⟨z,k _ _ _ w⟩)⟩
   . rename_i b I q;cases e;have hi:i<ρ.length:=(fM q).1;have fin:∀l f j o,az X.K F (ρ.set i (.lent ds)) σ H l f j o->az X.K F ρ σ H l (bj ρ (some i) f) j o/\∀v r,cR X.K l f j o (ρ.set i (.lent ds)) σ H v r->cR X.K l (bj ρ (some i) f) j o ρ σ H v r:=λl f j o s=>by unfold bj;dsimp only;rw[q];exact az.bj g q s
     obtain⟨a,h1,J,w⟩:=uO (ul:=bj ρ (some i)) (g.lend q) (getElem?_set_self hi) fin;exact⟨_,h1,a,rfl,.inl ⟨J,k _ _ _ w⟩⟩
   . rename_i I q;cases e;have fin:∀l f j o,az X.K F ρ σ H l f j o->az X.K F ρ σ H l (bj ρ (some i) f) j o/\∀v r,cR X.K l f j o ρ σ H v r->cR X.K l (bj ρ (some i) f) j o ρ σ H v r:=λl f j o s=>by unfold bj;dsimp only;rw[q];exact⟨s,λ_ _ z=>z⟩
     obtain⟨a,h1,J,w⟩:=uO (ul:=bj ρ (some i)) g q fin;exact⟨_,h1,a,rfl,.inl ⟨J,k _ _ _ w⟩⟩
   .cases e
theorem yj{F1 g:Hp}{f:List Sl}(s:az K F ρ σ H F1 f σ g)(i j:Int):Walk K F ρ σ H (bj ρ none) (Wm i (j-i).toNat) ((List.range (j-i).toNat).map λ(k:Nat)=>D.int (i+(k:Int))) F1 f g:=by
 refine⟨s.gs,λn k o q σ' G t=>⟨λd hd=>?_,λh=>?_⟩,λI u w J s3=>⟨s.trans s3,λv r y=>y.later s⟩⟩;.rw[getElem?_map]at hd;obtain⟨m,z,B⟩:=map_some hd;obtain⟨h1,l⟩:=fM z;rw[List.getElem_range]at l;subst l;subst B;rw[length_range]at h1;refine⟨h1,?_⟩;rintro x L⟨C,E⟩;subst C;subst E;exact⟨o,.refl t.gs.sub,bU _⟩
 .rw[length_map,length_range]at h;exact h
theorem oh(t:x="range")(u:Gl X x)(w:X.mg x=none)(y:SX X c a pa)(hs:starEach [a] X.env=[(false,eval a X.env)]:=by rfl):SI X c tg (.Call (.Name x p') [a] [] pos) (.wW (.con (.int 0)) pa):=by
 subst t;obtain⟨U,h1,z⟩:=y.cL;refine rH (uA u w (bD h1 dO hs) hs) ?_;rintro σ H R⟨F,ρ,ds,B,g,e,k⟩;obtain⟨r,C,q,h⟩:=aa e;have l:=aG h;clear h;obtain⟨h,E⟩:=l;subst E;rw[HH.E19]at q;obtain⟨W,G,I,f⟩:=aa q;have l:=aG f;clear f;obtain⟨f,J⟩:=l;subst J;obtain⟨Y,L,M,o⟩:=aa I;cases o;obtain⟨i,f1,f⟩:=bW f;obtain⟨j,f2,f⟩:=bW f;obtain⟨⟨b1,b2,b3,b4⟩,f⟩:=aY f;have f1:i=0:=by cases f1;rfl
 subst f1;subst f;cases h;cases cT f2;refine z g M λv N O s Q=>⟨j,by rw[Q.int],by omega,by omega,?_⟩;have:=yj s 0 j;rw[sub_zero]at this;refine k _ N O ?_;rw[sub_zero];exact this
theorem Bw(y:x="range")(z:Gl X x)(B:X.mg x=none)(C:SX X c a pa)(E:SX X c b pb)(hs:starEach [a,b] X.env=[(false,eval a X.env),(false,eval b X.env)]:=by rfl)(h:starEach [b] X.env=[(false,eval b X.env)]:=by rfl):SI X c tg (.Call (.Name x p') [a,b] [] pos) (.wW pa pb):=by subst y;obtain⟨Y,tb,h1,G,I⟩:=C.kj E;refine rH (Ej z B (bD h1 (bD G dO h) (by rw[hs,h])) hs h) ?_;rintro σ H R⟨F,ρ,ds,J,g,e,k⟩;obtain⟨r,L,o,l⟩:=aa e;have q:=aG l;clear l;obtain⟨l,M⟩:=q;subst M;rw[HH.E19]at o;obtain⟨Z,N,O,f⟩:=aa o;have q:=aG f;clear f;obtain⟨f,Q⟩:=q;subst Q;obtain⟨i,f1,f⟩:=bW f;obtain⟨j,f2,f⟩:=bW f;obtain⟨⟨b1,b2,b3,b4⟩,f⟩:=aY f;subst f;cases l;refine I g O λv u U W s t w=>⟨i,j,?_,by omega,k _ U W (yj s i j)⟩;have o:=cT f1;have l:=cT f2;rw[o]at t;rw[l]at w;rw[t.int,w.int]
end
section
variable{X:Cx}{c:Call}{n:Nat}{e a b d tg iter:Expr}{p pa pb pd:P}{pos:Pos}{body:List Stmt}{ss:List S}
def G7(K:PySem.W.Frag)(h:List Sl->D->Option (List Sl))(g:TG):Prop:=∀(x:V)(d:D)(F:Hp)(ρ f:List Sl)(σ:L2.St)(H:Hp)(Q:L2.St->Hp->Prop),GS K F ρ σ H->Rep K F x d->h ρ d=some f->(∀σ',az K F ρ σ H F f σ' H->Q σ' H)->g x σ H Q
theorem vY(i:Nat):G7 K (λρ d=>put ρ i (.val false d)) (j8 i):=λx d F ρ f σ H Q g r h k=>k _ (az.put (r:=.val d) (.refl g) r h)
theorem bF:∀(is:List Nat)(gs:Gm),(∀(xs:List V)(ds:List D)(F:Hp)(ρ f:List Sl)(σ:L2.St)(H:Hp)(Q:L2.St->Hp->Prop),GS K F ρ σ H->aF K F xs ds->putAll ρ is ds=some f->(∀σ',az K F ρ σ H F f σ' H->Q σ' H)->gs xs σ H Q)->∀i,∀(xs:List V)(ds:List D)(F:Hp)(ρ f:List Sl)(σ:L2.St)(H:Hp)(Q:L2.St->Hp->Prop),GS K F ρ σ H->aF K F xs ds->putAll ρ (i::is) ds=some f->(∀σ',az K F ρ σ H F f σ' H->Q σ' H)->JH (j8 i) gs xs σ H Q:=by intro is gs l i xs ds F ρ f σ H Q g r h k;cases ds with|nil=>simp[kE,jA,oF,oR]at h|cons d ds=>obtain⟨v,vs,rfl,h1,o⟩:=r.cI;rw[jA]at h;obtain⟨j,q,t⟩:=bW h;have s1:=az.put (r:=.val d) (.refl g) h1 q;refine⟨v,vs,rfl,l vs ds F j f _ H _ s1.gs o t λσ' s2=>k σ' (s1.trans s2)⟩
theorem fC:∀(xs:List V)(ds:List D)(F:Hp)(ρ f:List Sl)(σ:L2.St)(H:Hp)(Q:L2.St->Hp->Prop),GS K F ρ σ H->aF K F xs ds->putAll ρ [] ds=some f->(∀σ',az K F ρ σ H F f σ' H->Q σ' H)->Ux xs σ H Q:=by intro xs ds F ρ f σ H Q g r h k;cases ds with|nil=>rw[kE]at h;cases h;exact⟨r.gG,k σ (.refl g)⟩|cons d ds=>simp[kE,jA,oF,oR]at h
theorem mQ:∀{is:List Nat}{ds:List D}{ρ f:List Sl},putAll ρ is ds=some f->ds.length=is.length|[],[],_,_,_=>rfl|[],_::_,_,_,h=>by simp[kE,jA,oF,oR]at h|_::_,[],_,_,h=>by simp[kE,jA,oF,oR]at h|i::is,d::ds,ρ,f,h=>by rw[jA]at h;obtain⟨g,k,j⟩:=bW h;simp[mQ j]
theorem gW{gs:Gm}(o:m=is.length)(h:∀(xs:List V)(ds:List D)(F:Hp)(ρ f:List Sl)(σ:L2.St)(H:Hp)(Q:L2.St->Hp->Prop),GS K F ρ σ H->aF K F xs ds->putAll ρ is ds=some f->(∀σ',az K F ρ σ H F f σ' H->Q σ' H)->gs xs σ H Q):G7 K (λρ d=>cj ρ is false d) (Th K m gs):=by intro x d F ρ f σ H Q g r j k;replace j:cj ρ is false d=some f:=j;cases d with|tup ds=>replace j:putAll ρ is ds=some f:=j;rw[Rep]at r;obtain⟨a,xs,rfl,h1,l⟩:=r;exact⟨a,xs,rfl,aJ.jz g.sub h1,by rw[l.length,mQ j,o],h xs _ F ρ f σ H Q g l j k⟩|_=>cases j
theorem jt{g:TG}{one:Bool}(hp:PassesOwn (model X.prog X.w) X.A X.env X.xe)(hc:X.calm=true)(hi:SI X c tg iter p)(hg:PG X tg g)(Y:G7 X.K (λρ d=>cj ρ is one d) g)(hb:SB X c n body ss)(hs:∀x,foldedSetIterable iter X.env x=pure x:=by intro _;rfl):SS X c n (.For tg iter body [] pos) (.iB p is one ss):=by
 refine cP (zK hp hc hi hg hb hs) ?_;rintro D σ H⟨F,ρ,fl,q,g0,e,k⟩;rw[HH.X13]at e;obtain⟨ds,l,e1,e⟩:=aa e;obtain⟨ae,C,e2,e⟩:=aa e;cases e;refine⟨F,ρ,ds,l,g0,e1,λJ F1 Z w=>?_⟩;have src:∀(i:Nat)(N:Hp)(q:List Sl)(σ':L2.St)(h:Hp),az X.K F1 l σ Z N q σ' h->(∀d,ds[i]?=some d->J.go i h/\∀x tO,J.O3 i h x tO->∃E,Ext N h E tO/\Rep X.K E x d)/\(ds.length<=i->J.stop i h):=λi N q σ' h s=>w.src 0 i N q σ' h (by simpa using s);refine⟨λi m o O=>∃B f,az X.K F1 l σ Z B f o O/\m=ds.length-i/\i<=ds.length/\jq is one (fO c n ss) (ds.drop i) f=.ok fl C,⟨_,F1,l,.refl w.gs,rfl,uy,e2⟩,?_⟩;rintro i m o O⟨B,f,Q,rfl,af,j⟩;obtain⟨s1,s2⟩:=src i B f o O Q;by_cases t:i<ds.length
 . right;have hd:ds[i]?=some ds[i]:=by simp[t]
   obtain⟨go,step⟩:=s1 _ hd;refine⟨go,λσ' h=>∃m',m'<ds.length-i/\∃B f,az X.K F1 l σ Z B f σ' h/\m'=ds.length-(i+1)/\i+1<=ds.length/\jq is one (fO c n ss) (ds.drop (i+1)) f=.ok fl C,λσ' h z=>z,λx h y=>?_⟩;obtain⟨F2,ext,rx⟩:=step x h y;have G:=Q.trans (ext.stp Q.gs);rw[drop_eq_getElem_cons t,Ao]at j;cases hbd:cj f is one ds[i]with|none=>rw[hbd]at j;cases j|some I=>rw[hbd]at j;obtain⟨L,u,eb,j⟩:=aa j;refine Y x _ F2 f I o h _ G.gs rx hbd λag sb=>?_;have QZ:=G.trans sb;refine⟨F2,I,L,u,QZ.gs,eb,λU M H4 s4=>?_⟩;have W:=QZ.trans s4;cases L with|next=>exact⟨_,by omega,U,u,W,rfl,t,j⟩|cont=>exact⟨_,by omega,U,u,W,rfl,t,j⟩|brk=>cases j;exact k U M H4 (w.fin _ _ _ _ W).1|ret r=>cases j;intro v rr;obtain⟨z1,z2⟩:=w.fin _ _ _ _ W;exact k U M H4 z1 v (z2 v r (rr.later QZ))
 . left;have ac:ds.drop i=[]:=by rw[drop_eq_nil_iff];omega
   rw[ac,Jj]at j;cases j;exact⟨s2 (by omega),k B o O (w.fin _ _ _ _ Q).1⟩
theorem o9(i:Nat):(λ(ρ:List Sl)(d:D)=>cj ρ [i] true d)=λρ d=>put ρ i (.val false d):=by funext ρ d;rfl
theorem wj{f:Pos}(h:PassesOwn (model X.prog X.w) X.A X.env X.xe)(hc:X.calm=true)(j:X.N.Nodup)(g:X.N[i]?=some x)(k:Loc X.env.scope x)(hi:SI X c (.Name x f) iter p)(l:SB X c n body ss)(hs:∀x,foldedSetIterable iter X.env x=pure x:=by intro _;rfl)(o:X.fn x=true\/X.env.scope.names.lookup x=some .local:=by first|exact .inl rfl|exact .inr rfl|assumption):SS X c n (.For (.Name x f) iter body [] pos) (.iB p [i] true ss):=jt h hc hi (aD j g k o) (by rw[o9];exact vY i) l hs
theorem Bc(L:PassesOwn (model X.prog X.w) X.A X.env X.xe)(ht:ST X c e p)(M:SB X c n body ss):SS X c n (.While e body [] pos) (.whl p ss):=by refine cP (Hk L ht M) ?_;rintro D σ H⟨F,ρ,fl,o,g,e,k⟩;rw[HH.X14]at e;refine⟨λm j C=>∃q f,az X.K F ρ σ H q f j C/\rZ (iY (HH.ev c p)) (fO c n ss) m f=.ok fl o,⟨n,F,ρ,.refl g,e⟩,?_⟩;rintro m j C⟨q,f,E,h⟩;cases m with|zero=>rw[Vv]at h;cases h|succ m=>rw[Js]at h;obtain⟨b,t,O,h⟩:=aa h;refine⟨q,f,b,t,E.gs,O,λF1 Q s1=>?_⟩;have s2:=E.trans s1;cases b with|false=>rw[if_neg Bool.false_ne_true]at h;cases h;exact k F1 j Q s2|true=>rw[if_pos rfl]at h;obtain⟨u,l,U,h⟩:=aa h;refine(show ∃N:L2.St->Hp->Prop,_/\_ from⟨λσ' G=>∃I,I<m+1/\∃q f,az X.K F ρ σ H q f σ' G/\rZ (iY (HH.ev c p)) (fO c n ss) I f=.ok fl o,λσ' G z=>z,F1,t,u,l,s2.gs,U,λB y J s4=>?_⟩);have s5:=s2.trans s4;cases u with|next=>exact⟨m,by omega,B,l,s5,h⟩|cont=>exact⟨m,by omega,B,l,s5,h⟩|brk=>cases h;exact k B y J s5|ret r=>cases h;exact λv W=>k B y J s5 v (W.later s2)
end
section
variable{X:Cx}{c:Call}{n:Nat}{e elt tg iter:Expr}{p ps pe:P}{pos:Pos}{scope:Scope}{N':List Str}{ifs:List Expr}
theorem S6{t t':TE}(h:PE X e t)(i:∀σ H Q,σ.length=X.N.length->t' σ H Q->t σ H Q):PE X e t':=λa s σ H Q I q=>h a s σ H Q I (i σ H Q I.len q)
def pK(K:PySem.W.Frag)(m:Nat)(is:List Nat)(one:Bool)(g:TG):Prop:=∀(x:V)(d:D)(F:Hp)(ρ a:List Sl)(σ:L2.St)(H:Hp)(Q:L2.St->Hp->Prop),GS K F ρ σ H->Rep K F x d->cj ρ is one d=some a->(∀σ',az K F ρ σ H F a σ' H->σ'.take m=σ.take m->Q σ' H)->g x σ H Q
theorem take_set{b:Type}{l:List b}{a:b}(h:m<=i):(l.set i a).take m=l.take m:=by rw[List.take_set_of_le h]
theorem fG(h:m<=i):pK K m [i] true (j8 i):=λx d F ρ a σ H Q g r b k=>k _ (az.put (r:=.val d) (.refl g) r b) (take_set h)
def Nr(K:PySem.W.Frag)(m:Nat)(is:List Nat)(gs:Gm):Prop:=∀(xs:List V)(ds:List D)(F:Hp)(ρ a:List Sl)(σ:L2.St)(H:Hp)(Q:L2.St->Hp->Prop),GS K F ρ σ H->aF K F xs ds->putAll ρ is ds=some a->(∀σ',az K F ρ σ H F a σ' H->σ'.take m=σ.take m->Q σ' H)->gs xs σ H Q
theorem cW{gs:Gm}(hi:m<=i)(f:Nr K m is gs):Nr K m (i::is) (JH (j8 i) gs):=by intro xs ds F ρ a σ H Q g r h k;cases ds with|nil=>simp[kE,jA,oF,oR]at h|cons d ds=>obtain⟨v,vs,rfl,h1,j⟩:=r.cI;rw[jA]at h;obtain⟨b,l,o⟩:=bW h;have s1:=az.put (r:=.val d) (.refl g) h1 l;exact⟨v,vs,rfl,f vs ds F b a _ H _ s1.gs j o λσ' s2 z=>k σ' (s1.trans s2) (z.trans (take_set hi))⟩
theorem lu:Nr K m [] Ux:=by intro xs ds F ρ a σ H Q g r h k;cases ds with|nil=>rw[kE]at h;cases h;exact⟨r.gG,k σ (.refl g) rfl⟩|cons d ds=>simp[kE,jA,oF,oR]at h
theorem lB{gs:Gm}{l:Nat}(o:l=is.length)(h:Nr K m is gs):pK K m is false (Th K l gs):=by intro x d F ρ b σ H Q g r f k;cases d with|tup ds=>replace f:putAll ρ is ds=some b:=f;rw[Rep]at r;obtain⟨a,xs,rfl,h1,j⟩:=r;exact⟨a,xs,rfl,aJ.jz g.sub h1,by rw[j.length,mQ f,o],h xs _ F ρ b σ H Q g j f k⟩|_=>cases f
def SQ(X:Cx)(c:Call)(ifs:List Expr)(t:Option P):Prop:=Ub X ifs (GZ X.K (wN c t))
theorem dg:SQ X c [] none:=λa s σ H Q I⟨F,ρ,k,ρ',g,e,q⟩=>by rw[wN]at e;cases e;exact NT a s σ H Q I (q F H (.refl g))
theorem Ln(h:ST X c e p):SQ X c [e] (some p):=λa s σ H Q I⟨F,ρ,k,ρ',g,e,q⟩=>by rw[wN]at e;exact M4 h a s σ H Q I ⟨F,ρ,k,ρ',g,e,q⟩
theorem az.Jw{F1 j:Hp}{f:List Sl}{g:L2.St}{Da:Addr}{o:HO}(s:az K F ρ σ H F1 f g j)(h:H Da=none)(q:F1 Da=none)(ho:¬ Own f g Da):az K F ρ σ H F1 f g (upd j Da o):=by
 refine⟨⟨λb u e=>?_,s.gs.len,s.gs.val,λi t ds e k=>?_,s.gs.dis⟩,s.cZ,s.xj,λb u e n=>?_,s.xm,s.len,s.lk⟩
 . have:b≠Da:=by rintro rfl;rw[q]at e;cases e
   rw[aA this];exact s.gs.sub b u e
 . obtain⟨a,xs,l,r,w,y⟩:=s.gs.own i t ds e k;have:a≠Da:=by rintro rfl;exact ho ⟨i,⟨t,ds,e,k⟩,l⟩
   exact⟨a,xs,l,by rw[aA this];exact r,w,y⟩
 . have:b≠Da:=by rintro rfl;rw[h]at e;cases e
   rw[aA this];exact s.keep b u e n
theorem HY{b r:List Sl}{ul:List Sl->List Sl}{ti:TI}{one:Bool}{u:List Sl->Res Bool}{el:Ev}{g:TG}{Q:VK}{xs:List D}(hm:σ.length=m)(ah:pK K m is one g)(ai:∀R:It->Hp->Prop,(∀J F1 W,Walk K F ρ σ H ul J ds F1 b W->R J W)->ti σ H R)(ap:ds.length<=lim)(e2:turns is one u el ds [] (b++replicate n .aN)=.ok xs r)(k:∀v F' H',az K F ρ σ H F' (ul (r.take b.length)) σ H'->cR K F' (ul (r.take b.length)) σ H' ρ σ H v (.own xs)->Q v H'):uR n ti g (GZ K u) (xW K el) σ H Q:=by
 refine ai _ λJ F1 W w Da O=>?_;have al:b.length=σ.length:=w.gs.len;have gm:=w.gs.more (n:=n) (τ:=replicate n none) (by simp);have fD:F1 Da=none:=by cases q:F1 Da with|none=>rfl|some o=>rw[w.gs.sub Da o q]at O;cases O
 have nO:¬ Own (b++replicate n .aN) (σ++replicate n none) Da:=λ⟨i,⟨t,dt,q1,q2⟩,q3⟩=>by obtain⟨a,ys,z1,z2,_⟩:=gm.own i t dt q1 q2;rw[q3]at z1;cases z1;rw[O]at z2;cases z2
 refine⟨λi mm ys f G=>∃E h l,az K F1 (b++replicate n .aN) (σ++replicate n none) W E h f G/\f.take m=σ/\G Da=some (.lst ys)/\E Da=none/\¬ Own h f Da/\aF K E ys l/\l.length<=i/\mm=ds.length-i/\i<=ds.length/\turns is one u el (ds.drop i) l h=.ok xs r,⟨_,F1,_,[],(az.refl gm).Jw O fD nO,by rw[List.take_append_of_le_length (by omega),List.take_of_length_le (by omega)],aL,fD,nO,.nil,uy,rfl,uy,e2⟩,?_⟩;rintro i mm ys f G⟨E,h,l,Y,I,Z,hF,hO,rs,ar,rfl,av,j⟩;refine⟨Z,?_⟩--what stays of the new list through a step
 have stay:∀{L U:Hp}{M:List Sl}{B:L2.St},az K E h f G L M B U->U Da=some (.lst ys)/\L Da=none/\¬ Own M B Da:=λ{L U M B}s=>by
  refine⟨s.keep Da _ Z hO,?_,λo=>?_⟩;.cases q:L Da with|none=>rfl|some o=>
      rcases s.xj Da hF (by rw[q];simp)with z|z;.exact absurd z hO
      .exact(JV Z z).elim
  . rcases s.xm Da o with z|z;.exact hO z
    .rw[Z]at z;cases z
 obtain⟨s1,s2⟩:=w.src n i E h f G Y;by_cases C:i<ds.length
 . right;have hd:ds[i]?=some ds[i]:=by simp[C]
   obtain⟨go,step⟩:=s1 _ hd;refine⟨go,λx U y=>?_⟩;obtain⟨L,ext,rx⟩:=step x U y;have t2:=ext.stp Y.gs;rw[drop_eq_getElem_cons C,J6]at j;cases hbd:cj h is one ds[i]with|none=>rw[hbd]at j;cases j|some ac=>rw[hbd]at j;obtain⟨bb,N,eb,j⟩:=aa j;refine ah x _ L h ac f U _ t2.gs rx hbd λB sb ae=>?_;have t3:=t2.trans sb;refine⟨L,ac,bb,N,t3.gs,eb,λF4 H4 s4=>?_⟩;have t4:=t3.trans s4;cases bb with|false=>rw[if_neg Bool.false_ne_true]at j;obtain⟨y1,y2,y3⟩:=stay t4;exact⟨_,by omega,F4,N,l,Y.trans t4,ae.trans I,y1,y2,y3,rs.mono t4.cZ,by omega,rfl,C,j⟩|true=>
       rw[if_pos rfl]at j;obtain⟨re,af,ee,j⟩:=aa j;refine(show xW K el B H4 _ from⟨F4,N,re,af,t4.gs,ee,λv F5 H5 s5 rr=>?_⟩);obtain⟨F6,s6,_,rp⟩:=s5.dB rr;have t6:=t4.trans s6;obtain⟨y1,y2,y3⟩:=stay t6;have ag:ys.length<sizeLine:=by have h1:=rs.length;have h2:lim=sizeLine:=rfl;omega
       exact⟨y1,ag,_,by omega,F6,af,l++[re.d],(Y.trans t6).Jw O y2 y3,ae.trans I,aL,y2,y3,(rs.mono t6.cZ).append (.cons rp .nil),by simp;omega,rfl,C,j⟩
 . left;have am:ds.drop i=[]:=by rw[drop_eq_nil_iff];omega
   rw[am,Ii]at j;cases j;refine⟨s2 (by omega),?_⟩;obtain⟨l1,l2⟩:=az.less (m:=b.length) rfl w.gs (by simp) Y;have hst:f.take b.length=σ:=by rw[al,hm];exact I
   rw[hst]at l1;have rr:cR K E r f G (b++replicate n .aN) (σ++replicate n none) W (.ref Da) (.own xs):=⟨Da,ys,rfl,Z,hF,rs,hO,.inr O⟩;have Q0:=l2 _ _ rr;rw[hst]at Q0;obtain⟨z1,z2⟩:=w.fin _ _ _ _ l1;exact k _ E G z1 (z2 _ _ Q0)
theorem Lx{iv:Option Nat}{f:Ev}{one:Bool}{b:List Sl->Res Bool}{w:Ev}{g:TG}{Q:VK}{r:R}{j:List Sl}(z:σ.length=m)(q:pK K m is one g)(B:GS K F ρ σ H)(e:((srcOf iv f ρ).bind λds a=>if ds.length<=lim then(turns is one b w ds [] (a++replicate n .aN)).bind λxs l=>Res.ok (R.own xs) (bj ρ iv (l.take a.length))else .stuck)=.ok r j)(k:∀v y t,az K F ρ σ H y j σ t->cR K y j σ t ρ σ H v r->Q v t):uR n (tIt K iv f) g (GZ K b) (xW K w) σ H Q:=by
 obtain⟨ds,u,C,e⟩:=aa e;split at e;.rename_i o;obtain⟨xs,E,G,e⟩:=aa e;cases e;exact HY z q (λR h=>⟨F,ρ,ds,u,B,C,h⟩) o G k
 .cases e
theorem dM{g:TG}{one:Bool}{t:Option P}(hc:X.calm=true)(ok:gC X scope N' n)(hi:SI X c tg iter ps)(b:∀cl C s₀ H₀ ex,PG (uI X scope N' cl C s₀ H₀ ex) tg g)(a:pK X.K X.N.length is one g)(ht:∀cl C s₀ H₀ ex,SQ (uI X scope N' cl C s₀ H₀ ex) c ifs t)(he:∀cl C s₀ H₀ ex,SX (uI X scope N' cl C s₀ H₀ ex) c elt pe)(hs:∀x,foldedSetIterable iter X.env x=pure x:=by intro _;rfl):SX X c (.ListComp elt [⟨tg,iter,ifs,0⟩] scope pos) (.comp ps n is one t pe):=by refine⟨S6 (CJ (tt:=GZ X.K (wN c t)) (te:=xW X.K (HH.ev c pe)) hc ok hi b ht (λcl C s₀ H₀ ex=>(he cl C s₀ H₀ ex).ev) hs) ?_,λi h=>by cases h⟩;rintro σ H Q f⟨F,ρ,r,j,l,e,k⟩;rw[HH.E18]at e;exact Lx f a l e k
end
section
variable{X:Cx}{c:Call}{n:Nat}{e a b d:Expr}{p pa pb pd:P}{pos:Pos}{es:List Expr}{ps:List P}
noncomputable def tyN:D->String|.non=>"NoneType"|.bl _=>"bool"|.int _=>"int"|.str _=>"str"|.tup _=>"tuple"|.lst _=>"list"|.dH _=>"dict"|.dv _ _=>"dict"
noncomputable def Zc:Ty->String|.none=>"NoneType"|.bool=>"bool"|.int=>"int"|.str=>"str"|.tuple=>"tuple"|.list=>"list"
theorem Yp(K:PySem.W.Frag)(t:Ty)(d:D):kitOne K (.type (tyN d)) (.type (Zc t))=some (cF t d):=by cases t<;>cases d<;>rfl
theorem Zz{k:List (Addr×Obj)}{x:V}{u:Value}{dt:D}(I:L2.Inv X k σ H s)(sm:aJ F H)(g:dm X.K F H x dt)(f:RelV x u):(∃r,KitX X.K u (.type (tyN dt)) r/\r s.heap)/\u≠.builtin "__main__.__loader__#opaque":=by cases dt with|non=>rw[g.non]at f;cases f;exact⟨⟨_,PySem.W.kitx_none,trivial⟩,nofun⟩|bl y=>rw[g.bl]at f;cases f;exact⟨⟨_,PySem.W.kitx_bool,trivial⟩,nofun⟩|int i=>rw[g.int]at f;obtain⟨t,rfl⟩:=f;exact⟨⟨_,PySem.W.kitx_int,trivial⟩,nofun⟩|str y=>rw[g.str]at f;obtain⟨t,rfl⟩:=f;exact⟨⟨_,PySem.W.kitx_str,trivial⟩,nofun⟩|tup ds=>obtain⟨q,xs,rfl,h,_⟩:=g.tup sm;cases f;obtain⟨l,_,⟨o,h1,j,_⟩,_⟩:=I.tuple h;exact⟨⟨_,PySem.W.kitx_tuple,⟨o,h1,j⟩⟩,nofun⟩|lst ds=>obtain⟨q,xs,rfl,h,_⟩:=g.lst sm;cases f;obtain⟨l,_,w,_⟩:=I.list h;obtain⟨o,h1,j,_⟩:=w.isList;exact⟨⟨_,PySem.W.kitx_list,⟨o,h1,j⟩⟩,nofun⟩|dH m=>obtain⟨q,_,rfl,h⟩:=g.dH sm;cases f;obtain⟨o,h1,j⟩:=Jo I h;exact⟨⟨_,kitx_dict,⟨o,h1,j⟩⟩,nofun⟩|dv ks ds=>obtain⟨q,_,vs,rfl,h,_⟩:=g.dv sm;cases f;obtain⟨o,h1,j⟩:=Jy I h;exact⟨⟨_,kitx_dict,⟨o,h1,j⟩⟩,nofun⟩
theorem Sd(t:Ty):dU X (.builtin "isinstance") (λxs H Q=>∃x F dt,xs=[x,.ty (Zc t)]/\aJ F H/\dm X.K F H x dt/\Q (.bl (cF t dt)) H):=by rintro g s σ H xs o Q I r⟨x,F,dt,h,sm,j,q⟩;subst h;obtain⟨u,k,rfl,l,rt⟩:=r.two;cases(show k=Value.type (Zc t)from rt);obtain⟨⟨w,Z,hz⟩,f⟩:=Zz I sm j l;exact kia_one Z I.MP hz (Yp _ t dt) f λtk=>⟨.bl _,H,I.tok tk,rfl,q⟩
theorem qZ:bootBuiltins "isinstance"=some (.builtin "isinstance"):=by decide+kernel
theorem nJ{y:Str}{p2:Pos}(t:Ty)(u:x="isinstance")(w:Gl X x)(z:X.mg x=none)(B:SX X c a pa)(f:Gl X y)(j:X.mg y=none)(C:bootBuiltins y=some (.type (Zc t)))(l:y≠"__name__":=by decide)(o:(y==("__debug__":Str))=false:=by decide)(hs:starEach [a,.Name y p2] X.env=(false,eval a X.env)::starEach [.Name y p2] X.env:=by rfl):SX X c (.Call (.Name x p') [a,.Name y p2] [] pos) (.inst [t] pa):=by subst u;obtain⟨N,h1,E⟩:=B.cL;refine⟨du (dD (Sd t) w z qZ (bD h1 (bD (CV (v:=.ty (Zc t)) f j C rfl l o) dO) hs) (he:=hs)) ?_,λi h=>by cases h⟩;rintro σ H Q⟨F,ρ,r,G,g,e,k⟩;rw[HH.E17]at e;obtain⟨dt,I,J,e⟩:=aa e;cases e;refine E g J λv q L s M=>⟨v,q,dt,rfl,s.gs.sub,M,k _ q L s ?_⟩;show Rep X.K q _ _;rw[any_cons,List.any_nil,Bool.or_false];exact gH _
inductive rBn(K:PySem.W.Frag)(f:List D->Option R)(xs:List V)(H:Hp)(Q:VK):Prop where|mk(F:Hp)(ds:List D)(r:R)(sm:aJ F H)(rs:aF K F xs ds)(he:f ds=some r)(k:∀v F' H',Ext F H F' H'->cB K F' H' H v r->Q v H')
theorem QB{E:Expr}{f:List D->Option R}{q:P}(o:∀{t},PA X es t->PE X E (tCB (rBn X.K f) t))(u:SA X c es ps)(y:∀ρ,HH.ev c q ρ=(evs c ps ρ).bind λds ρ=>lift (f ds) ρ)(z:isVar q=none):SX X c E q:=by refine⟨du (o u.1) ?_,λi h=>by rw[z]at h;cases h⟩;rintro σ H Q⟨F,ρ,r,B,g,e,k⟩;rw[y]at e;obtain⟨ds,l,C,j⟩:=aa e;have G:=aG j;clear j;obtain⟨j,I⟩:=G;subst I;exact⟨F,ρ,ds,l,g,C,λvs J U s L=>⟨J,ds,r,s.gs.sub,L,j,λw M N x O=>k w M N (s.trans (x.stp s.gs)) (.later s (O.qU s.gs))⟩⟩
theorem QK{xs:List V}{i j:Int}(h:aF K F xs [.int i,.int j]):xs=[.int i,.int j]:=by obtain⟨v,r,rfl,h1,g⟩:=h.cI;obtain⟨u,l,rfl,f,k⟩:=g.cI;rw[Rep]at h1 f;rw[h1,f,k.gG]
theorem inv2{f:Zb}{g:Int->Int->Int}{r:R}(h0:blt f []=none)(h1:∀a,blt f [a]=none)(o:∀a b c l,blt f (a::b::c::l)=none)(q:∀a b,ig a=false->blt f [a,b]=none)(t:∀i b,ig b=false->blt f [.int i,b]=none)(hi:∀i j,blt f [.int i,.int j]=some (.val (.int (g i j))))(he:blt f ds=some r):∃i j,ds=[.int i,.int j]/\r=.val (.int (g i j)):=by
 rcases ds with _|⟨a,_|⟨b,_|⟨c,l⟩⟩⟩;.rw[h0]at he;cases he
 .rw[h1]at he;cases he
 . by_cases h:ig a=true
   . obtain⟨i,rfl⟩:∃i,a=.int i:=by cases a<;>first|exact⟨_,rfl⟩|cases h
     by_cases k:ig b=true
     . obtain⟨j,rfl⟩:∃j,b=.int j:=by cases b<;>first|exact⟨_,rfl⟩|cases k
       rw[hi]at he;cases he;exact⟨i,j,rfl,rfl⟩
     .rw[t i b (by simpa using k)]at he;cases he
   .rw[q a b (by simpa using h)]at he;cases he
 .rw[o]at he;cases he
theorem UT(hc:X.calm=true):dU X (.builtin "min") (rBn X.K (blt .min2)):=by rintro f s σ H xs o Q I r⟨F,ds,t,sm,q,he,k⟩;obtain⟨i,j,rfl,rfl⟩:=inv2 (g:=λi j=>if j<i then j else i) rfl (λa=>by cases a<;>rfl) (λa b c l=>by cases a<;>first|rfl|(cases b<;>rfl)) (λa b h=>by cases a<;>first|rfl|cases h) (λi b h=>by cases b<;>first|rfl|cases h) (λ_ _=>rfl) he;rw[QK q]at r;exact Em hc f s σ H _ o Q I r ⟨_,_,rfl,cB.cY sm (bU _) k⟩
theorem Vh(hc:X.calm=true):dU X (.builtin "max") (rBn X.K (blt .max2)):=by rintro f s σ H xs o Q I r⟨F,ds,t,sm,q,he,k⟩;obtain⟨i,j,rfl,rfl⟩:=inv2 (g:=λi j=>if i<j then j else i) rfl (λa=>by cases a<;>rfl) (λa b c l=>by cases a<;>first|rfl|(cases b<;>rfl)) (λa b h=>by cases a<;>first|rfl|cases h) (λi b h=>by cases b<;>first|rfl|cases h) (λ_ _=>rfl) he;rw[QK q]at r;exact Ec hc f s σ H _ o Q I r ⟨_,_,rfl,cB.cY sm (bU _) k⟩
theorem boot_min:bootBuiltins "min"=some (.builtin "min"):=by decide+kernel
theorem boot_max:bootBuiltins "max"=some (.builtin "max"):=by decide+kernel
theorem iM(f:x="min")(hc:X.calm=true)(g:Gl X x)(j:X.mg x=none)(k:SA X c [a,b] [pa,pb])(hs:starEach [a,b] X.env=(false,eval a X.env)::starEach [b] X.env:=by rfl)(hpl:(backTo pos (starEach [b] X.env)).any (·.1)=false:=by rfl):SX X c (.Call (.Name x p') [a,b] [] pos) (.blt .min2 [pa,pb]):=by subst f;exact QB (λh=>dD (UT hc) g j boot_min h (he:=hs) (hpl:=hpl)) k (λρ=>rfl) rfl
theorem qx(f:x="max")(hc:X.calm=true)(g:Gl X x)(j:X.mg x=none)(k:SA X c [a,b] [pa,pb])(hs:starEach [a,b] X.env=(false,eval a X.env)::starEach [b] X.env:=by rfl)(hpl:(backTo pos (starEach [b] X.env)).any (·.1)=false:=by rfl):SX X c (.Call (.Name x p') [a,b] [] pos) (.blt .max2 [pa,pb]):=by subst f;exact QB (λh=>dD (Vh hc) g j boot_max h (he:=hs) (hpl:=hpl)) k (λρ=>rfl) rfl
end
section
variable{X:Cx}{c:Call}{n:Nat}{e a b d:Expr}{p pa pb pd:P}{pos:Pos}{es:List Expr}{ps:List P}
theorem CW(g:GS K F ρ σ H)(h:Gu ρ i=some ds):∃a xs,σ[i]?=some (some (V.ref a))/\gJ K H a xs:=by
 unfold Gu at h;split at h;.rename_i q;cases h;obtain⟨v,h1,f⟩:=g.pk q;obtain⟨a,xs,rfl,j,_⟩:=f.lst g.sub;exact⟨a,xs,h1,j⟩
 .cases h
theorem wO{k:Nat}{h f:Pos}(I:X.N[k]?=some x)(J:uX X.env.scope x)(hi:SX X c b pb)(he:SX X c e p)(L:∀ v,assign (.Subscript (.Name x h) b f) X.env v=(do
  let l<-holding [v] (eval (.Name x h) X.env)let iv<-holding [v,l] (eval b X.env)standAt f
  holding [v,l,iv] (setItem l iv v)release [v,l,iv] []):=by intro _;rfl)(hs:swapsWithSole [.Subscript (.Name x h) b f] e pos.line X.env=pure false:=by rfl)(M:swappedStores [.Subscript (.Name x h) b f] e X.env=pure none:=by rfl)(h1:(assignEach [.Subscript (.Name x h) b f] X.env).map (·.2)=[assign (.Subscript (.Name x h) b f) X.env]:=by rfl)(hd:(x==("__debug__":Str))=false:=by decide)(u:(x==("__classdict__":Str))=false:=by decide):SS X c n (.Assign [.Subscript (.Name x h) b f] e pos) (.Gf k pb p):=by
 obtain⟨ti,w,y⟩:=hi.cL;refine cP (RK he.ev (Rg (eX I J hd u) w set_list L) hs M h1) ?_;rintro D σ H⟨F,ρ,fl,O,g,e,kk⟩;rw[HH.X8]at e;obtain⟨r,z,Q,e⟩:=aa e;obtain⟨x0,C,t,e⟩:=aa e;have U:=aG t;clear t;obtain⟨t,W⟩:=U;subst W;obtain⟨dk,Y,Z,e⟩:=aa e;refine⟨F,ρ,r,z,g,Q,λv F1 H1 s1 rr=>?_⟩;obtain⟨F2,s2,_,rp⟩:=s1.dB rr;obtain⟨o,ho,_⟩:=s2.gs.pk t;refine⟨o,ho,y s2.gs Z λvi F3 H3 s3 pi=>?_⟩;split at e
 . rename_i bb ds B q;split at e;.rename_i j hj;cases e;obtain⟨ad,xs,E,q2,q3,G⟩:=s3.gs.ud k _ ds q rfl;rw[ho]at E;cases E;refine⟨ad,xs,B,j,rfl,pi.int,q2,by rw[G.length];exact hj,?_⟩;exact kk F3 σ _ ((s2.trans s3).trans (s3.gs.mut q ho (G.set (rp.mono s3.cZ) j)))
   .cases e
 .cases e
theorem cQ{k:Nat}{l f cpos:Pos}(E:X.N[k]?=some x)(G:uX X.env.scope x)(he:SX X c e p)(h:(f.endLine==cpos.line)=true:=by rfl)(hs:starEach [e] X.env=(false,eval e X.env)::starEach [] X.env:=by rfl)(j:attributeBase (.Name x l) "append" X.env (eval (.Name x l) X.env)=eval (.Name x l) X.env:=by rfl)(o:((backTo cpos (starEach [e] X.env)).all (λx=>!x.1)&&(backToKw cpos (keywordEach [] X.env)).all (λx=>x.1.isSome)&&decide ([e].length+([]:List Keyword).length+(if([]:List Keyword).isEmpty then 0 else 1)<30))=true:=by rfl)(u:swapsWith (.Call (.Attribute (.Name x l) "append" f) [e] [] cpos) none pos.line X.env=pure false:=by rfl)(hd:(x==("__debug__":Str))=false:=by decide)(w:(x==("__classdict__":Str))=false:=by decide):SS X c n (.Expr (.Call (.Attribute (.Name x l) "append" f) [e] [] cpos) pos) (.app k p):=by
 refine cP (Bx (Qo PySem.F.plainAttrs_list PySem.F.slot_list_append PySem.F.type_list_append pg (eX E G hd w) (bD he.ev dO hs) j o h hs) u) ?_;rintro D σ H⟨F,ρ,fl,I,g,e,kk⟩;rw[HH.X9]at e;obtain⟨d0,J,t,e⟩:=aa e;have L:=aG t;clear t;obtain⟨t,M⟩:=L;subst M;obtain⟨r,y,O,e⟩:=aa e;obtain⟨a,xs,h1,Q⟩:=CW g t;refine⟨.ref a,h1,.inl ⟨rfl,xs,Q⟩,F,ρ,r,y,g,O,λv F1 H1 s1 U=>?_⟩;obtain⟨W,s2,_,Y⟩:=s1.dB U;split at e
 . rename_i bb ds q;split at e;.rename_i z;cases e;obtain⟨ad,ys,B,Z,q3,C⟩:=s2.gs.ud k _ ds q rfl;rw[h1]at B;cases B;exact⟨_,ys,v,rfl,rfl,Z,by rw[C.length];exact z,kk W σ _ (s2.trans (s2.gs.mut q h1 (C.append (.cons Y .nil))))⟩
   .cases e
 .cases e
theorem R8{j:Nat}{y:Str}{l o pt:Pos}{kt k2 Vz}(hc:X.calm=true)(C:X.N.Nodup)(hi:X.N[i]?=some x)(E:X.N[j]?=some y)(q:i≠j)(G:X.env.scope.names.lookup x=some .local)(I:X.env.scope.names.lookup y=some .local)(J:SX X c a pa)(L:SX X c b pb)(M:swappedStores [.Tuple [.Name x l,.Name y o] kt pt] (.Tuple [a,b] k2 Vz) X.env=pure (some [x,y]):=by rfl)(hs:swapsWithSole [.Tuple [.Name x l,.Name y o] kt pt] (.Tuple [a,b] k2 Vz) pos.line X.env=pure false:=by rfl)(h1:starEach [a,b] X.env=(false,eval a X.env)::starEach [b] X.env:=by rfl)(O:starEach [b] X.env=(false,eval b X.env)::starEach [] X.env:=by rfl):SS X c n (.Assign [.Tuple [.Name x l,.Name y o] kt pt] (.Tuple [a,b] k2 Vz) pos) (.par i j pa pb):=by refine cP (L2.Vx hc C hi E q G I (bD J.ev (bD L.ev dO O) h1) M hs) ?_;rintro D σ H⟨F,ρ,fl,Q,g,e,k⟩;rw[HH.X7]at e;obtain⟨r,f,U,e⟩:=aa e;obtain⟨B,t,W,e⟩:=aa e;obtain⟨Y,Z,h,e⟩:=aa e;cases e;have zz:=aG h;clear h;obtain⟨h,e4⟩:=zz;obtain⟨ac,e5,e6⟩:=bW h;refine⟨F,ρ,r,f,g,U,λv F1 H1 s1 rr=>?_⟩;obtain⟨F2,s2,_,rp⟩:=s1.dB rr;refine⟨F2,f,B,t,s2.gs,W,λu F3 H3 s3 w=>?_⟩;obtain⟨F4,s4,_,z⟩:=s3.dB w;refine⟨v,u,rfl,?_⟩;have t4:=s2.trans s4;have t5:=t4.put (r:=.val r.d) (v:=v) (rp.mono s4.cZ) e5;exact k F4 _ H3 (t5.put (r:=.val B.d) (v:=u) z e6)
theorem J2{bs:List Bool}(h:ds.mapM zc=some bs):ds=bs.map D.bl:=by induction ds generalizing bs with|nil=>simp at h;subst h;rfl|cons d ds f=>rw[List.mapM_cons]at h;cases hd:zc d with|none=>rw[hd]at h;cases h|some k=>rw[hd]at h;cases hr:ds.mapM zc with|none=>rw[hr]at h;cases h|some r=>rw[hr]at h;cases h;rw[map_cons,<-f hr,qR hd]
theorem Dy{K:PySem.W.Frag}{F:Hp}:∀{bs:List Bool}{xs:List V},aF K F xs (bs.map D.bl)->xs=bs.map V.bl|[],_,h=>h.gG|k::bs,_,h=>by obtain⟨v,r,rfl,h1,f⟩:=h.cI;rw[Rep]at h1;rw[h1,Dy f];rfl
theorem BR:∀{bs:List Bool}{f:List Value},Vals (bs.map V.bl) f->f=bs.map Value.bool|[],_,h=>h.zero|k::bs,_,.cons r t=>by rw[map_cons,<-BR t,show _=_ from r]
theorem LC{id:String}{f:List Bool->Bool}(hc:X.calm=true)(rule:∀{x:Value}{Q:Value->Shared->Prop}{s:Shared},wpAny (model X.prog X.w) X.A.in1 (pyIter x) (λit g=>∃ I E t n P St y,it=.ref I/\Walks X.prog X.w X.A.in1 I E t n P St/\St 0 g.heap/\TruthOf X.prog X.w X.A.in1 P y/\∀h' tk,(∀b o,b∉t->g.heap.get? b=some o->h'.get? b=some o)->Q (.bool (f ((List.range n).map y))) {g with heap:=h',toks:=tk}) X.xe s->wpAny (model X.prog X.w) X.A (call (.builtin id) [x]) Q X.xe s):dU X (.builtin id) (λxs H Q=>∃p ys bs,xs=[.ref p]/\gJ X.K H p ys/\ys=bs.map V.bl/\Q (.bl (f bs)) H):=by
 rintro B s σ H xs us Q I r⟨p,ys,bs,G,J,L,k⟩;subst G;subst L;obtain⟨u,rfl,M⟩:=r.one;cases M;obtain⟨N,O,l,hz⟩:=I.list J;have h:=BR O;subst h;refine rule (wpAny_pyIter_list l.isList ?_);have q:p≠s.heap.objs.size:=by obtain⟨o,h1,_⟩:=l.isList;exact ne_of_lt (lt_size h1)
 refine⟨s.heap.objs.size,_,_,_,_,_,λi=>bs.getD i false,rfl,Walks.list (prog:=X.prog) (w:=X.w) (A:=X.A.in1) (show X.A.in1.handled=none from I.ok.hd hc) s.heap.objs.size p q (bs.map Value.bool).toArray,⟨⟨_,get?_push_size _ rfl,rfl,rfl⟩,?_⟩,?_,λh' tk kp=>?_⟩;.obtain⟨o,h1,C⟩:=l.isList;exact⟨o,iK h1,C⟩
 . intro i v s' Q' E' j U;have W:v=.bool (bs.getD i false):=by
    have j:(bs.map Value.bool)[i]?=some v:=by simpa using j
    rw[getElem?_map]at j;obtain⟨k',Y,Z⟩:=map_some j;rw[<-Z,List.getD_eq_getElem?_getD,Y];rfl
   subst W;exact wpAny_truthy_bool U
 . have e:f ((List.range (bs.map Value.bool).toArray.size).map λi=>bs.getD i false)=f bs:=by
    congr 1;apply ext_getElem;.simp
    .intro i h1 C;simp at h1;simp[h1]
   rw[e];exact⟨.bl _,H,I.kept (λb o z=>kp b o (by simp;exact ne_of_lt (lt_size z)) (iK z)),rfl,k⟩
theorem ZF(hc:X.calm=true):dU X (.builtin "all") (Qj X.K λx=>blt .all [x]):=by rintro g s σ H xs q Q I r⟨x,t,F,d,u,sm,w,he,k⟩;obtain⟨bs,y,he⟩:=map_some (show((zy d).bind λds=>ds.mapM zc).map _=some u from he);subst he;obtain⟨ds,j,B⟩:=bW y;have C:=J2 B;cases d with|lst es=>cases j;obtain⟨p,ys,rfl,E,l⟩:=w.lst sm;rw[C]at l;refine LC (f:=λbs=>bs.all id) hc (λh=>call_all_walk (wpAny_mono h (λit o⟨I,fp,wr,n,P,Sx,tr,h1,h2,h3,h4,h5⟩=>⟨I,fp,wr,n,P,Sx,tr,h1,h2,h3,h4,λh' tk kp=>?_⟩) λ_ _ z=>z)) g s σ H xs q Q I r ⟨p,ys,bs,t,E,Dy l,cB.cY sm (gH _) k⟩;have z:=h5 h' tk kp;rw[List.all_map]at z;exact z|_=>cases j
theorem boot_all:bootBuiltins "all"=some (.builtin "all"):=by decide+kernel
theorem zG(f:x="all")(hc:X.calm=true)(g:Gl X x)(j:X.mg x=none)(k:SX X c a pa)(hs:starEach [a] X.env=(false,eval a X.env)::starEach [] X.env:=by rfl):SX X c (.Call (.Name x p') [a] [] pos) (.blt .all [pa]):=by subst f;exact sU (λh=>dD (ZF hc) g j boot_all h (he:=hs)) k (λρ=>rfl) rfl hs
end
section
variable{K:PySem.W.Frag}
theorem jY:∀{xs ys:List D},xs.length≠ys.length->lQ xs ys=false|[],[],h=>absurd rfl h|[],_::_,_=>by simp[mD,jw,sr,qK]|_::_,[],_=>by simp[mD,jw,sr,qK]|x::xs,y::ys,h=>by rw[jw,jY (xs:=xs) (ys:=ys) (by simpa using h),Bool.and_false]
theorem il:∀{xs ys:List D},xs.length=ys.length->lQ xs ys=(List.range xs.length).all λj=>lE (xs.getD j .non) (ys.getD j .non)|[],[],_=>by rw[mD];rfl|[],_::_,h=>by simp at h|_::_,[],h=>by simp at h|x::xs,y::ys,h=>by rw[jw,il (xs:=xs) (ys:=ys) (by simpa using h),length_cons,List.range_succ_eq_map,all_cons,List.all_map];rfl
mutual
theorem yt:∀d:D,lE d d=true|.non=>rfl|.bl _=>by exact beq_self_eq_true _|.int _=>by exact beq_self_eq_true _|.str _=>by exact beq_self_eq_true _|.tup ds=>by exact lF ds|.lst ds=>by exact lF ds|.dH _=>by exact decide_eq_true rfl|.dv ks ds=>by show(decide (ks=ks)&&lQ ds ds)=true;rw[lF ds];simp
theorem lF:∀ds:List D,lQ ds ds=true|[]=>by rw[mD]|d::ds=>by rw[jw,yt d,lF ds];rfl
end
theorem gB{d e:D}(b:flat d=true)(h1:Rep K F v d)(a:Rep K F v e):d=e:=by cases d with
 |tup _=>cases b|lst _=>cases b|dH _=>cases b|dv _ _=>cases b|non=>rw[Rep]at h1;subst h1;cases e with|non=>rfl|tup _=>rw[Rep]at a;obtain⟨_,_,q,_⟩:=a;cases q|lst _=>rw[Rep]at a;obtain⟨_,_,q,_⟩:=a;cases q|dH _=>rw[Rep]at a;obtain⟨_,_,q,_⟩:=a;cases q|dv _ _=>rw[Rep]at a;obtain⟨_,_,_,q,_⟩:=a;cases q|_=>rw[Rep]at a;cases a
 |bl k=>rw[Rep]at h1;subst h1;cases e with|bl _=>rw[Rep]at a;cases a;rfl|tup _=>rw[Rep]at a;obtain⟨_,_,q,_⟩:=a;cases q|lst _=>rw[Rep]at a;obtain⟨_,_,q,_⟩:=a;cases q|dH _=>rw[Rep]at a;obtain⟨_,_,q,_⟩:=a;cases q|dv _ _=>rw[Rep]at a;obtain⟨_,_,_,q,_⟩:=a;cases q|_=>rw[Rep]at a;cases a
 |int k=>rw[Rep]at h1;subst h1;cases e with|int _=>rw[Rep]at a;cases a;rfl|tup _=>rw[Rep]at a;obtain⟨_,_,q,_⟩:=a;cases q|lst _=>rw[Rep]at a;obtain⟨_,_,q,_⟩:=a;cases q|dH _=>rw[Rep]at a;obtain⟨_,_,q,_⟩:=a;cases q|dv _ _=>rw[Rep]at a;obtain⟨_,_,_,q,_⟩:=a;cases q|_=>rw[Rep]at a;cases a
 |str k=>rw[Rep]at h1;subst h1;cases e with|str _=>rw[Rep]at a;cases a;rfl|tup _=>rw[Rep]at a;obtain⟨_,_,q,_⟩:=a;cases q|lst _=>rw[Rep]at a;obtain⟨_,_,q,_⟩:=a;cases q|dH _=>rw[Rep]at a;obtain⟨_,_,q,_⟩:=a;cases q|dv _ _=>rw[Rep]at a;obtain⟨_,_,_,q,_⟩:=a;cases q|_=>rw[Rep]at a;cases a
theorem Nz{X:Cx}{u:List (Addr×Obj)}(I:L2.Inv X u σ H s)(sm:aJ F H):∀n:Nat,(∀d:D,jT n d=true->∀(v:V)(e:D),Rep X.K F v d->Rep X.K F v e->d=e):=by
 have N:∀{a:Addr}{xs ys:List V},lR X.K F a xs->gJ X.K F a ys->False:=λ{a xs ys}h1 b=>by obtain⟨_,_,⟨o,g,j,_⟩,_⟩:=I.tuple (aJ.jz sm h1);obtain⟨_,_,w,_⟩:=I.list (sm.seq b);obtain⟨C,c,f,_⟩:=w.isList;rw[g]at c;cases c;rw[j]at f;exact absurd f (by decide)
 have dd:∀{a:Addr}{kvs:Dc},Rep X.K F (.ref a) (.dH kvs)->∃o,s.heap.get? a=some o/\o.cls=.type "dict":=λ{a kvs}h=>by rw[Rep]at h;obtain⟨y,_,q,E⟩:=h;cases q;exact Jo I (sm _ _ E)
 have O:∀{a:Addr}{xs:List V}{kvs:Dc},lR X.K F a xs->Rep X.K F (.ref a) (.dH kvs)->False:=λ{a xs kvs}h1 b=>by obtain⟨_,_,⟨o,g,j,_⟩,_⟩:=I.tuple (aJ.jz sm h1);obtain⟨C,c,f⟩:=dd b;rw[g]at c;cases c;rw[j]at f;exact absurd f (by decide)
 have ld:∀{a:Addr}{xs:List V}{kvs:Dc},gJ X.K F a xs->Rep X.K F (.ref a) (.dH kvs)->False:=λ{a xs kvs}h1 b=>by obtain⟨_,_,w,_⟩:=I.list (sm.seq h1);obtain⟨o,g,j,_⟩:=w.isList;obtain⟨C,c,f⟩:=dd b;rw[g]at c;cases c;rw[j]at f;exact absurd f (by decide)
 have z:∀{a:Addr}{ks:List Int}{es:List D},Rep X.K F (.ref a) (.dv ks es)->∃o,s.heap.get? a=some o/\o.cls=.type "dict":=λ{a ks es}h=>by rw[Rep]at h;obtain⟨y,_,_,q,E,_⟩:=h;cases q;exact Jy I (sm _ _ E)
 have G:∀{a:Addr}{xs:List V}{ks:List Int}{es:List D},lR X.K F a xs->Rep X.K F (.ref a) (.dv ks es)->False:=λ{a xs ks es}h1 b=>by obtain⟨_,_,⟨o,g,j,_⟩,_⟩:=I.tuple (aJ.jz sm h1);obtain⟨C,c,f⟩:=z b;rw[g]at c;cases c;rw[j]at f;exact absurd f (by decide)
 have J:∀{a:Addr}{xs:List V}{ks:List Int}{es:List D},gJ X.K F a xs->Rep X.K F (.ref a) (.dv ks es)->False:=λ{a xs ks es}h1 b=>by obtain⟨_,_,w,_⟩:=I.list (sm.seq h1);obtain⟨o,g,j,_⟩:=w.isList;obtain⟨C,c,f⟩:=z b;rw[g]at c;cases c;rw[j]at f;exact absurd f (by decide)
 intro n;induction n with
 |zero=>intro d hd v e h1 b;cases d with|tup _=>simp[bG,bC,bK,bI,bL,bJ]at hd|lst _=>simp[bG,bC,bK,bI,bL,bJ]at hd|dH _=>simp[bG,bC,bK,bI,bL,bJ]at hd|dv _ _=>simp[bG,bC,bK,bI,bL,bJ]at hd|non=>exact gB rfl h1 b|bl k=>exact gB rfl h1 b|int k=>exact gB rfl h1 b|str k=>exact gB rfl h1 b
 |succ n Q=>
   have all:∀{xs:List V}{ds es:List D},ds.all (jT n)=true->aF X.K F xs ds->aF X.K F xs es->ds=es:=λ{xs ds}=>by induction ds generalizing xs with|nil=>intro es _ h1 b;rw[h1.gG]at b;have:=b.length;exact(List.eq_nil_of_length_eq_zero this.symm).symm|cons d ds L=>intro es p h1 b;rw[all_cons,and_eq_true]at p;obtain⟨v,r,rfl,g,j⟩:=h1.cI;cases es with|nil=>cases b.gG|cons e es=>obtain⟨W,Y,U,c,f⟩:=b.cI;cases U;rw[Q d p.1 v e g c,L p.2 j f]
   intro d hd v e h1 b;cases d with
   |dH _=>simp[bG,bC,bK,bI,bL,bJ]at hd|dv _ _=>simp[bG,bC,bK,bI,bL,bJ]at hd|tup ds=>
     have p:ds.all (jT n)=true:=by simpa[bG,bC,bK,bI,bL,bJ]using hd
     rw[Rep]at h1;obtain⟨a,xs,rfl,l,M⟩:=h1;cases e with|tup es=>rw[Rep]at b;obtain⟨y,ys,q,t,B⟩:=b;cases q;have:=I.uN (aJ.jz sm l) (aJ.jz sm t);subst this;rw[all p M B]|lst es=>rw[Rep]at b;obtain⟨y,ys,q,t,B⟩:=b;cases q;exact(N l t).elim|dH _=>exact(O l b).elim|dv _ _=>exact(G l b).elim|_=>rw[Rep]at b;cases b
   |lst ds=>
     have p:ds.all (jT n)=true:=by simpa[bG,bC,bK,bI,bL,bJ]using hd
     rw[Rep]at h1;obtain⟨a,xs,rfl,l,M⟩:=h1;cases e with|lst es=>rw[Rep]at b;obtain⟨y,ys,q,t,B⟩:=b;cases q;have:=I.yq (sm.seq l) (sm.seq t);subst this;rw[all p M B]|tup es=>rw[Rep]at b;obtain⟨y,ys,q,t,B⟩:=b;cases q;exact(N t l).elim|dH _=>exact(ld l b).elim|dv _ _=>exact(J l b).elim|_=>rw[Rep]at b;cases b
   |non=>exact gB rfl h1 b|bl k=>exact gB rfl h1 b|int k=>exact gB rfl h1 b|str k=>exact gB rfl h1 b
theorem Cg{d e:D}{u:V}{c:Value}(hd:flat d=true)(he:flat e=true)(h1:Rep K F v d)(a:Rep K F u e)(r1:RelV v c)(b:RelV u u'):SeqAt.EqAt A s c u' (lE d e):=by cases d with
 |tup _=>cases hd|lst _=>cases hd|dH _=>cases hd|dv _ _=>cases hd|non=>rw[Rep]at h1;subst h1;cases(show c=.none from r1);cases e with|tup _=>cases he|lst _=>cases he|dH _=>cases he|dv _ _=>cases he|non=>rw[Rep]at a;subst a;cases(show u'=.none from b);exact SeqAt.EqAt.same _|bl _=>rw[Rep]at a;subst a;cases(show u'=.bool _ from b);exact none_bool _|int _=>rw[Rep]at a;subst a;obtain⟨t,rfl⟩:=b;exact none_int _ _|str _=>rw[Rep]at a;subst a;obtain⟨t,rfl⟩:=b;exact none_str _ _
 |bl _=>rw[Rep]at h1;subst h1;cases(show c=.bool _ from r1);cases e with|tup _=>cases he|lst _=>cases he|dH _=>cases he|dv _ _=>cases he|non=>rw[Rep]at a;subst a;cases(show u'=.none from b);exact bool_none _|bl _=>rw[Rep]at a;subst a;cases(show u'=.bool _ from b);exact bool_bool _ _|int _=>rw[Rep]at a;subst a;obtain⟨t,rfl⟩:=b;exact bool_int _ _ _|str _=>rw[Rep]at a;subst a;obtain⟨t,rfl⟩:=b;exact bool_str _ _ _
 |int _=>rw[Rep]at h1;subst h1;obtain⟨t0,rfl⟩:=r1;cases e with|tup _=>cases he|lst _=>cases he|dH _=>cases he|dv _ _=>cases he|non=>rw[Rep]at a;subst a;cases(show u'=.none from b);exact int_none _ _|bl _=>rw[Rep]at a;subst a;cases(show u'=.bool _ from b);exact int_bool _ _ _|int _=>rw[Rep]at a;subst a;obtain⟨t,rfl⟩:=b;exact int_int _ _ _ _|str _=>rw[Rep]at a;subst a;obtain⟨t,rfl⟩:=b;exact int_str _ _ _ _
 |str _=>rw[Rep]at h1;subst h1;obtain⟨t0,rfl⟩:=r1;cases e with|tup _=>cases he|lst _=>cases he|dH _=>cases he|dv _ _=>cases he|non=>rw[Rep]at a;subst a;cases(show u'=.none from b);exact str_none _ _|bl _=>rw[Rep]at a;subst a;cases(show u'=.bool _ from b);exact str_bool _ _ _|int _=>rw[Rep]at a;subst a;obtain⟨t,rfl⟩:=b;exact str_int _ _ _ _|str _=>rw[Rep]at a;subst a;obtain⟨t,rfl⟩:=b;exact str_str _ _ _ _
theorem nu{e:D}{u:V}{a:Addr}{g:Array Value}(ht:s.heap.IsTuple a g)(b:A.units<cLine)(he:flat e=true)(c:Rep K F u e)(f:RelV u u'):SeqAt.EqAt A s (.ref a) u' (lE (.tup ds) e)/\SeqAt.EqAt A s u' (.ref a) (lE e (.tup ds)):=by cases e with|tup _=>cases he|lst _=>cases he|dH _=>cases he|dv _ _=>cases he|non=>rw[Rep]at c;subst c;cases(show u'=.none from f);exact⟨SeqAt.EqAt.tuple_none ht b,SeqAt.EqAt.none_tuple ht b⟩|bl _=>rw[Rep]at c;subst c;cases(show u'=.bool _ from f);exact⟨SeqAt.EqAt.tuple_bool _ ht b,SeqAt.EqAt.bool_tuple _ ht b⟩|int _=>rw[Rep]at c;subst c;obtain⟨t,rfl⟩:=f;exact⟨SeqAt.EqAt.tuple_int _ _ ht b,SeqAt.EqAt.int_tuple _ _ ht b⟩|str _=>rw[Rep]at c;subst c;obtain⟨t,rfl⟩:=f;exact⟨SeqAt.EqAt.tuple_str _ _ ht b,SeqAt.EqAt.str_tuple _ _ ht b⟩
theorem nW{e:D}{u:V}{a:Addr}{g:Array Value}(ht:s.heap.IsList a g)(b:A.units<cLine)(he:flat e=true)(c:Rep K F u e)(f:RelV u u'):SeqAt.EqAt A s (.ref a) u' (lE (.lst ds) e)/\SeqAt.EqAt A s u' (.ref a) (lE e (.lst ds)):=by cases e with|tup _=>cases he|lst _=>cases he|dH _=>cases he|dv _ _=>cases he|non=>rw[Rep]at c;subst c;cases(show u'=.none from f);exact⟨SeqAt.EqAt.list_none ht b,SeqAt.EqAt.none_list ht b⟩|bl _=>rw[Rep]at c;subst c;cases(show u'=.bool _ from f);exact⟨SeqAt.EqAt.list_bool _ ht b,SeqAt.EqAt.bool_list _ ht b⟩|int _=>rw[Rep]at c;subst c;obtain⟨t,rfl⟩:=f;exact⟨SeqAt.EqAt.list_int _ _ ht b,SeqAt.EqAt.int_list _ _ ht b⟩|str _=>rw[Rep]at c;subst c;obtain⟨t,rfl⟩:=f;exact⟨SeqAt.EqAt.list_str _ _ ht b,SeqAt.EqAt.str_list _ _ ht b⟩
theorem yQ{n:Nat}{d:D}(h:jT n d=true)(h0:n=0):flat d=true:=by subst h0;cases d<;>first|rfl|simp[bG,bC,bK,bI,bL,bJ]at h
theorem acq{X:Cx}{C:List (Addr×Obj)}(I:L2.Inv X C σ H s)(sm:aJ F H):∀(n:Nat)(A:Around),A.units+n<cLine->∀(d e:D),jT n d=true->jT n e=true->∀(v u:V)(E u':Value),Rep X.K F v d->Rep X.K F u e->RelV v E->RelV u u'->SeqAt.EqAt A s E u' (lE d e):=by intro n;induction n with|zero=>intro A W d e hd he v u E u' h1 f r1 g;exact Cg (yQ hd rfl) (yQ he rfl) h1 f r1 g|succ n Y=>
   intro A W d e hd he v u E u' h1 f r1 g;have c:A.units<cLine:=by omega
   have L:A.in1.units+n<cLine:=by show A.units+1+n<cLine;omega--items by place
   have G:∀{xs ys:List V}{q ws:List Value}{ds es:List D}{j:Nat}(k1:j<q.toArray.size)(k2:j<ws.toArray.size),ds.all (jT n)=true->es.all (jT n)=true->Vals xs q->Vals ys ws->aF X.K F xs ds->aF X.K F ys es->SeqAt.EqAt A.in1 s q.toArray[j] ws.toArray[j] (lE (ds.getD j .non) (es.getD j .non)):=λ{xs ys q ws ds es j}k1 k2 Z a2 B h p1 p2=>by
    have k1:j<q.length:=by simpa using k1
    have k2:j<ws.length:=by simpa using k2
    have r:j<ds.length:=by rw[<-p1.length,B.length];exact k1
    have l2:j<es.length:=by rw[<-p2.length,h.length];exact k2
    obtain⟨x,g1,g2⟩:=p1.get (show ds[j]?=some ds[j]by simp[r]);obtain⟨y,g3,g4⟩:=p2.get (show es[j]?=some es[j]by simp[l2]);obtain⟨Q,g5,g6⟩:=B.get g1;obtain⟨U,g7,g8⟩:=h.get g3;have e1:q.toArray[j]=Q:=by have:=(fM g5).2;simpa using this
    have e2:ws.toArray[j]=U:=by have:=(fM g7).2;simpa using this
    have e3:ds.getD j .non=ds[j]:=by simp[List.getD,r]
    have e4:es.getD j .non=es[j]:=by simp[List.getD,l2]
    rw[e1,e2,e3,e4];exact Y A.in1 L _ _ (all_eq_true.mp Z _ (getElem_mem r)) (all_eq_true.mp a2 _ (getElem_mem l2)) x y Q U g2 g4 g6 g8--the same object
   have same:∀{a:Addr},v=.ref a->u=.ref a->SeqAt.EqAt A s E u' (lE d e):=λ{a}q1 q2=>by subst q1;subst q2;have:=Nz I sm (n+1) d hd _ e h1 f;subst this;rw[yt];cases r1;cases g;exact SeqAt.EqAt.same _
   cases d with
   |dH _=>simp[bG,bC,bK,bI,bL,bJ]at hd|dv _ _=>simp[bG,bC,bK,bI,bL,bJ]at hd|tup ds=>
     have M:ds.all (jT n)=true:=by simpa[bG,bC,bK,bI,bL,bJ]using hd
     have k:=h1;rw[Rep]at k;obtain⟨a,xs,rfl,N,J⟩:=k;cases r1;obtain⟨q,B,p1,_⟩:=I.tuple (aJ.jz sm N)
     cases e with|dH _=>simp[bG,bC,bK,bI,bL,bJ]at he|dv _ _=>simp[bG,bC,bK,bI,bL,bJ]at he|tup es=>
       have O:es.all (jT n)=true:=by simpa[bG,bC,bK,bI,bL,bJ]using he
       have l:=f;rw[Rep]at l;obtain⟨b,ys,rfl,o,t⟩:=l;by_cases p:a=b;.subst p;exact same rfl rfl
       . cases g;obtain⟨ws,h,p2,_⟩:=I.tuple (aJ.jz sm o);refine .of_refs p ?_;have z:=SeqAt.RcAt.tuples (A:=A) (e:=λj=>lE (ds.getD j .non) (es.getD j .non)) p1 p2 c λj k1 k2=>G k1 k2 M O B h J t;have r:q.toArray.size=ds.length:=by rw[size_toArray,<-B.length,J.length]
         have l2:ws.toArray.size=es.length:=by rw[size_toArray,<-h.length,t.length]
         rw[r,l2]at z;have e0:lE (.tup ds) (.tup es)=((List.range (min ds.length es.length)).all (λj=>lE (ds.getD j .non) (es.getD j .non))&&ds.length==es.length):=by
          rw[pqt];by_cases w:ds.length=es.length;.rw[il w,w];simp
          . rw[jY w];have:(ds.length==es.length)=false:=by simpa using w
            rw[this,Bool.and_false]
         rw[e0];exact z|lst es=>rw[Rep]at f;obtain⟨b,ys,rfl,o,t⟩:=f;cases g;obtain⟨ws,h,p2,_⟩:=I.list (sm.seq o);exact SeqAt.EqAt.tuple_list p1 p2.isList c|non=>exact(nu p1 c rfl f g).1|bl _=>exact(nu p1 c rfl f g).1|int _=>exact(nu p1 c rfl f g).1|str _=>exact(nu p1 c rfl f g).1
   |lst ds=>
     have M:ds.all (jT n)=true:=by simpa[bG,bC,bK,bI,bL,bJ]using hd
     have k:=h1;rw[Rep]at k
     obtain⟨a,xs,rfl,N,J⟩:=k;cases r1;obtain⟨q,B,p1,_⟩:=I.list (sm.seq N);cases e with|dH _=>simp[bG,bC,bK,bI,bL,bJ]at he|dv _ _=>simp[bG,bC,bK,bI,bL,bJ]at he|lst es=>
       have O:es.all (jT n)=true:=by simpa[bG,bC,bK,bI,bL,bJ]using he
       have l:=f;rw[Rep]at l;obtain⟨b,ys,rfl,o,t⟩:=l;by_cases p:a=b;.subst p;exact same rfl rfl
       . cases g;obtain⟨ws,h,p2,_⟩:=I.list (sm.seq o);refine .of_refs p ?_;have r:q.toArray.size=ds.length:=by rw[size_toArray,<-B.length,J.length]
         have l2:ws.toArray.size=es.length:=by rw[size_toArray,<-h.length,t.length]
         rw[pql];by_cases w:ds.length=es.length;.have z:=SeqAt.RcAt.lists (A:=A) (e:=λj=>lE (ds.getD j .non) (es.getD j .non)) p1.isList p2.isList (by rw[r,l2,w]) c λj k1 k2=>G k1 k2 M O B h J t;rw[r]at z;rw[il w];exact z
         .rw[jY w];exact lists_lengths p1.isList p2.isList (by rw[r,l2];simpa using w) c|tup es=>rw[Rep]at f;obtain⟨b,ys,rfl,o,t⟩:=f;cases g;obtain⟨ws,h,p2,_⟩:=I.tuple (aJ.jz sm o);exact SeqAt.EqAt.list_tuple p1.isList p2 c|non=>exact(nW p1.isList c rfl f g).1|bl _=>exact(nW p1.isList c rfl f g).1|int _=>exact(nW p1.isList c rfl f g).1|str _=>exact(nW p1.isList c rfl f g).1
   |non|bl _|int _|str _=>cases e with|dH _=>simp[bG,bC,bK,bI,bL,bJ]at he|dv _ _=>simp[bG,bC,bK,bI,bL,bJ]at he|tup es=>rw[Rep]at f;obtain⟨b,ys,rfl,o,t⟩:=f;cases g;obtain⟨ws,h,p2,_⟩:=I.tuple (aJ.jz sm o);exact(nu p2 c rfl h1 r1).2|lst es=>rw[Rep]at f;obtain⟨b,ys,rfl,o,t⟩:=f;cases g;obtain⟨ws,h,p2,_⟩:=I.list (sm.seq o);exact(nW p2.isList c rfl h1 r1).2|_=>exact Cg rfl rfl h1 f r1 g
end
section
variable{X:Cx}{pins:List (Addr×Obj)}{σ:L2.St}{H F:Hp}{s:Shared}{A:Around}
abbrev RC(A:Around)(s:Shared)(v u:Value)(k:Bool):Prop:=SeqAt.RcAt A s v u k/\SeqAt.RcNeAt A s v u (!k)
inductive Top(X:Cx)(F H:Hp)(s:Shared):Value->D->Prop where|non:Top X F H s .none .non|bl(b:Bool):Top X F H s (.bool b) (.bl b)|int(i:Int)(t:Tok):Top X F H s (.int i t) (.int i)|str(x:Str)(t:Tok):Top X F H s (.str x t) (.str x)|tup{a:Addr}{us:List Value}{xs:List V}{ds:List D}(ht:s.heap.IsTuple a us.toArray)(hv:Vals xs us)(hr:aF X.K F xs ds):Top X F H s (.ref a) (.tup ds)|lst{a:Addr}{us:List Value}{xs:List V}{ds:List D}(ht:s.heap.IsList a us.toArray)(hv:Vals xs us)(hr:aF X.K F xs ds):Top X F H s (.ref a) (.lst ds)
theorem wV(I:L2.Inv X pins σ H s)(sm:aJ F H){f:Value}{d:D}(hd:jT 8 d=true)(h:dm X.K F H v d)(r:RelV v f):Top X F H s f d:=by cases d with|dH _=>simp[bG,bC,bK,bI,bL,bJ]at hd|dv _ _=>simp[bG,bC,bK,bI,bL,bJ]at hd|non=>rw[h.non]at r;cases r;exact .non|bl b=>rw[h.bl]at r;cases r;exact .bl b|int i=>rw[h.int]at r;obtain⟨t,rfl⟩:=r;exact .int i t|str x=>rw[h.str]at r;obtain⟨t,rfl⟩:=r;exact .str x t|tup ds=>obtain⟨a,xs,rfl,h1,c,_⟩:=h.tup sm;cases r;obtain⟨g,e,p1,_⟩:=I.tuple h1;exact .tup p1 e c|lst ds=>obtain⟨a,xs,rfl,h1,c⟩:=h.lst sm;cases r;obtain⟨g,e,p1,_⟩:=I.list h1;exact .lst p1.isList e c
theorem Z4(I:L2.Inv X pins σ H s)(sm:aJ F H){n:Nat}(hu:A.units+(n+1)<cLine){d e:D}(hd:jT (n+1) d=true)(he:jT (n+1) e=true){E:Value}(h1:Top X F H s E d)(r:Top X F H s u' e):RC A s E u' (lE d e):=by
 have c:A.units<cLine:=by omega
 have C:A.in1.units+n<cLine:=by show A.units+1+n<cLine;omega
 have p:∀{xs ys:List V}{o ws:List Value}{ds es:List D}{j:Nat}(k1:j<o.toArray.size)(k2:j<ws.toArray.size),ds.all (jT n)=true->es.all (jT n)=true->Vals xs o->Vals ys ws->aF X.K F xs ds->aF X.K F ys es->SeqAt.EqAt A.in1 s o.toArray[j] ws.toArray[j] (lE (ds.getD j .non) (es.getD j .non)):=λ{xs ys o ws ds es j}k1 k2 N O G J p1 p2=>by
  have k1:j<o.length:=by simpa using k1
  have k2:j<ws.length:=by simpa using k2
  have k:j<ds.length:=by rw[<-p1.length,G.length];exact k1
  have l2:j<es.length:=by rw[<-p2.length,J.length];exact k2
  obtain⟨x,Q,U⟩:=p1.get (show ds[j]?=some ds[j]by simp[k]);obtain⟨y,W,Y⟩:=p2.get (show es[j]?=some es[j]by simp[l2]);obtain⟨L,Z,g6⟩:=G.get Q;obtain⟨M,g7,g8⟩:=J.get W;have e1:o.toArray[j]=L:=by have:=(fM Z).2;simpa using this
  have e2:ws.toArray[j]=M:=by have:=(fM g7).2;simpa using this
  have e3:ds.getD j .non=ds[j]:=by simp[List.getD,k]
  have e4:es.getD j .non=es[j]:=by simp[List.getD,l2]
  rw[e1,e2,e3,e4];exact acq I sm n A.in1 C _ _ (all_eq_true.mp N _ (getElem_mem k)) (all_eq_true.mp O _ (getElem_mem l2)) x y L M U Y g6 g8
 cases h1 with
 |non=>cases r with|non=>exact⟨SeqAt.RcAt.none_none,SeqAt.RcNeAt.none_none⟩|bl b=>exact⟨SeqAt.RcAt.none_bool _,SeqAt.RcNeAt.none_bool _⟩|int i t=>exact⟨SeqAt.RcAt.none_int _ _,SeqAt.RcNeAt.none_int _ _⟩|str i t=>exact⟨SeqAt.RcAt.none_str _ _,SeqAt.RcNeAt.none_str _ _⟩|tup ht _ _=>exact⟨SeqAt.RcAt.none_tuple ht c,SeqAt.RcNeAt.none_tuple ht c⟩|lst ht _ _=>exact⟨SeqAt.RcAt.none_list ht c,SeqAt.RcNeAt.none_list ht c⟩
 |bl b0=>cases r with|non=>exact⟨SeqAt.RcAt.bool_none _,SeqAt.RcNeAt.bool_none _⟩|bl b=>exact⟨SeqAt.RcAt.bool_bool _ _,SeqAt.RcNeAt.bool_bool _ _⟩|int i t=>exact⟨SeqAt.RcAt.bool_int _ _ _,SeqAt.RcNeAt.bool_int _ _ _⟩|str i t=>exact⟨SeqAt.RcAt.bool_str _ _ _,SeqAt.RcNeAt.bool_str _ _ _⟩|tup ht _ _=>exact⟨SeqAt.RcAt.bool_tuple _ ht c,SeqAt.RcNeAt.bool_tuple _ ht c⟩|lst ht _ _=>exact⟨SeqAt.RcAt.bool_list _ ht c,SeqAt.RcNeAt.bool_list _ ht c⟩
 |int i0 t0=>cases r with|non=>exact⟨SeqAt.RcAt.int_none _ _,SeqAt.RcNeAt.int_none _ _⟩|bl b=>exact⟨SeqAt.RcAt.int_bool _ _ _,SeqAt.RcNeAt.int_bool _ _ _⟩|int i t=>exact⟨SeqAt.RcAt.int_int _ _ _ _,SeqAt.RcNeAt.int_int _ _ _ _⟩|str i t=>exact⟨SeqAt.RcAt.int_str _ _ _ _,SeqAt.RcNeAt.int_str _ _ _ _⟩|tup ht _ _=>exact⟨SeqAt.RcAt.int_tuple _ _ ht c,SeqAt.RcNeAt.int_tuple _ _ ht c⟩|lst ht _ _=>exact⟨SeqAt.RcAt.int_list _ _ ht c,int_list _ _ ht c⟩
 |str i0 t0=>cases r with|non=>exact⟨SeqAt.RcAt.str_none _ _,SeqAt.RcNeAt.str_none _ _⟩|bl b=>exact⟨SeqAt.RcAt.str_bool _ _ _,SeqAt.RcNeAt.str_bool _ _ _⟩|int i t=>exact⟨SeqAt.RcAt.str_int _ _ _ _,SeqAt.RcNeAt.str_int _ _ _ _⟩|str i t=>exact⟨SeqAt.RcAt.str_str _ _ _ _,SeqAt.RcNeAt.str_str _ _ _ _⟩|tup ht _ _=>exact⟨SeqAt.RcAt.str_tuple _ _ ht c,SeqAt.RcNeAt.str_tuple _ _ ht c⟩|lst ht _ _=>exact⟨SeqAt.RcAt.str_list _ _ ht c,str_list _ _ ht c⟩
 |@tup a o xs ds ht q hr=>
   have u:ds.all (jT n)=true:=by simpa[bG,bC,bK,bI,bL,bJ]using hd
   cases r with|non=>exact⟨SeqAt.RcAt.tuple_none ht c,SeqAt.RcNeAt.tuple_none ht c⟩|bl b=>exact⟨SeqAt.RcAt.tuple_bool _ ht c,SeqAt.RcNeAt.tuple_bool _ ht c⟩|int i t=>exact⟨SeqAt.RcAt.tuple_int _ _ ht c,SeqAt.RcNeAt.tuple_int _ _ ht c⟩|str i t=>exact⟨SeqAt.RcAt.tuple_str _ _ ht c,SeqAt.RcNeAt.tuple_str _ _ ht c⟩|lst h _ _=>exact⟨SeqAt.RcAt.tuple_list ht h c,SeqAt.RcNeAt.tuple_list ht h c⟩|@tup b ws ys es h f g=>
     have w:es.all (jT n)=true:=by simpa[bG,bC,bK,bI,bL,bJ]using he
     have k:o.toArray.size=ds.length:=by rw[size_toArray,<-q.length,hr.length]
     have l2:ws.toArray.size=es.length:=by rw[size_toArray,<-f.length,g.length]
     have z:=SeqAt.RcAt.tuples (A:=A) (e:=λj=>lE (ds.getD j .non) (es.getD j .non)) ht h c λj k1 k2=>p k1 k2 u w q f hr g;have B:=SeqAt.RcNeAt.tuples (A:=A) (e:=λj=>lE (ds.getD j .non) (es.getD j .non)) ht h c λj k1 k2=>p k1 k2 u w q f hr g;rw[k,l2]at z B;have e0:lE (.tup ds) (.tup es)=((List.range (min ds.length es.length)).all (λj=>lE (ds.getD j .non) (es.getD j .non))&&ds.length==es.length):=by
      rw[pqt];by_cases l:ds.length=es.length;.rw[il l,l];simp
      . rw[jY l];have:(ds.length==es.length)=false:=by simpa using l
        rw[this,Bool.and_false]
     rw[e0];exact⟨z,B⟩
 |@lst a o xs ds ht q hr=>
   have u:ds.all (jT n)=true:=by simpa[bG,bC,bK,bI,bL,bJ]using hd
   cases r with|non=>exact⟨SeqAt.RcAt.list_none ht c,SeqAt.RcNeAt.list_none ht c⟩|bl b=>exact⟨SeqAt.RcAt.list_bool _ ht c,SeqAt.RcNeAt.list_bool _ ht c⟩|int i t=>exact⟨SeqAt.RcAt.list_int _ _ ht c,list_int _ _ ht c⟩|str i t=>exact⟨SeqAt.RcAt.list_str _ _ ht c,list_str _ _ ht c⟩|tup h _ _=>exact⟨SeqAt.RcAt.list_tuple ht h c,SeqAt.RcNeAt.list_tuple ht h c⟩|@lst b ws ys es h f g=>
     have w:es.all (jT n)=true:=by simpa[bG,bC,bK,bI,bL,bJ]using he
     have k:o.toArray.size=ds.length:=by rw[size_toArray,<-q.length,hr.length]
     have l2:ws.toArray.size=es.length:=by rw[size_toArray,<-f.length,g.length]
     rw[pql];by_cases l:ds.length=es.length;.have z:=SeqAt.RcAt.lists (A:=A) (e:=λj=>lE (ds.getD j .non) (es.getD j .non)) ht h (by rw[k,l2,l]) c λj k1 k2=>p k1 k2 u w q f hr g;have B:=SeqAt.RcNeAt.lists (A:=A) (e:=λj=>lE (ds.getD j .non) (es.getD j .non)) ht h (by rw[k,l2,l]) c λj k1 k2=>p k1 k2 u w q f hr g;rw[k]at z B;rw[il l];exact⟨z,B⟩
     .rw[jY l];exact⟨lists_lengths ht h (by rw[k,l2];simpa using l) c,SeqAt.RcNeAt.lists_lengths ht h (by rw[k,l2];simpa using l) c⟩
theorem zO(b:X.A.units+8<cLine):iH X (compareOp .Eq) (rD X.K (yI .eq)):=by rintro pins s σ H x y v u Q I c f⟨F,d,e,r,sm,g,h,he,k⟩;obtain⟨t,a,j⟩:=map_some (show(Jm d e).map _=some r from he);subst j;unfold Jm at a;obtain⟨hd,a⟩:=aY a;rw[and_eq_true]at hd;subst a;exact(Z4 I sm (n:=7) b hd.1 hd.2 (wV I sm hd.1 g c) (wV I sm hd.2 h f)).1 _ _ _ _ ⟨.bl _,H,I,rfl,cB.cY sm (gH _) k⟩
theorem Ji(b:X.A.units+8<cLine):iH X (compareOp .NotEq) (rD X.K (yI .ne)):=by rintro pins s σ H x y v u Q I c f⟨F,d,e,r,sm,g,h,he,k⟩;obtain⟨t,a,j⟩:=map_some (show(HJ d e).map _=some r from he);subst j;unfold HJ at a;obtain⟨hd,a⟩:=aY a;rw[and_eq_true]at hd;subst a;exact(Z4 I sm (n:=7) b hd.1 hd.2 (wV I sm hd.1 g c) (wV I sm hd.2 h f)).2 _ _ _ _ ⟨.bl _,H,I,rfl,cB.cY sm (gH _) k⟩
end
section
variable{Pg:Program}{w:World}{K:PySem.W.Frag}{mg:Str->Option Value}{base:Heap}
theorem Yy{qual:Str}{st:Stmt}{f:Addr}{fd:FuncData}{N ps:List Str}{k n:Nat}{c:Call}{d:Fd}(B:jy K x qual st f fd)(S:aO N ps (ao st))(h1:d.np=ps.length)(p:d.nn=N.length)(C:∀(cdv:Value)(A:Around)(outer:List Env)(s:Shared)(H:Hp)(E:XK),iW k (A.deeper (envOfC qual (ao st) s.heap.objs.size f cdv))->SB (lU JB Pg w K mg base N qual (ao st) f cdv A outer s H E).YF c n (dZ st) d.body):jh Pg w K mg base JB (k+1) f fd ps (Mu K ps.length (λargs=>enter c n d args)):=by
 refine B.ok S (λvs H Q E h=>h.1) λcdv A outer s H vs Q E hr h=>?_;obtain⟨t,F,args,r,l,g,e,q⟩:=h;refine⟨_,C cdv A outer s H E hr,?_⟩;replace e:enter c n d args=.ok r l:=e;unfold enter at e;split at e
 . rename_i hc;obtain⟨c1,c2⟩:=hc;have G:=g.more (n:=d.nn-d.np) (τ:=replicate (N.length-vs.length) none) (by simp[h1,p,t]);have o:args.length=d.np:=c1;have go:∀{fl:Fl}{a:List Sl},fO c n d.body (args++replicate (d.nn-d.np) .aN)=.ok fl a->(∀j σ' b,az K F (args++replicate (d.nn-d.np) .aN) (start N vs) H j a σ' b->(match fl with|.next=>Q .non b|.brk=>False|.cont=>False|.ret r=>∀v,cR K j a σ' b (args++replicate (d.nn-d.np) .aN) (start N vs) H v r->Q v b))->tEx K (fO c n d.body) {nx:=λ_ b=>Q .non b,rt:=Q} (start N vs) H:=λ{fl a}z k=>⟨F,_,fl,a,G,z,λj σ' b s=>by have:=k j σ' b s;cases fl<;>exact this⟩;split at e;.rename_i a z;cases e;refine go z λj σ' b s=>?_;obtain⟨u,y⟩:=az.less (m:=d.np) o.symm g (by simp[h1,p,t]) s;exact q .non j _ b u (show Rep K j _ _ from Tf)
   .rename_i J a z;cases e;refine go z λj σ' b s v I=>?_;obtain⟨u,y⟩:=az.less (m:=d.np) o.symm g (by simp[h1,p,t]) s;exact q v j _ b u (y v r I)
   .split at e<;>cases e
 .cases e
structure bA(Pg:Program)(w:World)(K:PySem.W.Frag)(mg:Str->Option Value)(base:Heap)(k:Nat)(c:Call)(i:Nat)(x:Str)(np:Nat):Prop where ex:∃fa fd qs,jh Pg w K mg base JB k fa fd qs (Mu K qs.length (c i))/\mg x=some (.ref fa)/\keepIn K (.ref fa)=true/\Binds K fd qs []/\qs.length=np
end
section
variable{X:Cx}{c:Call}{n k:Nat}{e a b:Expr}{es:List Expr}{p pa pb:P}{ps:List P}{pos:Pos}
theorem sv(i:Nat)(g:X.N[i]?=some x:=by rfl)(h:uX X.env.scope x:=by first|exact Or.inl rfl|exact Or.inr (Or.inl rfl)|exact Or.inr (Or.inr rfl))(hd:(x==("__debug__":Str))=false:=by rfl)(f:(x==("__classdict__":Str))=false:=by rfl):SX X c (.Name x pos) (.var i):=SN g h hd f
theorem eO{np:Nat}(C:bA X.prog X.w X.K X.mg X.base k c i x np)(hr:iW k X.A)(h:SG X c (e::es) ps)(j:Gl X x:=by rfl)(l:(e::es).length=np:=by rfl)(f:(x==("__debug__":Str))=false:=by rfl)(he:starEach (e::es) X.env=(false,eval e X.env)::starEach es X.env:=by rfl)(hpl:(backTo pos (starEach es X.env)).any (·.1)=false:=by rfl)(g:ps.length=(e::es).length:=by rfl):SX X c (.Call (.Name x p') (e::es) [] pos) (.call i ps):=by obtain⟨u,fd,y,h1,o,q,r,t⟩:=C.ex;exact Ly h1 hr j o q r h (l.trans t.symm) f he hpl g
noncomputable def Qw(names outer:List (Str×NameKind))(N N':List Str)(n:Nat):Bool:=(names.all λy=>names.lookup y.1==some y.2)&&(names.all λy=>y.2!=.local||names.lookup y.1==some .local)&&(names.all λy=>y.2!=.free||outer.lookup y.1==some .cell||outer.lookup y.1==some .free)&&N'.length==N.length+n&&((N.zip N').all λp=>(p.1==p.2&&names.lookup p.2==some .free)||(names.lookup p.2!=some .local&&names.lookup p.2!=some .cell&&names.lookup p.2!=some .free))
theorem zZ{scope:Scope}{N':List Str}(g:scope.kind=.function)(h:Qw scope.names X.env.scope.names X.N N' n=true):gC X scope N' n:=by
 unfold Qw at h;simp only[and_eq_true]at h;obtain⟨⟨⟨⟨h1,j⟩,l⟩,o⟩,q⟩:=h;refine⟨g,λy f=>eq_of_beq (all_eq_true.mp h1 y f),λy f e=>?_,λy f e=>?_,by simpa using o,q⟩;.have:=all_eq_true.mp j y f;rw[e]at this;simpa using this
 . have:=all_eq_true.mp l y f;rw[e]at this;simp only[or_eq_true]at this;rcases this with(z|z)|z;.cases z
   .exact .inl (eq_of_beq z)
   .exact .inr (eq_of_beq z)
theorem bZ(h:iW k A):A.units+8<cLine:=by have:=h.un;omega
end
end HH
end
section
namespace L2
open PySem PySem.Spec PyProof.Rows
end L2
namespace HH
open PySem L2 PySem.Spec PyProof.Rows
structure bY(K:PySem.W.Frag)(x:Str)(st:Stmt):Prop where ex:∃f fd,PySem.W.nsIn K mainGlobals x=some (some (.ref f))/\jy K x x st f fd
section
variable{Pg:Program}{w:World}{K:PySem.W.Frag}{mg:Str->Option Value}{base h:Heap}
theorem Uy{x:Str}{st:Stmt}{f:Addr}{oc:Value}{od g:Option Addr}{b:Array (Option Value)}{kV e i cdv ct:Value}(a:PySem.W.nsIn K mainGlobals x=some (some (.ref f)))(l:K.lookup f=some ⟨oc,od,.func (PySem.W.fnOf x x (gO st) (dZ st) (ao st) .none kV e i g cdv ct),b⟩)(c:PySem.W.codeIn K cdv x=true)(k:keepIn K (.ref f)=true):bY K x st:=⟨_,_,a,Vc l c k⟩
theorem cV{Γ:Tab}{wl i np:Nat}{x:Str}{st:Stmt}{ps:List Str}(X:K.In h)(G:h.Ns mainGlobals mg)(D:bY K x st)(j:ps.length=np)(k:∀(kV g l:Value)(m:Option Addr)(cdv ct:Value)(c:List Value),c.length=ps.length->bindArgs (PySem.W.fnOf x x (gO st) (dZ st) (ao st) .none kV g l m cdv ct) ⟨c,[]⟩=pure (ps.zip c)):bA Pg w K mg base 0 (run Γ wl 0) i x np:=by obtain⟨f,fd,a,F⟩:=D.ex;exact⟨f,fd,ps,⟨λvs H Q E s=>s.1,λA outer s H args c vs Q E hr e b v sp=>by obtain⟨_,F,as,r,n,_,z,_⟩:=sp;cases z⟩,mg_of X G a,F.kp,F.binds k,j⟩
theorem cU{Γ:Tab}{wl n i np:Nat}{x:Str}{st:Stmt}{ps:List Str}{d:Fd}(X:K.In h)(G:h.Ns mainGlobals mg)(D:bY K x st)(j:ps.length=np)(b:Γ i=some d)(k:∀(kV c l:Value)(m:Option Addr)(cdv ct:Value)(g:List Value),g.length=ps.length->bindArgs (PySem.W.fnOf x x (gO st) (dZ st) (ao st) .none kV c l m cdv ct) ⟨g,[]⟩=pure (ps.zip g))(ok:∀f fd,jy K x x st f fd->jh Pg w K mg base JB (n+1) f fd ps (Mu K np (λargs=>enter (run Γ wl n) wl d args))):bA Pg w K mg base (n+1) (run Γ wl (n+1)) i x np:=by
 obtain⟨f,fd,a,F⟩:=D.ex;refine⟨f,fd,ps,?_,mg_of X G a,F.kp,F.binds k,j⟩;have e:run Γ wl (n+1) i=λargs=>enter (run Γ wl n) wl d args:=by funext args;show(match Γ i with|some d=>enter (run Γ wl n) wl d args|none=>.stuck)=_;rw[b]
 rw[e,j];exact ok f fd F
theorem uB{F:Hp}:∀ns:List Int,aF K F (ns.map V.int) (ns.map D.int)|[]=>.nil|n::ns=>.cons (bU n) (uB ns)
theorem Fx{H:Hp}{a:Addr}{ns:List Int}{g:List Sl->Res R}{as:List Sl}(l:gJ K H a (ns.map V.int))(hr:g [.val false (.lst (ns.map D.int))]=.ok (.val (.bl true)) as):Mu K 1 g [.ref a] H (λv _=>v=.bl true) λ_ _ _=>False:=by
 refine⟨rfl,H,_,_,as,⟨.refl _,rfl,λi b d e=>?_,λi s m e k=>?_,λi j c h=>?_⟩,hr,λv n σ' o s f=>?_⟩;.match i,e with|0,e=>cases e;refine⟨.ref a,rfl,?_⟩;rw[Rep];exact⟨a,_,rfl,l,uB ns⟩|i+1,e=>simp at e
 .match i,e with|0,e=>cases e;cases k|i+1,e=>simp at e
 .obtain⟨⟨s,m,e,k⟩,_⟩:=h;match i,e with|0,e=>cases e;cases k|i+1,e=>simp at e
 .have f:Rep K n v (.bl true):=f;rw[Rep]at f;exact f
end
end HH
end
section
namespace HH
open PySem
variable{n:Nat}{c:Call}{ρ:List Sl}{is:List Nat}{ds:List D}
def Res.sat{b:Type}(Q:b->List Sl->Prop)(x:Res b):Prop:=match x with|.ok a ρ=>Q a ρ|.exc _ _=>False|.stuck=>False
section
variable{α β:Type}{Q Q':α->List Sl->Prop}
@[simp]theorem Rj{a:α}{ρ:List Sl}:(Res.ok a ρ).sat Q=Q a ρ:=rfl
@[simp]theorem abG{k:Nat}{ρ:List Sl}:(Res.exc k ρ:Res α).sat Q=False:=rfl
@[simp]theorem W5:(Res.stuck:Res α).sat Q=False:=rfl
theorem cz{x:Res β}{f:β->List Sl->Res α}:(x.bind f).sat Q=x.sat λa ρ=>(f a ρ).sat Q:=by cases x<;>rfl
@[simp]theorem aa2{p:Prop}[Decidable p]{x y:Res α}:(if p then x else y).sat Q=((p->x.sat Q)/\(¬ p->y.sat Q)):=by by_cases h:p<;>simp[h]
@[simp]theorem K1{a:α}{ρ:List Sl}:(lift (some a) ρ).sat Q=Q a ρ:=rfl
@[simp]theorem K7{ρ:List Sl}:(lift (none:Option α) ρ).sat Q=False:=rfl
@[simp]theorem N6{p:Prop}[Decidable p]{a:α}{ρ:List Sl}:(lift (if p then some a else none) ρ).sat Q=(p/\Q a ρ):=by by_cases h:p<;>simp[h]
theorem Res.sat.imp{x:Res α}(h:x.sat Q)(k:∀a ρ,Q a ρ->Q' a ρ):x.sat Q':=by cases x with|ok a ρ=>exact k a ρ h|exc _ _=>exact h|stuck=>exact h
theorem sat_iff{x:Res α}:x.sat Q↔∃a ρ,x=.ok a ρ/\Q a ρ:=by cases x with|ok a ρ=>exact⟨λh=>⟨a,ρ,rfl,h⟩,λ⟨_,_,e,h⟩=>by cases e;exact h⟩|exc _ _=>exact⟨λh=>h.elim,λ⟨_,_,e,_⟩=>by cases e⟩|stuck=>exact⟨λh=>h.elim,λ⟨_,_,e,_⟩=>by cases e⟩
end
noncomputable def fr:Sl->Bool|.aN=>true|.val b _=>!b|.own b _=>!b|.lent _=>false|.iG _=>false|.cN _=>false|.hold _=>false
@[simp]theorem adH:fr .aN=true:=rfl
@[simp]theorem ad3{b:Bool}{d:D}:fr (.val b d)=!b:=rfl
@[simp]theorem ad9{b:Bool}{d:List D}:fr (.own b d)=!b:=rfl
@[simp]theorem abh{d:List D}:fr (.lent d)=false:=rfl
theorem TY(ρ:List Sl)(i:Nat)(s:Sl):put ρ i s=match ρ[i]?with|some t=>if fr t=true then some (ρ.set i s)else none|none=>none:=by unfold put;cases h:ρ[i]?with|none=>rfl|some t=>cases t with|aN=>rfl|val b d=>cases b<;>rfl|own b d=>cases b<;>rfl|lent d=>rfl|iG m=>rfl|cN m=>rfl|hold m=>rfl
theorem n8{Γ:Tab}{w i:Nat}{d:Fd}{args:List Sl}(h:Γ i=some d):run Γ w (n+1) i args=enter (run Γ w n) w d args:=by rw[run,h]
noncomputable def fin(np:Nat):Fl->List Sl->Option (R×List Sl)|.next,ρ=>some (.val .non,ρ.take np)|.ret r,ρ=>some (r,ρ.take np)|_,_=>none
def eQ(np:Nat)(Q:R->List Sl->Prop)(fl:Fl)(ρ:List Sl):Prop:=match fl with|.next=>Q (.val .non) (ρ.take np)|.ret r=>Q r (ρ.take np)|_=>False
def sQ(c:Call)(n:Nat)(r:List S)(Q:Fl->List Sl->Prop)(fl:Fl)(ρ:List Sl):Prop:=match fl with|.next=>(fO c n r ρ).sat Q|fl=>Q fl ρ
def fQ(J:List Sl->Prop)(Q:Fl->List Sl->Prop)(fl:Fl)(ρ:List Sl):Prop:=match fl with|.next=>J ρ|.cont=>J ρ|.brk=>Q .next ρ|.ret v=>Q (.ret v) ρ
section
variable{np:Nat}{Q:R->List Sl->Prop}{ρ:List Sl}{v:R}{c:Call}{n:Nat}{r:List S}{Q':Fl->List Sl->Prop}{J:List Sl->Prop}
@[simp]theorem aaW:eQ np Q .next ρ=Q (.val .non) (ρ.take np):=rfl
@[simp]theorem ad5:eQ np Q (.ret v) ρ=Q v (ρ.take np):=rfl
@[simp]theorem ace:eQ np Q .brk ρ=False:=rfl
@[simp]theorem aa6:eQ np Q .cont ρ=False:=rfl
@[simp]theorem abp:sQ c n r Q' .next ρ=(fO c n r ρ).sat Q':=rfl
@[simp]theorem ad6:sQ c n r Q' (.ret v) ρ=Q' (.ret v) ρ:=rfl
@[simp]theorem aek:sQ c n r Q' .brk ρ=Q' .brk ρ:=rfl
@[simp]theorem abl:sQ c n r Q' .cont ρ=Q' .cont ρ:=rfl
@[simp]theorem abC:fQ J Q' .next ρ=J ρ:=rfl
@[simp]theorem aaO:fQ J Q' .cont ρ=J ρ:=rfl
@[simp]theorem ad7:fQ J Q' .brk ρ=Q' .next ρ:=rfl
@[simp]theorem aeD:fQ J Q' (.ret v) ρ=Q' (.ret v) ρ:=rfl
end
theorem FN{d:Fd}{args:List Sl}{Q:R->List Sl->Prop}(a:args.length=d.np)(hd:d.np<=d.nn)(h:(fO c n d.body (args++replicate (d.nn-d.np) .aN)).sat (eQ d.np Q)):(enter c n d args).sat Q:=by unfold enter;rw[if_pos ⟨a,hd⟩];revert h;cases fO c n d.body (args++replicate (d.nn-d.np) .aN)with|stuck=>exact λh=>False.elim h|exc _ _=>exact λh=>False.elim h|ok fl ρ=>cases fl<;>first|exact id|exact λh=>False.elim h
theorem bz{Γ:Tab}{w i:Nat}{d:Fd}{args:List Sl}{Q:R->List Sl->Prop}(a:Γ i=some d)(b:args.length=d.np)(hd:d.np<=d.nn)(h:(fO (run Γ w n) w d.body (args++replicate (d.nn-d.np) .aN)).sat (eQ d.np Q)):(run Γ w (n+1) i args).sat Q:=by rw[n8 a];exact FN b hd h
theorem aj{s:S}{r:List S}{Q:Fl->List Sl->Prop}(h:(ex c n s ρ).sat (sQ c n r Q)):(fO c n (s::r) ρ).sat Q:=by rw[Vb,cz];refine h.imp λfl a q=>?_;cases fl<;>exact q
theorem FP{s:S}{r:List S}{Q:Fl->List Sl->Prop}(h:(ex c n s ρ).sat (sQ c n r Q)):sQ c n (s::r) Q .next ρ:=aj h
@[simp]theorem abj{c:Call}{n:Nat}{ρ:List Sl}{Q:Fl->List Sl->Prop}:(fO c n [] ρ).sat Q=Q .next ρ:=by rw[xs0];rfl
theorem jF{s:S}{r:List S}{Q:Fl->List Sl->Prop}(M:List Sl->Prop)(h:(ex c n s ρ).sat λfl a=>fl=.next/\M a)(k:∀a,M a->(fO c n r a).sat Q):(fO c n (s::r) ρ).sat Q:=aj (h.imp λfl a⟨e,q⟩=>by subst e;exact k a q)
theorem bR{is:List Nat}{one:Bool}{body:List Sl->Res Fl}(J:List D->List Sl->Prop){Q:Fl->List Sl->Prop}(b:∀d r ρ,J (d::r) ρ->∃a,cj ρ is one d=some a/\(body a).sat (fQ (J r) Q))(f:∀ρ,J [] ρ->Q .next ρ):∀{ds:List D}{ρ:List Sl},J ds ρ->(jq is one body ds ρ).sat Q|[],ρ,j=>f ρ j|d::r,ρ,j=>by obtain⟨a,e,h⟩:=b d r ρ j;rw[Ao,e];show((body a).bind _).sat Q;rw[cz];refine h.imp λfl g q=>?_;cases fl with|next=>exact bR J b f q|cont=>exact bR J b f q|brk=>exact q|ret v=>exact q
theorem lG{is:List Nat}{one:Bool}{a:List Sl->Res Bool}{p:Ev}(J:List Sl->Prop)(g:D->Option D){Q:List D->List Sl->Prop}:∀{ds f:List D}{ρ:List Sl},J ρ->(∀ d,d ∈ ds->∀ ρ,J ρ->∃ i,cj ρ is one d=some i/\(a i).sat λb l=>if b=true then(p l).sat λr s=>g d=some r.d/\J s else g d=none/\J l)->(∀ ρ,J ρ->Q (f++ds.filterMap g) ρ)->(turns is one a p ds f ρ).sat Q|[],f,ρ,j,h,k=>by rw[Ii];simpa using k ρ j|d::r,f,ρ,j,h,k=>by obtain⟨i,e,h1⟩:=h d (by simp) ρ j;rw[J6,e];show((a i).bind _).sat Q;rw[cz];refine h1.imp λb l q=>?_;cases b with|true=>rw[if_pos rfl]at q;rw[if_pos rfl,cz];refine q.imp λx s⟨u,j3⟩=>?_;refine lG J g j3 (λd' m=>h d' (by simp[m])) λo t=>?_;have:=k o t;rw[filterMap_cons,u]at this;rw[append_assoc];exact this|false=>rw[if_neg (by simp)]at q;rw[if_neg (by simp)];refine lG J g q.2 (λd' m=>h d' (by simp[m])) λo t=>?_;have:=k o t;rw[filterMap_cons,q.1]at this;exact this
theorem zQ{one:Bool}{b:Ev}(J:List Sl->Prop)(g:D->D){Q:List D->List Sl->Prop}(j:J ρ)(h:∀d,d∈ds->∀ρ,J ρ->∃a,cj ρ is one d=some a/\(b a).sat λr f=>g d=r.d/\J f)(k:∀ρ,J ρ->Q (ds.map g) ρ):(turns is one (wN c none) b ds [] ρ).sat Q:=lG J (λd=>some (g d)) j (λd hd ρ j=>by obtain⟨a,e,h1⟩:=h d hd ρ j;refine⟨a,e,?_⟩;rw[wN,Rj,if_pos rfl];exact h1.imp λr f q=>⟨by rw[q.1],q.2⟩) λρ j=>by simpa using k ρ j
section
variable{ρ l:List Sl}{a:Sl}{i j:Int}{k m:Nat}{b b':Bool}{s:Str}{d:D}{ds es:List D}{e f:Ev}{x:Option Sl}{c:Call}
@[simp]theorem Ua:cF .int .non=false:=rfl
@[simp]theorem V8:cF .int (.bl b)=true:=rfl
@[simp]theorem RW:cF .int (.int i)=true:=rfl
@[simp]theorem Vw:cF .int (.str s)=false:=rfl
@[simp]theorem T3:cF .int (.tup ds)=false:=rfl
@[simp]theorem Ul:cF .int (.lst ds)=false:=rfl
@[simp]theorem PB:cF .bool .non=false:=rfl
@[simp]theorem Tr:cF .bool (.bl b)=true:=rfl
@[simp]theorem Qq:cF .bool (.int i)=false:=rfl
@[simp]theorem Qn:cF .bool (.str s)=false:=rfl
@[simp]theorem Pr:cF .bool (.tup ds)=false:=rfl
@[simp]theorem Pn:cF .bool (.lst ds)=false:=rfl
@[simp]theorem T5:cF .str .non=false:=rfl
@[simp]theorem V3:cF .str (.bl b)=false:=rfl
@[simp]theorem RM:cF .str (.int i)=false:=rfl
@[simp]theorem Vs:cF .str (.str s)=true:=rfl
@[simp]theorem Ru:cF .str (.tup ds)=false:=rfl
@[simp]theorem Uz:cF .str (.lst ds)=false:=rfl
@[simp]theorem N5:cF .tuple .non=false:=rfl
@[simp]theorem Qv:cF .tuple (.bl b)=false:=rfl
@[simp]theorem Ob:cF .tuple (.int i)=false:=rfl
@[simp]theorem Lp:cF .tuple (.str s)=false:=rfl
@[simp]theorem Ld:cF .tuple (.tup ds)=true:=rfl
@[simp]theorem Ml:cF .tuple (.lst ds)=false:=rfl
@[simp]theorem Qa:cF .list .non=false:=rfl
@[simp]theorem Vg:cF .list (.bl b)=false:=rfl
@[simp]theorem QD:cF .list (.int i)=false:=rfl
@[simp]theorem Qs:cF .list (.str s)=false:=rfl
@[simp]theorem QH:cF .list (.tup ds)=false:=rfl
@[simp]theorem Ph:cF .list (.lst ds)=true:=rfl
@[simp]theorem QG:cF .none .non=true:=rfl
@[simp]theorem RG:cF .none (.bl b)=false:=rfl
@[simp]theorem Qu:cF .none (.int i)=false:=rfl
@[simp]theorem PN:cF .none (.str s)=false:=rfl
@[simp]theorem PK:cF .none (.tup ds)=false:=rfl
@[simp]theorem Pk:cF .none (.lst ds)=false:=rfl
@[simp]theorem Xc:j6 .non=true:=rfl
@[simp]theorem XC:j6 (.bl b)=false:=rfl
@[simp]theorem W9:j6 (.int i)=false:=rfl
@[simp]theorem W3:j6 (.str s)=false:=rfl
@[simp]theorem Xe:j6 (.tup ds)=false:=rfl
@[simp]theorem Xg:j6 (.lst ds)=false:=rfl
@[simp]theorem Zu:flat .non=true:=rfl
@[simp]theorem abu:flat (.bl b)=true:=rfl
@[simp]theorem yL:flat (.int i)=true:=rfl
@[simp]theorem Yr:flat (.str s)=true:=rfl
@[simp]theorem ZP:flat (.tup ds)=false:=rfl
@[simp]theorem Zq:flat (.lst ds)=false:=rfl
@[simp]theorem adi:(R.val d).d=d:=rfl
@[simp]theorem aeo:(R.own ds).d=.lst ds:=rfl
@[simp]theorem Zi:zY (.val d)=.val false d:=rfl
@[simp]theorem Zv:zY (.own ds)=.own false ds:=rfl
@[simp]theorem Wi:uV (.val d)=.dat d:=rfl
@[simp]theorem Wa:uV (.own ds)=.tmp ds:=rfl
@[simp]theorem abH:jb (.int i)=some i:=rfl
@[simp]theorem adE:zc (.bl b)=some b:=rfl
@[simp]theorem uH:items (.lst ds)=some ds:=rfl
@[simp]theorem Wf:items (.tup ds)=some ds:=rfl
@[simp]theorem T9:T6 (.tup ds)=some ds:=rfl
@[simp]theorem RQ:zy (.lst ds)=some ds:=rfl
@[simp]theorem aa4:tR .add=rP:=rfl
@[simp]theorem aaJ:tR .sub=yJ:=rfl
@[simp]theorem aaA:tR .mul=lX:=rfl
@[simp]theorem YC:tR .fdiv=rB:=rfl
@[simp]theorem abt:tR .mod=yK:=rfl
@[simp]theorem aa1:tR .pow=xF:=rfl
@[simp]theorem Wr:rP (.int i) (.int j)=some (.val (.int (i+j))):=rfl
@[simp]theorem Xb:rP (.lst ds) (.lst es)=if ds.length+es.length<=lim then some (.own (ds++es))else none:=rfl
@[simp]theorem WW:rP (.tup ds) (.tup es)=if ds.length+es.length<=lim then some (.val (.tup (ds++es)))else none:=rfl
@[simp]theorem Ws:yJ (.int i) (.int j)=some (.val (.int (i-j))):=rfl
@[simp]theorem Xj:lX (.int i) (.int j)=if((-18446744073709551616<i/\i<18446744073709551616)\/(-18446744073709551616<j/\j<18446744073709551616))then some (.val (.int (i*j)))else none:=rfl
@[simp]theorem Vt:rB (.int i) (.int j)=if 0<j/\j<1606938044258990275541962092341162602522202993782792835301376 then some (.val (.int (i/j)))else none:=rfl
@[simp]theorem V5:yK (.int i) (.int j)=if 0<j then some (.val (.int (i%j)))else none:=rfl
@[simp]theorem W7:xF (.int i) (.int j)=if 0<=j/\j<=1000/\i.natAbs<18446744073709551616 then some (.val (.int (i^j.toNat)))else none:=rfl
@[simp]theorem abe:Nv (.lst ds) (.int i)=(at' ds i).map .val:=rfl
@[simp]theorem aaN:Nv (.tup ds) (.int i)=(at' ds i).map .val:=rfl
@[simp]theorem ZL:Jg (.int i)=some (.val (.int (-i))):=rfl
@[simp]theorem Wg:cm .eq (.int i) (.int j)=some (i==j):=rfl
@[simp]theorem WK:cm .ne (.int i) (.int j)=some (!(i==j)):=rfl
@[simp]theorem XJ:cm .eq (.bl b) (.bl b')=some (b==b'):=rfl
@[simp]theorem YD:cm .ne (.bl b) (.bl b')=some (!(b==b')):=rfl
@[simp]theorem Xi:cm .lt (.int i) (.int j)=some (decide (i<j)):=rfl
@[simp]theorem W2:cm .le (.int i) (.int j)=some (decide (i<=j)):=rfl
@[simp]theorem Wq:cm .gt (.int i) (.int j)=some (decide (j<i)):=rfl
@[simp]theorem VM:cm .ge (.int i) (.int j)=some (decide (j<=i)):=rfl
@[simp]theorem ad8:cm .isN d .non=some (j6 d):=rfl
@[simp]theorem abM:cm .O4 d .non=some (!j6 d):=rfl
@[simp]theorem PJ:blt .len [.lst ds]=some (.val (.int ds.length)):=rfl
@[simp]theorem Pb:blt .len [.tup ds]=some (.val (.int ds.length)):=rfl
@[simp]theorem LR:blt .list [.lst ds]=some (.own ds):=rfl
@[simp]theorem Oa:blt .list [.tup ds]=some (.own ds):=rfl
@[simp]theorem KZ:blt .tuple [.lst ds]=some (.val (.tup ds)):=rfl
@[simp]theorem K5:blt .tuple [.tup ds]=some (.val (.tup ds)):=rfl
@[simp]theorem XR:blt .min2 [.int i,.int j]=some (.val (.int (if j<i then j else i))):=rfl
@[simp]theorem Y0:blt .max2 [.int i,.int j]=some (.val (.int (if i<j then j else i))):=rfl
@[simp]theorem abE:blt .all [.lst ds]=(ds.mapM zc).map λbs=>.val (.bl (bs.all id)):=rfl
@[simp]theorem WL:isVar (.var k)=some k:=rfl
@[simp]theorem abJ:pk (a::l) k=match(a::l)[k]?with|some (.val _ d)=>some d|some (.own _ ds)=>some (.lst ds)|some (.lent ds)=>some (.lst ds)|_=>none:=rfl
@[simp]theorem ZR:Gu (a::l) k=match pk (a::l) k with|some (.lst ds)=>some ds|_=>none:=rfl
@[simp]theorem Y6:cL (some k) e ρ=lift (pk ρ k) ρ:=rfl
@[simp]theorem Zd:cL none e ρ=(e ρ).bind λr ρ=>.ok r.d ρ:=rfl
@[simp]theorem Wn{y:Option Nat}:kj (some k) e y f ρ=(lift (pk ρ k) ρ).bind λ_ ρ=>(cL y f ρ).bind λy ρ=>(lift (pk ρ k) ρ).bind λx ρ=>.ok (x,y) ρ:=rfl
@[simp]theorem Wk{y:Option Nat}:kj none e y f ρ=(cL none e ρ).bind λx ρ=>(cL y f ρ).bind λy ρ=>.ok (x,y) ρ:=rfl
@[simp]theorem V2{es:List D}:dh (.own b ds) (some (.own b' es))=.own b es:=rfl
@[simp]theorem Wo:dh (.own b ds) (some (.val b' d))=.val b d:=rfl
@[simp]theorem J0:dh a none=a:=by cases a<;>rfl
@[simp]theorem Er:dh (.val b d) x=.val b d:=by cases x<;>rfl
@[simp]theorem We:dh .aN x=.aN:=by cases x<;>rfl
@[simp]theorem Ae:dh (.lent ds) x=.lent ds:=by cases x<;>rfl
@[simp]theorem YX:cj ρ [k] true d=put ρ k (.val false d):=rfl
@[simp]theorem W6{is:List Nat}:cj ρ is false (.tup ds)=putAll ρ is ds:=by cases is<;>rfl
@[simp]theorem Sh:srcOf none e ρ=(e ρ).bind λr ρ=>lift (items r.d) ρ:=rfl
@[simp]theorem Tz:srcOf (some k) e (a::l)=match(a::l)[k]?with|some (.val _ d)=>lift (items d) (a::l)|some (.own _ ds)=>.ok ds ((a::l).set k (.lent ds))|some (.lent ds)=>.ok ds (a::l)|_=>.stuck:=rfl
@[simp]theorem Qd{g:List Sl}:bj g none ρ=ρ:=rfl
@[simp]theorem Pj:bj (a::l) (some k) ρ=match(a::l)[k]?with|some (.own b ds)=>ρ.set k (.own b ds)|_=>ρ:=rfl
@[simp]theorem Zy{s:Sl}:put (a::l) k s=match(a::l)[k]?with|some t=>if fr t=true then some ((a::l).set k s)else none|none=>none:=TY ..
@[simp]theorem U7:putAll ρ [] []=some ρ:=rfl
@[simp]theorem QF{is:List Nat}:putAll ρ (k::is) (d::ds)=(put ρ k (.val false d)).bind λρ=>putAll ρ is ds:=rfl
end
@[simp]theorem at_0{a:Type}{b:a}{l:List a}:at' (b::l) 0=some b:=by unfold at' jP;rw[if_pos (by decide),if_pos (by simp only[length_cons];omega)];rfl
@[simp]theorem at_1{a:Type}{e b:a}{l:List a}:at' (e::b::l) 1=some b:=by unfold at' jP;rw[if_pos (by decide),if_pos (by simp only[length_cons];omega)];rfl
@[simp]theorem at_2{a:Type}{e f b:a}{l:List a}:at' (e::f::b::l) 2=some b:=by unfold at' jP;rw[if_pos (by decide),if_pos (by simp only[length_cons];omega)];rfl
@[simp]theorem at_3{a:Type}{e f g b:a}{l:List a}:at' (e::f::g::b::l) 3=some b:=by unfold at' jP;rw[if_pos (by decide),if_pos (by simp only[length_cons];omega)];rfl
@[simp]theorem at_4{a:Type}{e f g h b:a}{l:List a}:at' (e::f::g::h::b::l) 4=some b:=by unfold at' jP;rw[if_pos (by decide),if_pos (by simp only[length_cons];omega)];rfl
@[simp]theorem at_5{a:Type}{e f g h i b:a}{l:List a}:at' (e::f::g::h::i::b::l) 5=some b:=by unfold at' jP;rw[if_pos (by decide),if_pos (by simp only[length_cons];omega)];rfl
@[simp]theorem at_6{a:Type}{e f g h i j b:a}{l:List a}:at' (e::f::g::h::i::j::b::l) 6=some b:=by unfold at' jP;rw[if_pos (by decide),if_pos (by simp only[length_cons];omega)];rfl
@[simp]theorem at_7{a:Type}{e f g h i j k b:a}{l:List a}:at' (e::f::g::h::i::j::k::b::l) 7=some b:=by unfold at' jP;rw[if_pos (by decide),if_pos (by simp only[length_cons];omega)];rfl
theorem zA{a:Type}{l:List a}{i:Int}(h:0<=i)(h':i<l.length):at' l i=l[i.toNat]?:=by unfold at' jP;rw[if_pos h,if_pos h'];rfl
theorem Ib{a:Type}{l:List a}{k:Nat}(h':k<l.length):at' l (k:Int)=l[k]?:=by rw[zA (by omega) (by omega)];simp
@[simp]theorem Ww{d:D}:isVar (.con d)=none:=rfl
@[simp]theorem V4{o:Op}{p q:P}:isVar (.bin o p q)=none:=rfl
@[simp]theorem Wx{p:P}:isVar (.neg p)=none:=rfl
@[simp]theorem VP{p:P}:isVar (.not p)=none:=rfl
@[simp]theorem VN{p q:P}:isVar (.and p q)=none:=rfl
@[simp]theorem Xr{p q:P}:isVar (.or p q)=none:=rfl
@[simp]theorem Xh{o:Cm}{p q:P}:isVar (.cmp o p q)=none:=rfl
@[simp]theorem Wb{p q r:P}:isVar (.QT p q r)=none:=rfl
@[simp]theorem WN{as:List P}:isVar (.tup as)=none:=rfl
@[simp]theorem Wc{as:List P}:isVar (.lst as)=none:=rfl
@[simp]theorem W0{p q:P}:isVar (.idx p q)=none:=rfl
@[simp]theorem Qc{p q r:P}:isVar (.slice p q r)=none:=rfl
@[simp]theorem Ti{f:Nat}{as:List P}:isVar (.call f as)=none:=rfl
@[simp]theorem WX{b:Zb}{as:List P}:isVar (.blt b as)=none:=rfl
@[simp]theorem R6{a:List Ty}{p:P}:isVar (.inst a p)=none:=rfl
@[simp]theorem TF{p e:P}{n:Nat}{is:List Nat}{one:Bool}{t:Option P}:isVar (.comp p n is one t e)=none:=rfl
@[simp]theorem Xf{p q:P}:isVar (.wW p q)=none:=rfl
@[simp]theorem V9{p q:P}:isVar (.zip p q)=none:=rfl
noncomputable def rK(c:Call)(is:List Nat)(one:Bool)(a:Option P)(b:P)(ds:List D)(ρ:List Sl):Res (List D):=turns is one (wN c a) (ev c b) ds [] ρ
@[simp]theorem aaX{c:Call}{src f:P}{n:Nat}{is:List Nat}{one:Bool}{b:Option P}{ρ:List Sl}:ev c (.comp src n is one b f) ρ=(srcOf (isVar src) (ev c src) ρ).bind λds a=>if ds.length<=lim then(rK c is one b f ds (a++replicate n .aN)).bind λxs e=>.ok (.own xs) (bj ρ (isVar src) (e.take a.length))else .stuck:=(rfl)
noncomputable def Ih(c:Call)(n:Nat)(t:P)(body:List S)(k:Nat)(ρ:List Sl):Res Fl:=rZ (iY (ev c t)) (fO c n body) k ρ
@[simp]theorem aey{c:Call}{n:Nat}{t:P}{body:List S}{ρ:List Sl}:ex c n (.whl t body) ρ=Ih c n t body n ρ:=(rfl)
theorem wM{b e h:Type}{x:Res e}{f:e->List Sl->Res b}{g:b->List Sl->Res h}:(x.bind f).bind g=x.bind λa ρ=>(f a ρ).bind g:=by cases x<;>rfl
@[simp]theorem adh{Γ:Tab}{w n i:Nat}{args:List Sl}{b:Type}{f:R->List Sl->Res b}{Q:b->List Sl->Prop}:((run Γ w n i args).bind f).sat Q=(run Γ w n i args).sat λa ρ=>(f a ρ).sat Q:=cz
@[simp]theorem acp{Γ:Tab}{w n i:Nat}{args:List Sl}{b e:Type}{f:R->List Sl->Res b}{g:b->List Sl->Res e}:((run Γ w n i args).bind f).bind g=(run Γ w n i args).bind λa ρ=>(f a ρ).bind g:=wM
@[simp]theorem aby{c:Call}{is:List Nat}{one:Bool}{b:Option P}{e:P}{ds:List D}{ρ:List Sl}{g:Type}{f:List D->List Sl->Res g}{Q:g->List Sl->Prop}:((rK c is one b e ds ρ).bind f).sat Q=(rK c is one b e ds ρ).sat λa ρ=>(f a ρ).sat Q:=cz
@[simp]theorem abb{c:Call}{is:List Nat}{one:Bool}{b:Option P}{e:P}{ds:List D}{ρ:List Sl}{h i:Type}{f:List D->List Sl->Res h}{g:h->List Sl->Res i}:((rK c is one b e ds ρ).bind f).bind g=(rK c is one b e ds ρ).bind λa ρ=>(f a ρ).bind g:=wM
@[simp]theorem acz{is:List Nat}{one:Bool}{b:List Sl->Res Fl}{ds:List D}{ρ:List Sl}{e:Type}{f:Fl->List Sl->Res e}{Q:e->List Sl->Prop}:((jq is one b ds ρ).bind f).sat Q=(jq is one b ds ρ).sat λa ρ=>(f a ρ).sat Q:=cz
@[simp]theorem aaI{b e:Type}{p:Prop}[Decidable p]{a:e}{ρ:List Sl}{f:e->List Sl->Res b}{Q:b->List Sl->Prop}:((lift (if p then some a else none) ρ).bind f).sat Q=(p/\(f a ρ).sat Q):=by by_cases h:p<;>simp[h,lift,Res.bind]
@[simp]theorem abI{b e h:Type}{p:Prop}[Decidable p]{a:e}{ρ:List Sl}{f:e->List Sl->Res b}{g:b->List Sl->Res h}:((lift (if p then some a else none) ρ).bind f).bind g=(lift (if p then some a else none) ρ).bind λa ρ=>(f a ρ).bind g:=wM
@[simp]theorem bb_ite{b a:Type}{p:Prop}[Decidable p]{x y:Res a}{f:a->List Sl->Res b}:(if p then x else y).bind f=if p then x.bind f else y.bind f:=by by_cases h:p<;>simp[h]
@[simp]theorem acn{c:Call}{n k:Nat}{t:P}{b:List S}{ρ:List Sl}{e:Type}{f:Fl->List Sl->Res e}{Q:e->List Sl->Prop}:((Ih c n t b k ρ).bind f).sat Q=(Ih c n t b k ρ).sat λa ρ=>(f a ρ).sat Q:=cz
@[simp]theorem ad4{b e:Type}{a:b}{ρ:List Sl}{f:b->List Sl->Res e}:(Res.ok a ρ).bind f=f a ρ:=rfl
@[simp]theorem Xa{a b:Type}{f:a->List Sl->Res b}:(Res.stuck:Res a).bind f=.stuck:=rfl
@[simp]theorem XH{b:Type}{a:b}{ρ:List Sl}:lift (some a) ρ=.ok a ρ:=rfl
@[simp]theorem Ye{a:Type}{ρ:List Sl}:lift (none:Option a) ρ=.stuck:=rfl
noncomputable def Gs:List Sl->Nat->Sl->List Sl|[],_,_=>[]|t::ρ,0,s=>dh t (some s)::ρ|t::ρ,k+1,s=>t::Gs ρ k s
theorem qN{k:Nat}{s:Sl}:Gs [] k s=[]:=rfl
theorem sY{t:Sl}{ρ:List Sl}{s:Sl}:Gs (t::ρ) 0 s=dh t (some s)::ρ:=rfl
theorem qM{t:Sl}{ρ:List Sl}{k:Nat}{s:Sl}:Gs (t::ρ) (k+1) s=t::Gs ρ k s:=rfl
noncomputable def bk:List Arg->List Sl->List Sl->List Sl|.gq k::as,s::ss,ρ=>bk as ss (Gs ρ k s)|.dat _::as,_::ss,ρ=>bk as ss ρ|.tmp _::as,_::ss,ρ=>bk as ss ρ|_,_,ρ=>ρ
section
variable{t s:Sl}{ρ ss:List Sl}{k:Nat}{as:List Arg}{d:D}{ds:List D}
@[simp]theorem afY:Gs (t::ρ) 0 s=dh t (some s)::ρ:=rfl
@[simp]theorem afW:Gs (t::ρ) (k+1) s=t::Gs ρ k s:=rfl
@[simp]theorem Up:bk (.gq k::as) (s::ss) ρ=bk as ss (Gs ρ k s):=rfl
@[simp]theorem Ui:bk (.dat d::as) (s::ss) ρ=bk as ss ρ:=rfl
@[simp]theorem T8:bk (.tmp ds::as) (s::ss) ρ=bk as ss ρ:=rfl
@[simp]theorem acI:bk [] ss ρ=ρ:=rfl
end
theorem zr{s:Sl}:∀{ρ:List Sl}{k j:Nat},(Gs ρ k s)[j]?=(ρ[j]?).map λt=>if j=k then dh t (some s)else t|[],_,_=>by simp[qN,sY,qM]|t::ρ,0,0=>by simp[qN,sY,qM]|t::ρ,0,j+1=>by simp[qN,sY,qM]|t::ρ,k+1,0=>by simp[qN,sY,qM]|t::ρ,k+1,j+1=>by have:=zr (s:=s) (ρ:=ρ) (k:=k) (j:=j);simp only[qN,sY,qM,List.getElem?_cons_succ,this];congr 1;funext t;simp
theorem yS{as:List Arg}{ss:List Sl}:∀{ρ:List Sl}{i j:Nat},(fH as ss i ρ)[j]?=(ρ[j]?).map λt=>dh t (aM (i+j) as ss)|[],_,_=>by simp[jJ,gV]|t::ρ,i,0=>by simp[jJ,gV]|t::ρ,i,j+1=>by have:=yS (as:=as) (ss:=ss) (ρ:=ρ) (i:=i+1) (j:=j);simp only[jJ,gV,List.getElem?_cons_succ,this];rw[show i+1+j=i+(j+1)by omega]
def stb(t:Sl):Prop:=∀x,dh t x=t
def Ut(ρ:List Sl):List Arg->Prop|[]=>True|.gq k::as=>(Arg.gq k∈as->∀t,ρ[k]?=some t->stb t)/\Ut ρ as|_::as=>Ut ρ as
theorem qu{ρ:List Sl}:∀{as:List Arg}{a:List Sl},Ut ρ as->(∀k,Arg.gq k∈as->∀t,a[k]?=some t->ρ[k]?=some t\/stb t)->Ut a as
 |[],_,_,_=>trivial|.gq k::as,a,h,g=>⟨λf t ht=>by
  rcases g k (by simp) t ht with e|e;.exact h.1 f t e
  .exact e,qu h.2 λj b=>g j (by simp[b])⟩|.dat _::as,a,h,g=>qu (as:=as) h λj b=>g j (by simp[b])|.tmp _::as,a,h,g=>qu (as:=as) h λj b=>g j (by simp[b])
theorem mZ{k:Nat}:∀{as:List Arg}{ss:List Sl},Arg.gq k∉as->aM k as ss=none|[],_,_=>by unfold aM;rfl|.gq j::as,[],_=>rfl|.dat _::as,[],_=>rfl|.tmp _::as,[],_=>rfl|.gq j::as,s::ss,h=>by simp only[mem_cons,Arg.gq.injEq,not_or]at h;rw[aM,if_neg (λe=>h.1 e.symm),mZ h.2]|.dat _::as,s::ss,h=>by simp only[mem_cons,not_or]at h;rw[aM,mZ h.2]|.tmp _::as,s::ss,h=>by simp only[mem_cons,not_or]at h;rw[aM,mZ h.2]
theorem Ds:∀{as:List Arg}{ss ρ:List Sl},Ut ρ as->∀j,(bk as ss ρ)[j]?=(ρ[j]?).map λt=>dh t (aM j as ss)
 |[],ss,ρ,_,j=>by cases ss<;>simp[aM]|.gq k::as,[],ρ,_,j=>by rw[show bk (.gq k::as) [] ρ=ρ from rfl];simp[aM]|.dat d::as,[],ρ,_,j=>by rw[show bk (.dat d::as) [] ρ=ρ from rfl];simp[aM]|.tmp d::as,[],ρ,_,j=>by rw[show bk (.tmp d::as) [] ρ=ρ from rfl];simp[aM]|.dat _::as,s::ss,ρ,h,j=>by rw[Ui,aM];exact Ds (as:=as) h j|.tmp _::as,s::ss,ρ,h,j=>by rw[T8,aM];exact Ds (as:=as) h j|.gq k::as,s::ss,ρ,h,j=>by
   have b:Ut (Gs ρ k s) as:=qu h.2 λi hi t ht=>by rw[zr]at ht;cases e:ρ[i]?with|none=>rw[e]at ht;cases ht|some t0=>
      rw[e]at ht;by_cases c:i=k;.subst c;have hs:=h.1 hi t0 e;simp[hs (some s)]at ht;exact .inl (by rw[ht])
      .simp[c]at ht;exact .inl (by rw[ht])
   rw[Up,Ds b j,zr,aM];cases e:ρ[j]?with|none=>rfl|some t0=>
     simp only[Option.map_some];by_cases c:j=k
     . subst c;rw[if_pos rfl,if_pos rfl];by_cases a:Arg.gq j∈as;.have hs:=h.1 a t0 e;rw[hs (some s),hs]
       .rw[mZ a,J0]
     .rw[if_neg c,if_neg (λz=>c z.symm)]
theorem gR{ρ:List Sl}{k:Nat}{b:Bool}{ds:List D}(e:ρ[k]?=some (.own b ds)):∀{as:List Arg}{u:List Nat}{r:List Sl},k∈u->bO ρ as u=some r->Arg.gq k∉as
 |[],_,_,_,_=>by simp|.dat _::as,u,r,a,h=>by simp only[mC,mL,mK,jr,map_eq_some_iff]at h;obtain⟨f,h,_⟩:=h;simp[gR e a h]|.tmp _::as,u,r,a,h=>by simp only[mC,mL,mK,jr,map_eq_some_iff]at h;obtain⟨f,h,_⟩:=h;simp[gR e a h]|.gq i::as,u,r,a,h=>by
   rw[jr]at h;have hi:i≠k:=by rintro rfl;rw[e]at h;simp[a]at h
   have:Arg.gq k∉as:=by
    split at h;.obtain⟨f,h,_⟩:=map_eq_some_iff.mp h;exact gR e a h
    . split at h;.cases h
      .obtain⟨f,h,_⟩:=map_eq_some_iff.mp h;exact gR e (by simp[a]) h
    . split at h;.cases h
      .obtain⟨f,h,_⟩:=map_eq_some_iff.mp h;exact gR e (by simp[a]) h
    .cases h
   simp[this];exact λz=>hi z.symm
theorem gU{ρ:List Sl}:∀{as:List Arg}{u:List Nat}{r:List Sl},bO ρ as u=some r->Ut ρ as
 |[],_,_,_=>trivial|.dat _::as,u,r,h=>by obtain⟨a,h,_⟩:=map_eq_some_iff.mp h;exact gU (as:=as) h|.tmp _::as,u,r,h=>by obtain⟨a,h,_⟩:=map_eq_some_iff.mp h;exact gU (as:=as) h|.gq i::as,u,r,h=>by
   rw[jr]at h;split at h;.rename_i b d q;obtain⟨a,h,_⟩:=map_eq_some_iff.mp h;exact⟨λ_ t ht=>by rw[q]at ht;cases ht;exact λx=>Er,gU h⟩
   . rename_i b ds q;split at h;.cases h
     .obtain⟨a,h,_⟩:=map_eq_some_iff.mp h;exact⟨λe=>absurd e (gR q (by simp) h),gU h⟩
   . rename_i ds q;split at h;.cases h
     .obtain⟨a,h,_⟩:=map_eq_some_iff.mp h;exact⟨λ_ t ht=>by rw[q]at ht;cases ht;exact λx=>Ae,gU h⟩
   .cases h
theorem Y9{as:List Arg}{ss r:List Sl}{u:List Nat}(h:bO ρ as u=some r):fH as ss 0 ρ=bk as ss ρ:=by apply List.ext_getElem?;intro j;rw[yS,Ds (gU h),zero_add]
@[simp]theorem Wd{c:Call}{k:Nat}{as:List Arg}{ρ:List Sl}:jB c k as ρ=match bO ρ as []with|none=>.stuck|some args=>(c k args).bind λr a=>.ok r (bk as a ρ):=by unfold jB;cases e:bO ρ as []with|none=>rfl|some args=>simp only[<-Y9 (r:=args) e];cases c k args<;>rfl
theorem dI{one:Bool}{a:P}(J:List Sl->Prop)(g:D->D){Q:List D->List Sl->Prop}(j:J ρ)(h:∀d,d∈ds->∀ρ,J ρ->∃b,cj ρ is one d=some b/\(ev c a b).sat λr e=>g d=r.d/\J e)(k:∀ρ,J ρ->Q (ds.map g) ρ):(rK c is one none a ds ρ).sat Q:=zQ J g j h k
theorem Fe{one:Bool}{i t:P}(J:List Sl->Prop)(g:D->Option D){Q:List D->List Sl->Prop}(j:J ρ)(h:∀d,d∈ds->∀ρ,J ρ->∃a,cj ρ is one d=some a/\(ev c t a).sat λr f=>∃b,r.d=.bl b/\if b=true then(ev c i f).sat λr l=>g d=some r.d/\J l else g d=none/\J f)(k:∀ρ,J ρ->Q (ds.filterMap g) ρ):(rK c is one (some t) i ds ρ).sat Q:=lG J g j (λd hd ρ j=>by obtain⟨a,e,h1⟩:=h d hd ρ j;refine⟨a,e,?_⟩;rw[wN,iY,cz];refine h1.imp λr f⟨b,e,q⟩=>?_;rw[e];exact q) λρ j=>by simpa using k ρ j
theorem j4{c:Call}{n:Nat}{t:P}{body:List S}(J:Nat->List Sl->Prop){Q:Fl->List Sl->Prop}(h:∀m ρ,J m ρ->(ev c t ρ).sat λr a=>∃b,r.d=.bl b/\if b=true then(fO c n body a).sat (fQ (λf=>∃g,g<m/\J g f) Q)else Q .next a):∀{k m:Nat}{ρ:List Sl},m<k->J m ρ->(Ih c n t body k ρ).sat Q|0,m,ρ,i,_=>absurd i (Nat.not_lt_zero _)|k+1,m,ρ,i,j=>by unfold Ih;rw[Js,cz,iY,cz];refine(h m ρ j).imp λr a⟨b,e,q⟩=>?_;rw[e];show(if b=true then _ else _:Res Fl).sat Q;cases b with|false=>rw[if_neg (by simp)]at q;rw[if_neg (by simp)];exact q|true=>rw[if_pos rfl]at q;rw[if_pos rfl,cz];refine q.imp λfl f q=>?_;cases fl with|next=>obtain⟨g,l,o⟩:=q;exact j4 J h (lt_of_lt_of_le l (Nat.lt_succ_iff.mp i)) o|cont=>obtain⟨g,l,o⟩:=q;exact j4 J h (lt_of_lt_of_le l (Nat.lt_succ_iff.mp i)) o|brk=>exact q|ret v=>exact q
@[simp]theorem afA:type_of%@HH.E1:=@HH.E1
@[simp]theorem afx:type_of%@HH.E2:=@HH.E2
@[simp]theorem afL:type_of%@HH.E3:=@HH.E3
@[simp]theorem afF:type_of%@HH.E4:=@HH.E4
@[simp]theorem afu:type_of%@HH.E5:=@HH.E5
@[simp]theorem afI:type_of%@HH.E6:=@HH.E6
@[simp]theorem afc:type_of%@HH.E7:=@HH.E7
@[simp]theorem afR:type_of%@HH.E8:=@HH.E8
@[simp]theorem acu:type_of%@HH.E9:=@HH.E9
@[simp]theorem acX:type_of%@HH.E10:=@HH.E10
@[simp]theorem adZ:type_of%@HH.E11:=@HH.E11
@[simp]theorem aes:type_of%@HH.E12:=@HH.E12
@[simp]theorem acM:type_of%@HH.E13:=@HH.E13
@[simp]theorem aez:type_of%@HH.E14:=@HH.E14
@[simp]theorem aeq:type_of%@HH.E15:=@HH.E15
@[simp]theorem acB:type_of%@HH.E16:=@HH.E16
@[simp]theorem abf:type_of%@HH.Yk:=@HH.Yk
@[simp]theorem acg:type_of%@HH.E17:=@HH.E17
@[simp]theorem acA:type_of%@HH.E18:=@HH.E18
@[simp]theorem adO:type_of%@HH.E19:=@HH.E19
@[simp]theorem acY:type_of%@HH.E20:=@HH.E20
@[simp]theorem afP:type_of%@HH.X1:=@HH.X1
@[simp]theorem afN:type_of%@HH.X2:=@HH.X2
@[simp]theorem afB:type_of%@HH.X3:=@HH.X3
@[simp]theorem afl:type_of%@HH.X4:=@HH.X4
@[simp]theorem afy:type_of%@HH.X5:=@HH.X5
@[simp]theorem afM:type_of%@HH.X6:=@HH.X6
@[simp]theorem afg:type_of%@HH.X7:=@HH.X7
@[simp]theorem afH:type_of%@HH.X8:=@HH.X8
@[simp]theorem acb:type_of%@HH.X9:=@HH.X9
@[simp]theorem acE:type_of%@HH.X10:=@HH.X10
@[simp]theorem acH:type_of%@HH.X11:=@HH.X11
@[simp]theorem aci:type_of%@HH.X12:=@HH.X12
@[simp]theorem aca:type_of%@HH.X13:=@HH.X13
@[simp]theorem aeA:type_of%@HH.iY.eq_1:=@HH.iY.eq_1
@[simp]theorem aeC:type_of%@HH.evs.eq_1:=@HH.evs.eq_1
@[simp]theorem adW:type_of%@HH.evs.eq_2:=@HH.evs.eq_2
@[simp]theorem ado:type_of%@HH.zj.eq_1:=@HH.zj.eq_1
@[simp]theorem adG:type_of%@HH.zj.eq_2:=@HH.zj.eq_2
@[simp]theorem aer:type_of%@HH.wN.eq_1:=@HH.wN.eq_1
@[simp]theorem acy:type_of%@HH.wN.eq_2:=@HH.wN.eq_2
@[simp]theorem ac4:type_of%@HH.yI.eq_1:=@HH.yI.eq_1
@[simp]theorem Z5:type_of%@HH.bO.eq_1:=@HH.bO.eq_1
@[simp]theorem Zh:type_of%@HH.bO.eq_2:=@HH.bO.eq_2
@[simp]theorem Zt:type_of%@HH.bO.eq_3:=@HH.bO.eq_3
@[simp]theorem YH:type_of%@HH.bO.eq_4:=@HH.bO.eq_4
@[simp]theorem Xz:type_of%@HH.fH.eq_1:=@HH.fH.eq_1
@[simp]theorem Yb:type_of%@HH.fH.eq_2:=@HH.fH.eq_2
@[simp]theorem Ys:type_of%@HH.aM.eq_1:=@HH.aM.eq_1
@[simp]theorem YT:type_of%@HH.aM.eq_2:=@HH.aM.eq_2
@[simp]theorem XN:type_of%@HH.aM.eq_3:=@HH.aM.eq_3
@[simp]theorem Yd:type_of%@HH.aM.eq_4:=@HH.aM.eq_4
end HH
end
section
namespace HH
open PySem L2 PySem.Spec PyProof.Rows
variable{H:Hp}
section
variable{X:Cx}{c:Call}{a b:Expr}{pa pb:P}{pos:Pos}
theorem rQ:∀{e:List D}{ns:List Int},e.mapM jb=some ns->e=ns.map D.int|[],ns,h=>by simp at h;subst h;rfl|d::e,ns,h=>by simp[List.mapM_cons,bind_eq_some_iff]at h;obtain⟨i,f,j,g,rfl⟩:=h;rw[cT f,rQ g];rfl
theorem jX{K:PySem.W.Frag}{F:Hp}:∀{ns:List Int}{ys:List V},aF K F ys (ns.map D.int)->ys=ns.map V.int|[],ys,h=>by rw[h.gG];rfl|n::ns,ys,h=>by obtain⟨v,r,rfl,h1,t⟩:=h.cI;rw[Rep]at h1;rw[h1,jX t];rfl
theorem wR{ns:List Int}{f:List Value}(h:Vals (ns.map V.int) f){i:Nat}{v:Value}(e:f.toArray[i]?=some v):∃t,v=.int (ns.getD i 0) t:=by
 have e:f[i]?=some v:=by simpa using e
 have hi:i<f.length:=(fM e).1;have k:=h.length;rw[length_map]at k;have g:(ns.map V.int)[i]?=some (.int (ns.getD i 0)):=by rw[getElem?_map,getElem?_eq_getElem (by omega)];simp[List.getD,show i<ns.length by omega]
 obtain⟨w,j,l⟩:=h.get g;rw[e]at j;cases j;exact l
theorem walked{h:List (Addr×Obj)}{σ:L2.St}{s:Shared}{p:Addr}{ys:List V}(I:L2.Inv X h σ H s)(hc:X.calm=true)(hq:gJ X.K H p ys\/lR X.K H p ys){Q:Value->Shared->Prop}{E:Value->Shared->Prop}(k:∀(it:Addr)(g:List Value)(e:Shared)(St:Nat->Heap->Prop),Vals ys g->Walks X.prog X.w X.A.in1 it [it,p] [it] g.toArray.size (λi v=>g.toArray[i]?=some v) St->St 0 e.heap->(∀ b ∈[it,p],b<e.heap.objs.size)->(∀h' tk,(∀b o,b∉[it]->e.heap.get? b=some o->h'.get? b=some o)->L2.Inv X h σ H {e with heap:=h',toks:=tk})->Q (.ref it) e):wpAny (model X.prog X.w) X.A.in1 (pyIter (.ref p)) Q E s:=by
 have q:X.A.in1.handled=none:=I.ok.hd hc;rcases hq with hq|hq
 . obtain⟨g,m,f,hz⟩:=I.list hq;have f:=f.isList;have j:p<s.heap.objs.size:=by obtain⟨o,h1,_⟩:=f;exact lt_size h1
   refine wpAny_pyIter_list f (k s.heap.objs.size g _ _ m (Walks.list q s.heap.objs.size p (ne_of_lt j) g.toArray) ⟨⟨_,get?_push_size _ rfl,rfl,rfl⟩,?_⟩ ?_ λh' tk kp=>?_);.obtain⟨o,h1,n⟩:=f;exact⟨o,iK h1,n⟩
   . intro b l;obtain⟨o,h1,_⟩:=f;simp at l;rcases l with rfl|rfl;.exact lt_size (get?_push_size _ rfl)
     .exact lt_size (iK h1)
   .exact I.kept (λb o z=>kp b o (by simp;exact ne_of_lt (lt_size z)) (iK z))
 . obtain⟨g,m,f,hz⟩:=I.tuple hq;have j:p<s.heap.objs.size:=by obtain⟨o,h1,_⟩:=f;exact lt_size h1
   refine wpAny_pyIter_tuple f (k s.heap.objs.size g _ _ m (Walks.tuple q s.heap.objs.size p (ne_of_lt j) g.toArray) ⟨⟨_,get?_push_size _ rfl,rfl,rfl⟩,?_⟩ ?_ λh' tk kp=>?_);.obtain⟨o,h1,n⟩:=f;exact⟨o,iK h1,n⟩
   . intro b l;obtain⟨o,h1,_⟩:=f;simp at l;rcases l with rfl|rfl;.exact lt_size (get?_push_size _ rfl)
     .exact lt_size (iK h1)
   .exact I.kept (λb o z=>kp b o (by simp;exact ne_of_lt (lt_size z)) (iK z))
theorem pI(ns:List Int):∀k,k<=ns.length->preSum (λi=>ns.getD i 0) k=(ns.take k).sum|0,_=>by simp[preSum]|k+1,h=>by rw[preSum,pI ns k (by omega),List.take_succ,List.sum_append];simp[List.getD,show k<ns.length by omega]
theorem QL(hc:X.calm=true):dU X (.builtin "sum") (Qj X.K λx=>blt .sum [x]):=by
 rintro g s σ H xs h Q I r⟨x,o,F,d,q,sm,t,he,k⟩;obtain⟨ns,w,he⟩:=map_some (show((items d).bind λj=>j.mapM jb).map _=some q from he);subst he;obtain⟨j,y,z⟩:=bW w;obtain⟨p,ys,rfl,A,l⟩:=t.items sm y;rw[rQ z]at l;have B:=jX l;subst o;obtain⟨u,rfl,C⟩:=r.one;cases C;refine call_sum_walkG (walked I hc A λit h m St n W h0 E kp=>?_);subst B;have f:h.toArray.size=ns.length:=by rw[size_toArray,<-n.length,length_map]
 refine⟨it,_,_,_,_,St,λi=>ns.getD i 0,rfl,W,h0,E,λi v e=>wR n e,λh' tk t' kk=>?_⟩;rw[f,pI ns _ (eY),List.take_length];exact⟨.int _,H,kp h' tk kk,⟨t',rfl⟩,cB.cY sm (bU _) k⟩
theorem HR{ns:List Int}{m:Int}(k:ns.min?=some m):ns.getD (argBest (λi j=>decide (ns.getD i 0<ns.getD j 0)) (ns.length-1)) 0=m:=by
 have h:ns≠[]:=by rintro rfl;simp at k
 have r:0<ns.length:=List.length_pos_iff.mpr h;obtain⟨h1,n⟩:=argBest_lt (λi=>ns.getD i 0) (ns.length-1);have l:=List.min?_eq_some_iff.mp k;generalize argBest (λi j=>decide (ns.getD i 0<ns.getD j 0)) (ns.length-1)=j at*;have o:j<ns.length:=by omega
 have f:ns.getD j 0∈ns:=by simp[List.getD,o]
 obtain⟨q,p,e⟩:=List.getElem_of_mem l.1;have g:=n q (by omega);simp only[List.getD,getElem?_eq_getElem p,Option.getD_some]at g;rw[e]at g;have s:=l.2 _ f;have g:ns.getD j 0<=m:=g;omega
theorem Su(hc:X.calm=true):dU X (.builtin "min") (Qj X.K λx=>blt .Ge [x]):=by
 rintro j s σ H xs l Q I r⟨x,z,F,d,A,sm,B,he,k⟩;obtain⟨ns,C,he⟩:=bW (show((items d).bind λn=>n.mapM jb).bind _=some A from he);obtain⟨m,o,he⟩:=map_some he;subst he;obtain⟨n,E,G⟩:=bW C;obtain⟨p,ys,rfl,J,q⟩:=B.items sm E;rw[rQ G]at q;have L:=jX q;subst z;obtain⟨u,rfl,M⟩:=r.one;cases M;refine call_min_walk (walked I hc J λit l w St h W h0 N kp=>?_);subst L;have f:l.toArray.size=ns.length:=by rw[size_toArray,<-h.length,length_map]
 have g:0<ns.length:=by cases ns with|nil=>simp at o|cons _ _=>simp
 refine⟨it,_,_,_,_,St,_,rfl,W,h0,N,by rw[f];exact g,CmpOf.ints_lt (λi=>ns.getD i 0) (λi v e=>wR h e),λv h' tk y kk=>?_⟩;rw[f]at y;obtain⟨t,rfl⟩:=wR h y;rw[HR o];exact⟨.int _,H,kp h' tk kk,⟨t,rfl⟩,cB.cY sm (bU _) k⟩
theorem boot_sum:bootBuiltins "sum"=some (.builtin "sum"):=by decide+kernel
theorem oZ{x:Str}{p':Pos}(e:x="sum")(hc:X.calm=true)(f:Gl X x)(g:X.mg x=none)(i:SX X c a pa)(hs:starEach [a] X.env=(false,eval a X.env)::starEach [] X.env:=by rfl):SX X c (.Call (.Name x p') [a] [] pos) (.blt .sum [pa]):=by subst e;exact sU (λh=>dD (QL hc) f g boot_sum h (he:=hs)) i (λρ=>rfl) rfl hs
theorem Dh{x:Str}{p':Pos}(e:x="min")(hc:X.calm=true)(f:Gl X x)(g:X.mg x=none)(i:SX X c a pa)(hs:starEach [a] X.env=(false,eval a X.env)::starEach [] X.env:=by rfl):SX X c (.Call (.Name x p') [a] [] pos) (.blt .Ge [pa]):=by subst e;exact sU (λh=>dD (Su hc) f g boot_min h (he:=hs)) i (λρ=>rfl) rfl hs
theorem zP{K:PySem.W.Frag}{F H:Hp}{v:V}{d:D}(h:dm K F H v d)(f:flat d=true):lY v=true:=by cases d with|non=>rw[h.non];rfl|bl _=>rw[h.bl];rfl|int _=>rw[h.int];rfl|str _=>rw[h.str];rfl|tup _=>cases f|lst _=>cases f|dH _=>cases f|dv _ _=>cases f
theorem ach{K:PySem.W.Frag}{F H:Hp}{v u:V}{d e:D}(h:dm K F H v d)(h':dm K F H u e)(f:flat d=true)(g:flat e=true):M8 v u=lE d e:=by cases d with
 |tup _=>cases f|lst _=>cases f|dH _=>cases f|dv _ _=>cases f|non=>rw[h.non];cases e with|tup _=>cases g|lst _=>cases g|dH _=>cases g|dv _ _=>cases g|non=>rw[h'.non];rfl|bl _=>rw[h'.bl];rfl|int _=>rw[h'.int];rfl|str _=>rw[h'.str];rfl
 |bl _=>rw[h.bl];cases e with|tup _=>cases g|lst _=>cases g|dH _=>cases g|dv _ _=>cases g|non=>rw[h'.non];rfl|bl _=>rw[h'.bl];rfl|int _=>rw[h'.int];rfl|str _=>rw[h'.str];rfl
 |int _=>rw[h.int];cases e with|tup _=>cases g|lst _=>cases g|dH _=>cases g|dv _ _=>cases g|non=>rw[h'.non];rfl|bl _=>rw[h'.bl];rfl|int _=>rw[h'.int];rfl|str _=>rw[h'.str];rfl
 |str _=>rw[h.str];cases e with|tup _=>cases g|lst _=>cases g|dH _=>cases g|dv _ _=>cases g|non=>rw[h'.non];rfl|bl _=>rw[h'.bl];rfl|int _=>rw[h'.int];rfl|str _=>rw[h'.str];rfl
theorem RD{K:PySem.W.Frag}{F H:Hp}{v:V}{d:D}(h:dm K F H v d)(f:flat d=true):∀{i:List D}{vs:List V},aF K F vs i->i.all flat=true->vs.all lY=true/\inV v vs=i.any λy=>lE y d|[],vs,r,_=>by rw[r.gG];exact⟨rfl,rfl⟩|e::i,vs,r,g=>by obtain⟨w,ws,rfl,h1,t⟩:=r.cI;rw[all_cons,and_eq_true]at g;obtain⟨k,j⟩:=RD h f t g.2;have q:dm K F H w e:=.inl h1;refine⟨by rw[all_cons,zP q g.1,k];rfl,?_⟩;unfold inV at j ⊢;rw[any_cons,any_cons,j,ach q h g.1 f]
theorem Lh:iH X (compareOp .In) (rD X.K (yI .inn)):=by rintro f s σ H x y v u Q I i j⟨F,d,e,r,sm,h,l,he,k⟩;obtain⟨t,m,n⟩:=map_some (show(yO false d e).map _=some r from he);subst n;obtain⟨E,o,q⟩:=bW m;obtain⟨g,w⟩:=aY q;rw[and_eq_true]at g;obtain⟨p,xs,rfl,z,A⟩:=l.items sm o;obtain⟨B,C⟩:=RD h g.1 A g.2;subst w;refine FQ f s σ H x _ v u Q I i j ⟨p,xs,rfl,z,zP h g.1,B,?_⟩;rw[C];exact cB.cY sm (gH _) k
theorem Ff:iH X (compareOp .NotIn) (rD X.K (yI .DR)):=by rintro f s σ H x y v u Q I i j⟨F,d,e,r,sm,h,l,he,k⟩;obtain⟨t,m,n⟩:=map_some (show(yO true d e).map _=some r from he);subst n;obtain⟨E,o,q⟩:=bW m;obtain⟨g,w⟩:=aY q;rw[and_eq_true]at g;obtain⟨p,xs,rfl,z,A⟩:=l.items sm o;obtain⟨B,C⟩:=RD h g.1 A g.2;subst w;refine vM f s σ H x _ v u Q I i j ⟨p,xs,rfl,z,zP h g.1,B,?_⟩;rw[C];exact cB.cY sm (gH _) k
end
end HH
end
section
namespace HH
open PySem
section
variable{i j:Int}{ds es:List D}{d:D}{b b':Bool}
@[simp]theorem abw:tR .shl=Jk:=rfl
@[simp]theorem aaH:tR .shr=Iz:=rfl
@[simp]theorem Ze:tR .band=zp:=rfl
@[simp]theorem Wu:Jk (.int i) (.int j)=if 0<=j/\j<=1000/\i.natAbs<18446744073709551616 then some (.val (.int (i*2^j.toNat)))else none:=rfl
@[simp]theorem Wl:Iz (.int i) (.int j)=if 0<=j then some (.val (.int (i/2^j.toNat)))else none:=rfl
@[simp]theorem Vf:zp (.int i) (.int j)=some (.val (.int (Builtin.bitAnd i j))):=rfl
@[simp]theorem V1:lX (.lst ds) (.int i)=if 0<=i/\0<ds.length/\ds.length*i.toNat<=lim then some (.own (replicate i.toNat ds).flatten)else none:=rfl
@[simp]theorem W8:lX (.tup ds) (.int i)=if 0<=i/\0<ds.length/\ds.length*i.toNat<=lim then some (.val (.tup (replicate i.toNat ds).flatten))else none:=rfl
@[simp]theorem ac8:cm .isT (.bl b) (.bl true)=some b:=rfl
@[simp]theorem aaz:cm .aad (.bl b) (.bl true)=some (!b):=rfl
@[simp]theorem abK:blt .sum [.lst ds]=(ds.mapM jb).map λns=>.val (.int ns.sum):=rfl
@[simp]theorem ZG:blt .Ge [.lst ds]=(ds.mapM jb).bind λns=>ns.min?.map λi=>.val (.int i):=rfl
end
@[simp]theorem ac6:type_of%@HH.X15:=@HH.X15
@[simp]theorem aei:type_of%@HH.X16:=@HH.X16
theorem ik{ns:List Int}:(ns.map D.int).mapM jb=some ns:=by induction ns with|nil=>rfl|cons n ns a=>simp[a]
@[simp]theorem Xd{ns:List Int}:ns.mapM (jb ∘ D.int)=some ns:=by rw[<-ik (ns:=ns),List.mapM_map]
@[simp]theorem YJ{bs:List Bool}:bs.mapM (zc ∘ D.bl)=some bs:=by induction bs with|nil=>rfl|cons b bs a=>simp[a]
theorem Cr{S:List Int}{i:Int}:((S.map D.int).any λy=>lE y (.int i))=S.contains i:=by induction S with|nil=>rfl|cons s S a=>rw[map_cons,any_cons,List.contains_cons,a,pqi];rw[show(s==i)=(i==s)from Bool.eq_iff_iff.mpr ⟨λh=>by simp at h ⊢;exact h.symm,λh=>by simp at h ⊢;exact h.symm⟩]
theorem xV{S:List Int}:(S.map D.int).all flat=true:=by rw[all_eq_true];intro d hd;obtain⟨i,_,rfl⟩:=mem_map.mp hd;rfl
theorem Ug{S:List Int}{i:Int}:cm .inn (.int i) (.lst (S.map D.int))=some (S.contains i):=by show yO false _ _=_;unfold yO;simp only[uH,bind_some,yL,xV,Bool.and_true,Cr];rfl
theorem Fg{S:List Int}{i:Int}:cm .DR (.int i) (.lst (S.map D.int))=some (!S.contains i):=by show yO true _ _=_;unfold yO;simp only[uH,bind_some,yL,xV,Bool.and_true,Cr];rfl
theorem qz{n:Nat}{S:List Int}:jT (n+1) (.lst (S.map D.int))=true:=by rw[bC,all_eq_true];intro d hd;obtain⟨i,_,rfl⟩:=mem_map.mp hd;cases n<;>rfl
theorem sI:∀{S T:List Int},lQ (S.map D.int) (T.map D.int)=(S==T)|[],[]=>by simp[mD,jw,sr,qK]|[],_::_=>by simp[mD,jw,sr,qK]|_::_,[]=>by simp[mD,jw,sr,qK]|s::S,t::T=>by rw[map_cons,map_cons,jw,sI,pqi];rfl
theorem abx{S T:List Int}:cm .eq (.lst (S.map D.int)) (.lst (T.map D.int))=some (S==T):=by show Jm _ _=_;unfold Jm;rw[qz,qz,pql,sI];rfl
theorem aaY{S T:List Int}:cm .ne (.lst (S.map D.int)) (.lst (T.map D.int))=some (!(S==T)):=by show HJ _ _=_;unfold HJ;rw[qz,qz,pql,sI];rfl
theorem iV{a:Type}{l:List a}{f:a->D}{k:Nat}{x:a}(h:l[k]?=some x):at' (l.map f) (k:Int)=some (f x):=by have b:=(fM h).1;rw[Ib (by simpa using b),getElem?_map,h];rfl
theorem Vu{n k:Nat}(h:k<n):jP n (k:Int)=some k:=by unfold jP;rw[if_pos (by omega),if_pos (by omega)];simp
theorem nH{is:List Nat}{one:Bool}{body:List Sl->Res Fl}{g:Nat->D}{N:Nat}(J:Nat->List Sl->Prop){Q:Fl->List Sl->Prop}(c:∀i ρ,i<N->J i ρ->∃a,cj ρ is one (g i)=some a/\(body a).sat (fQ (J (i+1)) Q))(f:∀ρ,J N ρ->Q .next ρ){ρ:List Sl}(h0:J 0 ρ):(jq is one body ((List.range N).map g) ρ).sat Q:=by
 refine bR (λr ρ=>∃i,i<=N/\r=((List.range N).map g).drop i/\J i ρ) ?_ ?_ ⟨0,uy,rfl,h0⟩
 . rintro d r ρ⟨i,hi,e,j⟩;have b:i<N:=by
    rcases Nat.lt_or_ge i N with h|h;.exact h
    .rw[List.drop_eq_nil_of_le (by simpa using h)]at e;cases e
   rw[drop_eq_getElem_cons (by simpa using b)]at e;injection e with e1 e2;simp at e1;subst e1;obtain⟨a,h1,k⟩:=c i ρ b j;refine⟨a,h1,k.imp λfl l q=>?_⟩;cases fl with|next=>exact⟨i+1,b,e2,q⟩|cont=>exact⟨i+1,b,e2,q⟩|brk=>exact q|ret v=>exact q
 . rintro ρ⟨i,hi,e,j⟩;have:i=N:=by have m:=congrArg List.length e;simp at m;omega
   subst this;exact f ρ j
inductive A3(a b c:Prop):Prop where|mk(ha:a)(hb:b)(hc:c)
inductive A4(a b c d:Prop):Prop where|mk(ha:a)(hb:b)(hc:c)(hd:d)
inductive A5(a b c d e:Prop):Prop where|mk(ha:a)(hb:b)(hc:c)(hd:d)(he:e)
inductive A6(a b c d e f:Prop):Prop where|mk(ha:a)(hb:b)(hc:c)(hd:d)(he:e)(hf:f)
inductive A7(a b c d e f g:Prop):Prop where|mk(ha:a)(hb:b)(hc:c)(hd:d)(he:e)(hf:f)(hg:g)
inductive A8(a b c d e f g h:Prop):Prop where|mk(ha:a)(hb:b)(hc:c)(hd:d)(he:e)(hf:f)(hg:g)(hh:h)
inductive A9(a b c d e f g h i:Prop):Prop where|mk(ha:a)(hb:b)(hc:c)(hd:d)(he:e)(hf:f)(hg:g)(hh:h)(hi:i)
end HH
end
section
namespace HT
open PySem PySem.Spec PyProof.Rows
section
variable{prog:Program}{w:World}{A:Around}{E:Value->Shared->Prop}{s:Shared}
theorem xM{t sl:Addr}{a:Array Value}{f g:Value}{lo hi:Option Int}{Q:Value->Shared->Prop}(ht:IsTup s.heap t a)(hs:s.heap.IsSliceOf sl f g .none)(i:IsPart f lo)(j:IsPart g hi)(h1:dR a.size 0 lo=0)(k:dR a.size a.size hi=a.size)(h:Q (.ref t) s):wpAny (model prog w) A (getItem (.ref t) (.ref sl)) Q E s:=by
 obtain⟨os,b,c,l⟩:=id hs;have m:s.TypeIs (.ref sl) "slice":=⟨os,b,c⟩;unfold getItem;try with_reducible refine wpAny_holding ?_
 first|refine wpAny_bind (wpAny_pure ?_)|skip
 refine wpAny_bind (wpAny_sequenceKey ht.typeIs (by decide) (wpAny_bind (wpAny_callSpecial?_slot (name:=Str.ofString "__getitem__") ht.typeIs slot_tuple_getitem (wpAny_call_entry slot_tuple_getitem ht.typeIs entry_tuple_getitem ?_ (args_tuple_getitem _ _)))));show wpAny _ _ (tupleItemsOf (.ref t)>>=_) _ _ s;refine wpAny_bind (tupleItemsOf_ ht (wpAny_bind (wpAny_typeOf m ?_)));rw[if_pos (by decide)];refine wpAny_bind (jc hs i j ?_);have e:((((dR a.size 0 lo:Nat):Int)==0&&(1:Int)==1&&(dR a.size a.size hi-dR a.size 0 lo)==a.size)=true):=by rw[h1,k];simp
 show wpAny _ _ (if(((dR a.size 0 lo:Nat):Int)==0&&(1:Int)==1&&(dR a.size a.size hi-dR a.size 0 lo)==a.size)=true then _ else _) _ _ s;rw[if_pos e];unfold Builtin.Tuple.tupleIsExact;refine wpAny_bind (wpAny_bind (wpAny_typeOf ht.typeIs (wpAny_pure ?_)));rw[if_pos (by decide)];exact wpAny_bind (wpAny_rule (wpAny_pure ⟨_,rfl,wpAny_pure h⟩))
end
end HT
namespace HH
open PySem L2 PySem.Spec PyProof.Rows
noncomputable def nst:Expr->Bool|.Starred _ _=>false|_=>true
theorem aR{e:Expr}{es:List Expr}{env:Env}(h:nst e=true):starEach (e::es) env=(false,eval e env)::starEach es env:=by cases e with|Starred a b=>cases h|_=>rw[starEach];(intro e p z;cases z)
noncomputable def su:List Int->List Expr->Option (List Expr)|[],es=>some es|i::is,.Constant (.int j) _ _::es=>if i=j then su is es else none|_,_=>none
theorem wB{X:L2.Cx}{c:Call}:∀(is:List Int){es a:List Expr}{b:List P},su is es=some a->SA X c a b->SA X c es (is.map (λi=>P.con (.int i))++b)|[],es,a,b,h,r=>by cases h;exact r|i::is,[],a,b,h,r=>by cases h|i::is,e::es,a,b,h,r=>by cases e with
   |Constant v k p=>cases v with
     |int j=>
       replace h:(if i=j then su is es else none)=some a:=h;split at h;.rename_i f;subst f;exact Ca ak (wB is h r) (aR rfl)
       .cases h|_=>cases h
   |_=>cases h
theorem wH{n d:Nat}{o:Option Int}:HT.dR n d o=HH.dR n d o:=by cases o with|none=>rfl|some v=>
   show(if v<0 then(v+(n:Int)).toNat else min v.toNat n)=(if 0<=v then min v.toNat n else(v+n).toNat);by_cases h:0<=v;.rw[if_pos h,if_neg (by omega)]
   .rw[if_neg h,if_pos (by omega)]
theorem Ir{xs:List V}{lo hi:Option Int}:yR xs lo hi=HH.cut xs lo hi:=by unfold yR HH.cut;rw[wH,wH]
theorem aF.cut{K:PySem.W.Frag}{F:Hp}{a:List D}{vs:List V}{lo hi:Option Int}(h:aF K F vs a):aF K F (HH.cut vs lo hi) (HH.cut a lo hi):=by unfold HH.cut;rw[h.length];exact(h.drop _).take _
section
variable{X:Cx}{c:Call}{n:Nat}{e a b:Expr}{p pa pb pl ph:P}{pos p2:Pos}{lo hi:Option Expr}
def ac0(K:PySem.W.Frag):V->Option Int->Option Int->Hp->VK->Prop:=λx lo hi H Q=>∃F d r,aJ F H/\dm K F H x d/\Qi d (some lo) (some hi)=some r/\∀v g f,Ext F H g f->cB K g f H v r->Q v f
theorem Zk:SlR X (ac0 X.K):=by
 rintro f s σ H x v u w lo hi sl Q I l hs pl m⟨F,d,r,sm,y,he,k⟩;cases d with|lst o=>cases he;obtain⟨a,xs,rfl,j,h⟩:=y.lst sm;refine LQ f s σ H _ v u w lo hi sl Q I l hs pl m ⟨a,xs,rfl,j,λp q=>?_⟩;rw[Ir];exact Ab sm h.cut q k|tup o=>
   cases he;obtain⟨a,xs,rfl,j,h,rt⟩:=y.tup sm;by_cases i:HT.dR xs.length 0 lo=0/\HT.dR xs.length xs.length hi=xs.length
   . cases l;obtain⟨t,z,ht,hz⟩:=I.tuple j;have g:t.toArray.size=xs.length:=by rw[size_toArray];exact z.length.symm
     refine⟨"tuple",_,slot_tuple_getitem.lookup,ht.typeIs,HT.xM ht hs pl m (by rw[g];exact i.1) (by rw[g];exact i.2) ⟨.ref a,H,I,rfl,?_⟩⟩;have hc:HH.cut o lo hi=o:=by unfold HH.cut;rw[<-h.length,<-wH,<-wH,i.1,i.2];simp[h.length]
     rw[hc]at k;exact cB.cY sm rt k
   .refine Sw f s σ H _ v u w lo hi sl Q I l hs pl m ⟨a,xs,rfl,j,i,λp q=>?_⟩;rw[Ir];exact Ea sm h.cut q k|_=>cases he
def SO(X:Cx)(c:Call)(o:Option Expr)(p:P):Prop:=∃t,PO X o t/\∀{σ:L2.St}{H F:Hp}{ρ f:List Sl}{d:D}{i:Option Int}{Q:Option Int->Hp->Prop},GS X.K F ρ σ H->cL (isVar p) (HH.ev c p) ρ=.ok d f->part p d=some i->(∀h g,az X.K F ρ σ H h f σ g->Q i g)->t σ H Q
theorem Dd:SO X c none (.con .non):=by refine⟨_,Ow,λ{σ H F ρ f d i Q}g e h k=>?_⟩;cases(show some none=some i from h);have j:(HH.ev c (.con .non) ρ).bind (λr ρ=>.ok r.d ρ)=.ok d f:=e;clear e;rw[HH.E2]at j;cases j;exact k F H (.refl g)
theorem CQ(h:SX X c e p)(l:Xu p=false:=by rfl):SO X c (some e) p:=by obtain⟨t,h1,m⟩:=h.cL;refine⟨_,NK h1,λ{σ H F ρ o d i Q}g e f k=>?_⟩;unfold part at f;rw[l,if_neg (by decide)]at f;obtain⟨j,q,r⟩:=map_some f;cases cT q;subst r;exact m g e λv u w s x=>⟨j,x.int,k u w s⟩
theorem xG{d:D}{x y:Option (Option Int)}{r:R}(h:Qi d x y=some r):∃lo hi,x=some lo/\y=some hi:=by cases x with|none=>cases d<;>cases h|some lo=>cases y with|none=>cases d<;>cases h|some hi=>exact⟨lo,hi,rfl,rfl⟩
theorem ye(ha:SX X c a pa)(hl:SO X c lo pl)(hh:SO X c hi ph):SX X c (.Subscript a (.Slice lo hi none p2) pos) (.slice pa pl ph):=by obtain⟨tl,l1,l2⟩:=hl;obtain⟨th,h1,h2⟩:=hh;cases hv:isVar pa with|none=>refine⟨du (yP Zk ha.ev l1 h1) ?_,λi h=>by cases h⟩;rintro σ H Q⟨F,ρ,r,B,g,e,k⟩;rw[HH.E13,hv]at e;obtain⟨x,C,f,j⟩:=aa e;clear e;have l:(HH.ev c pa ρ).bind (λr ρ=>.ok r.d ρ)=.ok x C:=f;clear f;obtain⟨rx,ac,e1,E⟩:=aa l;clear l;cases E;obtain⟨y,G,I,m⟩:=aa j;clear j;obtain⟨z,J,L,o⟩:=aa m;clear m;obtain⟨e,M⟩:=aG o;clear o;subst M;obtain⟨N,O,q,s⟩:=xG e;rw[q,s]at e;refine⟨F,ρ,rx,_,g,e1,λv F1 H1 s1 rr=>?_⟩;obtain⟨F2,s2,_,rp⟩:=s1.dB rr;refine l2 s2.gs I q λF3 H3 s3=>h2 s3.gs L s λU H4 s4=>?_;have s5:=s2.trans (s3.trans s4);refine⟨U,_,r,s4.gs.sub,.inl ((rp.mono s3.cZ).mono s4.cZ),e,λv W Y x Z=>?_⟩;exact k v W Y (s5.trans (x.stp s5.gs)) (.later s5 (Z.qU s5.gs))|some i=>refine⟨du (yP Zk (ha.var i hv) l1 h1) ?_,λi h=>by cases h⟩;rintro σ H Q⟨F,ρ,r,B,g,e,k⟩;rw[HH.E13,hv]at e;obtain⟨x0,ae,t,j⟩:=aa e;clear e;obtain⟨E,Gi⟩:=aG t;clear t;subst Gi;obtain⟨y,G,I,m⟩:=aa j;clear j;obtain⟨z,J,L,o⟩:=aa m;clear m;obtain⟨x,af,u,ed⟩:=aa o;clear o;obtain⟨e5,e6⟩:=aG u;clear u;subst e6;obtain⟨e,M⟩:=aG ed;clear ed;subst M;obtain⟨N,O,q,s⟩:=xG e;rw[q,s]at e;obtain⟨v,w,_⟩:=g.pk E;refine⟨v,w,l2 g I q λF3 H3 s3=>h2 s3.gs L s λU H4 s4=>?_⟩;have s5:=s3.trans s4;obtain⟨v',A,pv⟩:=s5.gs.pk e5;rw[w]at A;cases A;refine⟨U,_,r,s4.gs.sub,pv,e,λv W Y x Z=>?_⟩;exact k v W Y (s5.trans (x.stp s5.gs)) (.later s5 (Z.qU s5.gs))
theorem wF{i:Nat}{x:Str}{p':Pos}{op:Operator}{sub:Bool}(ho:QM X op (WM λi j=>if sub then i-j else i+j))(t:X.N.Nodup)(hi:X.N[i]?=some x)(w:Loc X.env.scope x)(he:SX X c e p)(y:X.fn x=true\/X.env.scope.names.lookup x=some .local:=by first|exact .inl rfl|exact .inr rfl|assumption):SS X c n (.AugAssign (.Name x p') op e pos) (.aug i sub p):=by
 obtain⟨te,h1,z⟩:=he.cL;refine cP (Uo t hi w h1 ho y) ?_;rintro D σ H⟨F,ρ,fl,A,g,e,k⟩;rw[HH.X15]at e;obtain⟨Z,B,f,s⟩:=aa e;clear e;obtain⟨C,E⟩:=aG f;clear f;subst E;obtain⟨b0,G,I,o⟩:=aa s;clear s;obtain⟨v,q,J⟩:=g.pk C;refine⟨v,q,z g I λu F1 L s1 M=>?_⟩;split at o;.rename_i h l;obtain⟨O,Q,m,U⟩:=aa o;clear o;cases U;obtain⟨W,e3⟩:=aG m;clear m;have Y:Rep X.K F1 (.int (if sub then h-l else h+l)) (.int (if sub then h-l else h+l)):=bU _;exact⟨h,l,J.int,M.int,k F1 _ L (az.put (r:=.val (.int _)) s1 Y W)⟩
 .cases o
theorem qd:QM X .Add (WM λi j=>if false then i-j else i+j):=UJ
theorem qw:QM X .Sub (WM λi j=>if true then i-j else i+j):=Ur
end
end HH
end
section
namespace L2
open PySem PySem.Spec PyProof.Rows
section
variable{X:Cx}{tg:Expr}
theorem yH:bootBuiltins "tuple"=some (.type "tuple"):=by decide+kernel
theorem rC:bootBuiltins "reversed"=some (.type "reversed"):=by decide+kernel
end
end L2
namespace HH
open PySem L2 PySem.Spec PyProof.Rows
section
variable{K:PySem.W.Frag}{F F1 H H1:Hp}{ρ ρ1:List Sl}{σ:L2.St}{ds:List D}{a:Addr}
theorem aF.rev:∀{ds:List D}{xs:List V},aF K F xs ds->aF K F xs.reverse ds.reverse|[],_,h=>by rw[h.gG];exact .nil|d::ds,_,h=>by obtain⟨v,r,rfl,h1,b⟩:=h.cI;rw[reverse_cons,reverse_cons];exact(aF.rev b).append (.cons h1 .nil)
end
end HH
end
section
namespace L2
open PySem PySem.Spec PyProof.Rows
variable{ch:List Addr}{h h' base:Heap}{e C:Addr}{tb:Value}{outer:List Env}{w:World}{H:Hp}
def lL(h:Heap)(e C:Addr)(tb:Value):Prop:=∃(o:Obj)(vs:Array Value),h.get? e=some o/\o.cls=.ref C/\o.data=.fields vs/\vs[1]?=some tb/\o.dict=none
theorem Fj{f:Array Value->Array Value}{o:Obj}:(Obj.mapFields f o).dict=o.dict:=by unfold Obj.mapFields;split<;>rfl
def K4(h:Heap)(T:Addr)(fl:Value):Prop:=∃(o:Obj)(a:Array Value),h.get? T=some o/\o.data=.fields a/\a[3]?=some fl
noncomputable def M6:Value->List Addr|.ref T=>[T]|_=>[]
structure pB(fs ch:List Addr)(h h':Heap):Prop where
 keep:∀b o,h.get? b=some o->b∉ch->b∉fs->h'.get? b=some o
 slot:∀b o,h.get? b=some o->b∉ch->∃sl,h'.get? b=some {o with slots:=sl}
theorem pB.trans{fs:List Addr}{h1 f:Heap}(a:pB fs ch h h1)(b:pB fs ch h1 f):pB fs ch h f:=⟨λx o e g i=>b.keep x o (a.keep x o e g i) g i,λx o e n=>by obtain⟨sl,q⟩:=a.slot x o e n;obtain⟨c,j⟩:=b.slot x _ q n;exact⟨c,j⟩⟩
theorem pB.more{fs c:List Addr}(a:pB fs ch h h')(s:∀b∈ch,b∈c):pB fs c h h':=⟨λx o e n=>a.keep x o e λz=>n (s x z),λx o e n=>a.slot x o e λz=>n (s x z)⟩
theorem pB.of_keep{fs:List Addr}(k:∀b o,h.get? b=some o->b∉ch->h'.get? b=some o):pB fs ch h h':=⟨λb o e n _=>k b o e n,λb o e n=>⟨o.slots,k b o e n⟩⟩
theorem pB.set{fs:List Addr}(h:Heap)(a:Addr)(f:Obj->Obj):pB fs [a] h (h.update a f):=.of_keep λb o e n=>(get?_update_other _ _ (by simpa using Ne.symm (by simpa using n))).trans e
section
variable{M:Model}{A:Around}{E:Value->Shared->Prop}{s:Shared}
theorem lL.Oo{l:List Env}(b:lL s.heap e C tb)(c:s.heap.FunFrames base l):e∉frs l:=λf=>by obtain⟨o,vs,h1,_,g,_⟩:=b;obtain⟨_,j,a,i⟩:=c.mem f;rw[h1]at a;cases a;exact i vs g
theorem rY{env:Env}{L:Addr}{head:Value}{f:Bool}{Q:Unit->Shared->Prop}(r:A.frames=some (env::outer))(z:s.heap.FunFrames base (env::outer))(I:env.frame=some L)(B:lL s.heap e C tb)(k:∀h' T,s.heap.objs.size<=T->T≠e->pB (frs (env::outer)) [e] s.heap h'->lL h' e C (.ref T)->K4 h' T (rawInt L)->Q () {s with heap:=h'}):wpAny M A (do let a<-frameOf env;let m<-entryPlaceOf L f;let b<-EntryCells.newEntry head a .none (rawInt L) .none m;setField (.ref e) 1 b) Q E s:=by
 have t:=B.Oo z;obtain⟨J,vs,he,u,hd,h1,v⟩:=B;have hsz:=(Array.getElem?_eq_some_iff.mp h1).1;refine wpAny_bind (wpAny_frameOf_fun r z I λc so=>wpAny_bind (wpAny_entryPlaceOf λm hpl=>?_));unfold EntryCells.newEntry newFields;refine wpAny_bind (wpAny_newObj_type ?_ (hpl.sizeOk5 _ _ _ _ _));have b1:pB (frs (env::outer)) [e] s.heap c:=⟨λb o q _ n=>(so.2.1 b n).trans q,λb o q _=>so.2.2 b o q⟩;have g:c.get? e=some J:=(so.2.1 e t).trans he;generalize G:({cls:=.type "traceback",dict:=none,data:=.fields ([head,.ref L,.none,rawInt L,.none]++(if m.isEmpty then replicate 6 Value.none else m)).toArray}:Obj)=p;have i:=get?_push_of_some (h:=c) p g;refine wpAny_setField i hd hsz ?_;have j:c.objs.size≠e:=Nat.ne_of_gt (lt_size g);have l:=Obj.data_mapFields hd (·.setIfInBounds 1 (Value.ref c.objs.size));have x:=get?_update_self (Obj.mapFields (·.setIfInBounds 1 (Value.ref c.objs.size))) i (Obj.isFreed_of_fields l);have y:((c.push p).update e (Obj.mapFields (·.setIfInBounds 1 (Value.ref c.objs.size)))).get? c.objs.size=some p:=by rw[get?_update_other _ _ (Ne.symm j)];exact get?_push_size c (by rw[<-G];rfl)
 refine k _ c.objs.size ?_ j (b1.trans ((pB.of_keep λb o q _=>iK q).trans (pB.set _ _ _))) ⟨_,_,x,?_,l,by simp[hsz],Fj.trans v⟩ ⟨p,_,y,by rw[<-G],?_⟩;.exact Nat.le_of_eq so.1.symm
 .rw[Obj.cls_mapFields];exact u
 .first|(simp;done)|(rcases hpl with rfl|⟨_,_,_,_,_,_,_,rfl⟩<;>simp)
theorem uw{env:Env}{L:Addr}{Q:Unit->Shared->Prop}(m:A.frames=some (env::outer))(U:s.heap.FunFrames base (env::outer))(B:env.frame=some L)(W:lL s.heap e C tb)(ht:tb=.none\/∃T,tb=.ref T/\T≠e/\K4 s.heap T .none)(k:∀h' a,s.heap.objs.size<=a->a≠e->pB (frs (env::outer)) (e::M6 tb) s.heap h'->lL h' e C (.ref a)->K4 h' a .none->Q () {s with heap:=h'}):wpAny M A (noteFrame (.ref e) env) (λ_ s2=>wpAny M A (setFlight (.ref e) none) Q E s2) E s:=by
 have fin:∀(p:Heap)(a:Addr),s.heap.objs.size<=a->a≠e->pB (frs (env::outer)) (e::M6 tb) s.heap p->lL p e C (.ref a)->K4 p a (rawInt L)->wpAny M A (setFlight (.ref e) none) Q E {s with heap:=p}:=by
  intro p a X g b2 Z t2;have i:s.heap.get? a=none:=get?_none_of_le X;obtain⟨o,vs,r,G,u,v,I⟩:=Z;obtain⟨oT,Y,j,l,z⟩:=t2;unfold setFlight;refine wpAny_bind (wpAny_field r u v ?_);rw[if_pos (show(Value.ref a !=Value.none)=true from by simp)];have hsz:=(Array.getElem?_eq_some_iff.mp z).1;have hd:=Obj.data_mapFields l (·.setIfInBounds 3 ((none:Option Addr).elim Value.none λf=>rawInt f));refine wpAny_setField j l hsz (k _ a X g ⟨λb y c n f=>?_,λb y c n=>?_⟩ ⟨o,vs,?_,G,u,v,I⟩ ⟨_,_,get?_update_self _ j (Obj.isFreed_of_fields hd),hd,by simp[hsz]⟩)
  . have:a≠b:=by rintro rfl;rw[i]at c;cases c
    rw[get?_update_other _ _ this];exact b2.keep b y c n f
  . have:a≠b:=by rintro rfl;rw[i]at c;cases c
    obtain⟨sl,q⟩:=b2.slot b y c n;exact⟨sl,by rw[get?_update_other _ _ this];exact q⟩
  .rw[get?_update_other _ _ g];exact r
 obtain⟨o,vs,r,G,u,v,I⟩:=id W;unfold noteFrame;simp only[B];refine wpAny_bind (wpAny_field r u v ?_);rcases ht with rfl|⟨T,rfl,J,oT,Y,j,l,z⟩;.rw[if_neg (by decide)];exact rY m U B W λh' a i g b x t=>fin h' a i g b x t
 . rw[if_pos (show(Value.ref T !=Value.none)=true from by simp)];refine wpAny_bind (wpAny_field j l z ?_);rw[if_neg (show ¬((Value.none==rawInt L)=true)from by simp[rawInt])];refine wpAny_bind (wpAny_setField j l (Array.getElem?_eq_some_iff.mp z).1 ?_);have b0:pB (frs (env::outer)) [T] s.heap (s.heap.update T (Obj.mapFields (·.setIfInBounds 3 Value.none))):=pB.set _ _ _;have N:lL (s.heap.update T (Obj.mapFields (·.setIfInBounds 3 Value.none))) e C (.ref T):=⟨o,vs,by rw[get?_update_other _ _ J];exact r,G,u,v,I⟩;have O:(s.heap.update T (Obj.mapFields (·.setIfInBounds 3 Value.none))).FunFrames base (env::outer):=U.of_keeps λb y c nf=>by
    have:T≠b:=by rintro rfl;rw[j]at c;cases c;exact nf Y l
    exact⟨y,by rw[get?_update_other _ _ this];exact c,rfl⟩
   refine rY (s:={s with heap:=s.heap.update T (Obj.mapFields (·.setIfInBounds 3 Value.none))}) m O B N λh' a i g b x t=>fin h' a ?_ g ((b0.more (by simp[M6])).trans (b.more (by simp))) x t;exact le_trans (Nat.le_of_eq (Heap.size_update _ _ _).symm) i
end
structure Fly(old:Heap)(H:Hp)(C e:Addr)(h:Heap):Prop where
 free:H e=none
 new:old.get? e=none
 ex:∃tb,lL h e C tb/\(tb=.none\/∃T,tb=.ref T/\T≠e/\K4 h T .none/\H T=none/\old.get? T=none)
def xg(P:Program)(w:World):Gn:=λouter H s E e a=>∃(b:Hp)(C c:Addr),e=.ref c/\a.os=s.os/\AllBare a.gens/\Un (frs outer) [] H b s.heap a.heap/\jQ P w b a.heap/\Fly s.heap b C c a.heap/\E e (some C) b
theorem pB.hok{P:Program}{fs:List Addr}(b:pB fs ch h h')(o:jQ P w H h)(h1:∀c∈fs,H c=none)(f:∀c∈ch,H c=none):jQ P w H h':=by
 intro a u e;refine(o a u e).stay (λc v hc q=>b.keep c v q (λz=>?_) λz=>?_) (λc q=>q) λc xs q=>q
 . have:=f c z;rcases hc with rfl|hc;.rw[e]at this;cases this
   .rw[hc]at this;cases this
 . have:=h1 c z;rcases hc with rfl|hc;.rw[e]at this;cases this
   .rw[hc]at this;cases this
section
variable{X:Cx}{pins:List (Addr×Obj)}{σ:St}{H:Hp}{s:Shared}
theorem gone{fs ex:List Addr}{a:Hp}(u:Un fs ex H a h h'){b:Addr}(c:b∉ex)(n:h'.get? b=none):h.get? b=none:=by cases q:h.get? b with|none=>rfl|some o=>obtain⟨f,z⟩:=u.there b o q c;rw[n]at z;cases z
theorem wz{b:Addr}(h:b∈M6 tb):tb=.ref b:=by cases tb with|ref T=>simp[M6]at h;rw[h]|_=>simp[M6]at h
theorem uL{outer:List Env}{a:Addr}(I:Inv X pins σ H s)(k:X.ex=[])(t:X.stack=X.env::X.outer/\X.env.frame=some X.env.locals)(f:Fly X.s₀.heap H C e s.heap)(L:lL s.heap e C tb)(ht:tb=.none\/∃T,tb=.ref T/\T≠e/\K4 s.heap T .none/\H T=none/\X.s₀.heap.get? T=none)(v:s.heap.objs.size<=a)(y:a≠e)(b:pB (frs X.stack) (e::M6 tb) s.heap h')(A:lL h' e C (.ref a))(t':K4 h' a .none):Un X.fs [] X.H₀ H X.s₀.heap h'/\jQ X.prog X.w H h'/\Fly X.s₀.heap H C e h':=by
 have j:∀c∈e::M6 tb,H c=none/\X.s₀.heap.get? c=none:=λc hc=>by
  rcases mem_cons.mp hc with rfl|hc;.exact⟨f.free,f.new⟩
  . have:=wz hc;subst this;rcases ht with z|⟨T,z,_,_,B,E⟩;.cases z
    .cases z;exact⟨B,E⟩
 have l:frs X.stack=X.env.locals::X.fs:=by rw[t.1];simp[frs,t.2,Cx.fs]
 have i:X.s₀.heap.get? X.env.locals=none:=get?_none_of_le I.ok.above;have m:H a=none:=I.hok.fresh v;have G:s.heap.get? a=none:=get?_none_of_le v;have u:=I.base;rw[k]at u;refine⟨⟨λc o q n x _=>?_,λc o q n J _=>?_,λc o q n _=>u.free c o q n (by simp),λc o q _=>?_,u.tups,u.pZ,u.tG⟩,b.hok I.hok I.p8 λc hc=>(j c hc).1,⟨f.free,f.new,_,A,.inr ⟨a,rfl,y,t',m,gone u (by simp) G⟩⟩⟩
 . refine b.keep c o (u.keep c o q n x (by simp)) (λz=>?_) (λz=>?_);.rw[(j c z).2]at q;cases q
   . rw[l]at z;rcases mem_cons.mp z with rfl|z;.rw[i]at q;cases q
     .exact x z
 . obtain⟨sl,p⟩:=u.slot c o q n J (by simp);obtain⟨r,g⟩:=b.slot c _ p λz=>by rw[(j c z).2]at q;cases q
   exact⟨r,g⟩
 . obtain⟨M,p⟩:=u.there c o q (by simp);obtain⟨sl,g⟩:=b.slot c _ p λz=>by rw[(j c z).2]at q;cases q
   exact⟨_,g⟩
theorem bw.there{P:Program}{a:Addr}{o:HO}(x:bw P w H h a o):∃u,h.get? a=some u:=by cases o with|lst xs=>obtain⟨_,_,_,_,e⟩:=x;exact⟨_,e⟩|tup xs=>obtain⟨_,_,_,_,e,_⟩:=x;exact⟨_,e⟩|dK kvs=>obtain⟨_,_,_,_,o,_,_,e,_⟩:=x;exact⟨_,e⟩|dT kvs=>obtain⟨_,_,_,_,o,_,_,e,_⟩:=x;exact⟨_,e⟩|set S n=>obtain⟨o,_,_,_,e,_⟩:=x;exact⟨_,e⟩|ins C b fs=>obtain⟨_,_,_,e,_⟩:=x;exact⟨_,e⟩|own y=>obtain⟨_,e⟩:=x;exact⟨_,e⟩|xd fs=>obtain⟨_,⟨_,_,_,e,_⟩,_⟩:=x;exact⟨_,e⟩|wW lo hi=>obtain⟨_,_,_,e⟩:=x;exact⟨_,e⟩|dB c u=>obtain⟨e,_⟩:=x;exact⟨_,e⟩|QR ps=>exact⟨_,x⟩|met f y=>exact⟨_,x⟩|ext g=>obtain⟨_,⟨_,e⟩,_⟩:=x;exact⟨_,e⟩
theorem jQ.none{P:Program}{w:World}{H:Hp}{h:Heap}{a:Addr}(o:jQ P w H h)(n:h.get? a=none):H a=none:=by cases q:H a with|none=>rfl|some u=>obtain⟨v,z⟩:=(o a u q).there;rw[n]at z;cases z
def Off(pn:List (Addr×Obj))(e:Addr)(h:Heap):Prop:=∀p∈pn,p.1≠e/\∀C tb,lL h e C tb->tb≠.ref p.1
def zb(X:Cx)(E:XK):Prop:=∀(pins:List (Addr×Obj))(σ:St)(H:Hp)(s:Shared)(C e:Addr),Inv X pins σ H s->Fly X.s₀.heap H C e s.heap->Off X.pn e s.heap->E (.ref e) (some C) H->X.xe (.ref e) s
theorem nU{P:Program}{K:PySem.W.Frag}{mg:Str->Option Value}{N:List Str}{qual:Str}{scope:Scope}{f:Addr}{g:Value}{A:Around}{s0:Shared}{k:Hp}{E:XK}:zb (lU (xg P w) P w K mg base N qual scope f g A outer s0 k E) E:=by intro pins σ H s C e I fl _ q;obtain⟨tb,l,ht⟩:=fl.ex;show wpAny (model P w) (A.deeper (envOfC qual scope s0.heap.objs.size f g)) (leaving (envOfC qual scope s0.heap.objs.size f g) (.ref e)) (λ_ i=>xg P w outer k s0 E (.ref e) i) _ s;unfold leaving;refine wpAny_bind (uw (base:=base) I.ok.frames I.stack rfl l (ht.imp id λ⟨T,a,b,c,_⟩=>⟨T,a,b,c⟩) λh' p m n b o t'=>?_);obtain⟨u,ok,j⟩:=uL (outer:=outer) I rfl ⟨rfl,rfl⟩ fl l ht m n b o t';exact⟨H,C,e,rfl,I.os,I.bare,u,ok,j,q⟩
theorem jd{P:Program}{K:PySem.W.Frag}{mg:Str->Option Value}{N:List Str}{qual:Str}{scope:Scope}{f:Addr}{a:Value}{A:Around}{s0:Shared}{b:Hp}{E:XK}:PassesOwn (model P w) (lU (xg P w) P w K mg base N qual scope f a A outer s0 b E).A (lU (xg P w) P w K mg base N qual scope f a A outer s0 b E).env (lU (xg P w) P w K mg base N qual scope f a A outer s0 b E).xe:=PassesOwn.leaving
theorem PX{E:XK}(i:X.ex=[])(y:zb X E):Passes (xg X.prog X.w) X E:=by
 rintro pins σ H s e A I⟨k,C,B,he,os,bare,un,ok,fl,q⟩;subst he;obtain⟨l,g,d,t,j⟩:=A;obtain rfl:j=s.os:=os;have G:Inv X pins σ k ⟨l,g,d,t,s.os⟩:=I.call (h':=l) (g':=g) (d':=d) (t':=t) (ch:=[]) un ok bare (λb z=>absurd z (by simp));have m:∀b,s.heap.get? b=none->X.s₀.heap.get? b=none:=λb n=>by cases z:X.s₀.heap.get? b with|none=>rfl|some o=>obtain⟨W,r⟩:=I.base.there b o z (by rw[i];simp);rw[n]at r;cases r
 obtain⟨tb,u,ht⟩:=fl.ex;exact y pins σ k _ C B G ⟨fl.free,m _ fl.new,tb,u,ht.imp id λ⟨T,a,b,c,d',n⟩=>⟨T,a,b,c,d',m _ n⟩⟩ (λp J=>by
  have f:=(I.pin p (mem_append_left _ J)).1;refine⟨λz=>?_,λY L M z=>?_⟩;.rw[z,fl.new]at f;cases f
  . obtain⟨o,vs,N,_,O,Q,_⟩:=u;obtain⟨Z,U,r1,_,v,x,_⟩:=M;rw[N]at r1;cases r1;rw[O]at v;cases v;rw[Q]at x;cases x;rcases ht with t|⟨T,t,_,_,_,n⟩;.rw[t]at z;cases z
    .rw[t]at z;cases z;rw[n]at f;cases f) q
theorem Kr{x:Str}{B a b:String}{bm:List Value}{c:Str}{E:XK}{np cpos f pos:Pos}{ck}(hc:X.calm=true)(i:X.ex=[])(o:Gl X x)(O:OwnCls x C bm a X.mg X.base)(FB:ExcBaseFacts B a b bm)(r:zb X E)(hd:(x==("__debug__":Str))=false:=by decide)(he:starEach [.Constant (.str c) ck f] X.env=(false,eval (.Constant (.str c) ck f) X.env)::starEach [] X.env:=by rfl)(hpl:(backTo cpos (starEach [] X.env)).any (·.1)=false:=by rfl):PS X (.Raise (some (.Call (.Name x np) [.Constant (.str c) ck f] [] cpos)) none pos) (λ_ _ H=>∀e,E (.ref e) (some C) H):=by
 intro pins s σ H D I h;obtain⟨u,N,nm,q,bs,hdct,sn,sub,ab,col,dd,k0,k1,k2,k3,k5,mN,v,y,j,T⟩:=O.obj;refine wpAny_Raise_call_subT (C:=C) (nm:=nm) (q:=q) (N:=N) (bs:=bs) (bm:=u) (hdct:=hdct) (sn:=sn) (sub:=sub) (ab:=ab) (col:=col) (dd:=dd) (k0:=k0) (k1:=k1) (k2:=k2) (k3:=k3) (k5:=k5) FB (mN:=mN) (T.hasType FB.hasBase) (I.ok.hd hc) (by rw[he];exact hpl) j (qy I o O.bound ⟨rfl,?_⟩ hd);rw[he];have g:Inv X pins σ H {s with toks:=s.toks+1}:=I.tok _;refine Calls.evalArgs_plain (Calls.spliced_cons (Calls.Constant_str (k:=ck) (pos:=f) (Calls.spliced_nil ⟨rfl,by show 1<=sizeLine;decide,g.bk _ _ v,y.keeps g.bk,T.keeps g.bk,λh' e m=>?_⟩)));have A:Inv X pins σ H {s with heap:=h',toks:=s.toks+1}:=g.kept (t':=s.toks+1) m.keeps;obtain⟨t,ht,_⟩:=m.there;have G:X.s₀.heap.get? e=none:=gone I.base (by rw[i];simp) m.new;exact r pins σ H _ C e A ⟨jQ.none I.hok m.new,G,.none,⟨_,_,ht,rfl,rfl,rfl,rfl⟩,.inl rfl⟩ (λp J=>by
  have l:=(I.pin p (mem_append_left _ J)).1;refine⟨λz=>?_,λW L M z=>?_⟩;.rw[z,show s.heap.get? e=none from m.new]at l;cases l
  .obtain⟨Y,Q,r1,_,U,n,_⟩:=M;rw[ht]at r1;cases r1;cases U;rw[z]at n;cases n) (h e)
end
section
variable{M:Model}{A:Around}{E:Value->Shared->Prop}
theorem tQ{g:Array GenState}{d:Drawn}{t:Nat}{os:OsState}{j:Addr}{J:Obj}{Q:Bool->Shared->Prop}{nm q:Str}{N:Addr}{bs bm:List Value}{hdct:Bool}{sn:List Str}{sub:List Value}{ab:Bool}{col:Option Bool}{dd:Option Addr}{k0 k1 k2 k3 k5:Option Value}{b:String}{m L:Str}{N':Addr}{n c:List Value}{o:Bool}{p:List Str}{r:List Value}{s:Bool}{u:Option Bool}{O:Option Addr}{v x y z B:Option Value}{a:String}(U:h.get? C=some (excClassObj nm q C N bs bm hdct sn sub ab col dd k0 k1 k2 k3 k5 b))(k:h.get? j=some (excClassObj m L j N' n c o p r s u O v x y z B a))(he:h.get? e=some J)(l:J.cls=.ref C)(i:c.contains (.type "BaseException")=true)(G:(Value.ref C::bm).contains (.ref j)=true)(W:Q true ⟨h,g,d,t,os⟩):wpAny M A (excMatches (.ref e) (.ref j)) Q E ⟨h,g,d,t,os⟩:=by
 have I:(Value.ref j::c).contains (.type "BaseException")=true:=by rw[List.contains_cons,i,Bool.or_true]
 have f:=tc_notTuple;unfold excMatches;repeat(first|(with_reducible refine wpAny_loadPart_at he ?_;rw[l])|with_reducible refine wpAny_loadPart_at k ?_|(with_reducible refine wpAny_isSubtype_exc k ?_;rw[I])|(with_reducible refine wpAny_isSubtype_exc U ?_;rw[G])|wp_step)
 exact W
end
def Under(h:Heap)(C b:Addr):Prop:=∃nm q N bs bm hdct sn sub ab col dd k0 k1 k2 k3 k5 a,h.get? C=some (excClassObj nm q C N bs bm hdct sn sub ab col dd k0 k1 k2 k3 k5 a)/\(Value.ref C::bm).contains (.ref b)=true
theorem Under.keeps{f:Addr}(u:Under h C f)(k:∀b o,h.get? b=some o->h'.get? b=some o):Under h' C f:=by obtain⟨nm,q,N,bs,bm,hdct,sn,sub,ab,col,dd,k0,k1,k2,k3,k5,a,g,c⟩:=u;exact⟨nm,q,N,bs,bm,hdct,sn,sub,ab,col,dd,k0,k1,k2,k3,k5,a,k _ _ g,c⟩
noncomputable def vU(X:Cx)(a:List (Addr×Obj))(b:Value->Shared->Prop):Cx:={X with pn:=X.pn++a,xe:=b}
noncomputable def Cq(X:Cx)(e:Addr):Cx:={X with A:=X.A.mark (some (.ref e)),calm:=false}
section
variable{X:Cx}{pins yU:List (Addr×Obj)}{σ:St}{H:Hp}{s:Shared}{vg:Value->Shared->Prop}{e:Addr}
theorem IK:X.Ok↔(vU X pins vg).Ok:=⟨λo=>⟨o.mod,o.kind,o.glob,o.blt,o.above,o.inj,o.has,o.cab,o.hd,o.frames,o.OJ,o.Vy,o.bs,o.Gb,o.ue,o.wX,o.lO,o.Ks⟩,λo=>⟨o.mod,o.kind,o.glob,o.blt,o.above,o.inj,o.has,o.cab,o.hd,o.frames,o.OJ,o.Vy,o.bs,o.Gb,o.ue,o.wX,o.lO,o.Ks⟩⟩
theorem Ot:X.Ok->(Cq X e).Ok:=λo=>⟨o.mod,o.kind,o.glob,o.blt,o.above,o.inj,o.has,o.cab,(λz=>by cases z),o.frames,o.OJ,o.Vy,o.bs,o.Gb,o.ue,o.wX,o.lO,o.Ks⟩
theorem MF(I:Inv X pins σ H s):Inv (vU X pins vg) [] σ H s:=⟨IK.mp I.ok,I.os,I.bare,I.base,I.loc,I.cell,I.free,I.fV,λp a=>I.pin p (by simpa[vU]using a),I.hok,I.len⟩
theorem nC(I:Inv (vU X pins vg) yU σ H s):Inv X pins σ H s:=⟨IK.mpr I.ok,I.os,I.bare,I.base,I.loc,I.cell,I.free,I.fV,λp a=>I.pin p (mem_append_left _ a),I.hok,I.len⟩
theorem Kf(I:Inv X pins σ H s):Inv (Cq X e) pins σ H s:=⟨Ot I.ok,I.os,I.bare,I.base,I.loc,I.cell,I.free,I.fV,I.pin,I.hok,I.len⟩
theorem Inv.but(I:Inv X pins σ H s)(b:pB (frs X.stack) ch s.heap h')(un:Un X.fs X.ex X.H₀ H X.s₀.heap h')(ok:jQ X.prog X.w H h')(nl:X.env.locals∉ch)(nc:∀x c,X.env.cells.lookup x=some c->c∉ch)(np:∀p∈X.pn++pins,p.1∉ch):Inv X pins σ H {s with heap:=h'}:=by
 have a:∀x c v,X.env.cells.lookup x=some c->s.heap.IsCell c v->h'.IsCell c v:=λx c v hc⟨o,ho,hd⟩=>by obtain⟨sl,q⟩:=b.slot c o ho (nc x c hc);exact⟨_,q,hd⟩
 refine⟨I.ok,I.os,I.bare,un,?_,λx c hc=>?_,I.free,I.fV,λp g=>?_,ok,I.len⟩;.obtain⟨m,⟨o,es,ep,ho,r⟩,f⟩:=I.loc;obtain⟨sl,l⟩:=b.slot _ o ho nl;refine⟨m,⟨_,es,ep,l,r⟩,λi x v h1 n t=>?_⟩;obtain⟨u,y,lk⟩:=f i x v h1 n t;exact⟨u,y,lk.imp id λ⟨k,c,hc,A⟩=>⟨k,c,hc,a x c _ hc A⟩⟩
 .obtain⟨v,f⟩:=I.cell x c hc;exact⟨v,a x c v hc f⟩
 .obtain⟨p1,p2,p3,j,B⟩:=I.pin p g;exact⟨b.keep _ _ p1 (np p g) λz=>(mem_cons.mp (I.rF _ z)).elim p3 j,p2,p3,j,B⟩
theorem lL.nl(I:Inv X pins σ H s)(x:lL s.heap e C tb):X.env.locals≠e/\∀y c,X.env.cells.lookup y=some c->c≠e:=by
 obtain⟨o,vs,h1,_,a,_⟩:=x;refine⟨λz=>?_,λy c hc z=>?_⟩;.obtain⟨m,⟨b,es,ep,ho,r,_⟩,_⟩:=I.loc;rw[z,h1]at ho;cases ho;rw[a]at r;cases r
 .obtain⟨v,b,ho,r⟩:=I.cell y c hc;rw[z,h1]at ho;cases ho;rw[a]at r;cases r
theorem K4.nl{T:Addr}{fl:Value}(I:Inv X pins σ H s)(x:K4 s.heap T fl):X.env.locals≠T/\∀y c,X.env.cells.lookup y=some c->c≠T:=by
 obtain⟨o,vs,h1,a,_⟩:=x;refine⟨λz=>?_,λy c hc z=>?_⟩;.obtain⟨m,⟨b,es,ep,ho,r,_⟩,_⟩:=I.loc;rw[z,h1]at ho;cases ho;rw[a]at r;cases r
 .obtain⟨v,b,ho,r⟩:=I.cell y c hc;rw[z,h1]at ho;cases ho;rw[a]at r;cases r
end
end L2
end
section
namespace HH
open PySem L2 PySem.Spec PyProof.Rows
variable{x:Str}{cl:Nat->Addr}
def tX(K:PySem.W.Frag)(W:Nat->Hp->Prop)(g:List Sl->Option (Nat×List Sl)):TS:=λ_ σ H=>∃F ρ k a,GS K F ρ σ H/\g ρ=some (k,a)/\∀c σ' b,az K F ρ σ H c a σ' b->W k b
def U6(X:Cx)(c:Call)(n:Nat)(W:Nat->Hp->Prop)(st:Stmt)(s:S):Prop:=PS X st (tX X.K W (vD c n s))
def Qy(X:Cx)(c:Call)(n:Nat)(W:Nat->Hp->Prop)(st:List Stmt)(s:List S):Prop:=pO X st (tX X.K W (fP c n s))
section
variable{X:Cx}{c:Call}{n:Nat}{W:Nat->Hp->Prop}{e a b tg iter:Expr}{p:P}{pos:Pos}{body:List Stmt}{ss:List S}
theorem ZJ{st:Stmt}{t u:TS}(h:PS X st t)(h':PS X st u):PS X st (λD σ H=>t D σ H\/u D σ H):=λf s σ H D I q=>q.elim (h f s σ H D I) (h' f s σ H D I)
theorem Y4{t u:TI}(h:PI X tg iter t)(h':PI X tg iter u):PI X tg iter (λσ H R=>t σ H R\/u σ H R):=λf s σ H R I q=>q.elim (h f s σ H R I) (h' f s σ H R I)
theorem Uk{st:List Stmt}{t u:TS}(h:pO X st t)(h':pO X st u):pO X st (λD σ H=>t D σ H\/u D σ H):=λf s σ H D I q=>q.elim (h f s σ H D I) (h' f s σ H D I)
theorem di{st:Stmt}{s:S}(h:∀ρ,vD c n s ρ=none:=by intro _;rfl):U6 X c n W st s:=cP yr λD σ H⟨F,ρ,k,ρ',g,e,q⟩=>by rw[h]at e;cases e
theorem eG:Qy X c n W [] []:=iy qj λD σ H⟨F,ρ,k,ρ',g,e,q⟩=>by rw[fP]at e;cases e
theorem aX{st:Stmt}{s:S}{sts:List Stmt}{ss:List S}(h1:SS X c n st s)(i:U6 X c n W st s)(l:Qy X c n W sts ss):Qy X c n W (st::sts) (s::ss):=by refine iy (jf (ZJ h1 i) l) ?_;rintro D σ H⟨F,ρ,k,f,g,e,q⟩;rw[fP]at e;cases hx:vD c n s ρ with|some x=>rw[hx]at e;cases e;exact .inr ⟨F,ρ,k,f,g,hx,q⟩|none=>rw[hx]at e;dsimp only at e;cases he:ex c n s ρ with|stuck=>rw[he]at e;cases e|exc _ _=>rw[he]at e;cases e|ok fl h=>rw[he]at e;cases fl with|next=>exact .inl ⟨F,ρ,.next,h,g,he,λF1 m t s1=>⟨F1,h,k,f,s1.gs,e,λo j r s2=>q o j r (s1.trans s2)⟩⟩|_=>cases e
theorem Ht{m o:List Stmt}{r tb:List S}(hc:ST X c e p)(s:Qy X c n W m r)(t:Qy X c n W o tb):U6 X c n W (.If e m o pos) (.ifs p r tb):=by
 refine cP (CG hc s t) ?_;rintro D σ H⟨F,ρ,k,i,g,e,q⟩;rw[vD]at e;split at e;.rename_i x f u;refine⟨F,ρ,x,f,g,u,λF1 v s1=>?_⟩;cases x with|true=>exact⟨F1,f,k,i,s1.gs,by simpa using e,λj h l s2=>q j h l (s1.trans s2)⟩|false=>exact⟨F1,f,k,i,s1.gs,by simpa using e,λj h l s2=>q j h l (s1.trans s2)⟩
 .cases e
theorem Hu{C:Addr}{B f h:String}{bm:List Value}{i:Str}{E:XK}{np cpos l:Pos}{ck}{kk:Nat}(hc:X.calm=true)(j:X.ex=[])(m:Gl X x)(O:OwnCls x C bm f X.mg X.base)(FB:ExcBaseFacts B f h bm)(o:zb X E)(r:∀H,W kk H->∀e,E (.ref e) (some C) H)(hd:(x==("__debug__":Str))=false:=by rfl):U6 X c n W (.Raise (some (.Call (.Name x np) [.Constant (.str i) ck l] [] cpos)) none pos) (.yV kk):=by refine cP (Kr hc j m O FB o hd (aR rfl) rfl) ?_;rintro D σ H⟨F,ρ,k,s,g,e,q⟩;rw[vD]at e;cases e;exact r H (q F σ H (.refl g))
def RX(K:PySem.W.Frag)(c:Call)(W:Nat->Hp->Prop)(p:P)(σ:L2.St)(H:Hp):Prop:=∃F ρ k f,GS K F ρ σ H/\ie c p ρ=some (k,f)/\∀h σ' g,az K F ρ σ H h f σ' g->W k g
def XE(X:Cx)(c:Call)(W:Nat->Hp->Prop)(e:Expr)(p:P):Prop:=PE X e (λσ H _=>RX X.K c W p σ H)
def XI(X:Cx)(c:Call)(W:Nat->Hp->Prop)(tg e:Expr)(p:P):Prop:=PI X tg e (λσ H _=>RX X.K c W p σ H)
theorem MN(h:∀ρ,ie c p ρ=none:=by intro _;rfl):XI X c W tg iter p:=λf s σ H R I⟨F,ρ,k,ρ',g,e,q⟩=>by rw[h]at e;cases e
theorem J8(h:XE X c W iter p):XI X c W tg iter p:=λf s σ H R I q=>vI h f s σ H R I q
theorem vV{g:TG}{is:List Nat}{one:Bool}(hp:PassesOwn (model X.prog X.w) X.A X.env X.xe)(hc:X.calm=true)(hi:SI X c tg iter p)(hg:PG X tg g)(Y:G7 X.K (λρ d=>cj ρ is one d) g)(hb:SB X c n body ss)(Z:Qy X c n W body ss)(hs:∀x,foldedSetIterable iter X.env x=pure x:=by intro _;rfl)(hx:XI X c W tg iter p:=by exact MN):U6 X c n W (.For tg iter body [] pos) (.iB p is one ss):=by refine cP (zK hp hc (Y4 hi hx) hg (Uk hb Z) hs) ?_;rintro D σ H⟨F,ρ,k,o,g0,e,q⟩;rw[vD]at e;cases hx0:ie c p ρ with|some y=>rw[hx0]at e;cases e;exact .inr ⟨F,ρ,k,o,g0,hx0,q⟩|none=>
 rw[hx0]at e;dsimp only at e;split at e
 . rename_i j t e1;obtain⟨⟨k',C⟩,e2,e3⟩:=map_eq_some_iff.mp e;cases e3;refine .inl ⟨F,ρ,j,t,g0,e1,λJ F1 H1 w=>?_⟩;have src:∀(i:Nat)(O:Hp)(o:List Sl)(σ':L2.St)(l:Hp),az X.K F1 t σ H1 O o σ' l->(∀d,j[i]?=some d->J.go i l/\∀x tO,J.O3 i l x tO->∃G,Ext O l G tO/\Rep X.K G x d)/\(j.length<=i->J.stop i l):=λi O o σ' l s=>w.src 0 i O o σ' l (by simpa using s);refine⟨λi m v Hi=>∃I h,az X.K F1 t σ H1 I h v Hi/\m=j.length-i/\i<=j.length/\v8 is one (fO c n ss) (fP c n ss) (j.drop i) h=some (k',C),⟨_,F1,t,.refl w.gs,rfl,uy,e2⟩,?_⟩;rintro i m v Hi⟨I,h,si,rfl,ae,f⟩;obtain⟨s1,s2⟩:=src i I h v Hi si;by_cases B:i<j.length
   . right;have hd:j[i]?=some j[i]:=by simp[B]
     obtain⟨go,step⟩:=s1 _ hd;refine⟨go,λσ' l=>∃m',m'<j.length-i/\∃I h,az X.K F1 t σ H1 I h σ' l/\m'=j.length-(i+1)/\i+1<=j.length/\v8 is one (fO c n ss) (fP c n ss) (j.drop (i+1)) h=some (k',C),λσ' l z=>z,λx l y=>?_⟩;obtain⟨F2,ext,rx⟩:=step x l y;have L:=si.trans (ext.stp si.gs);rw[drop_eq_getElem_cons B,v8]at f;cases hbd:cj h is one j[i]with|none=>rw[hbd]at f;cases f|some u=>rw[hbd]at f;dsimp only at f;refine Y x _ F2 h u v l _ L.gs rx hbd λaf sb=>?_;have Q:=L.trans sb;cases VG:fP c n ss u with|some y=>rw[VG]at f;cases f;exact .inr ⟨F2,u,k',C,Q.gs,VG,λU M H4 s4=>q U M H4 (w.fin _ _ _ _ (Q.trans s4)).1⟩|none=>rw[VG]at f;dsimp only at f;cases eb:fO c n ss u with|stuck=>rw[eb]at f;cases f|exc _ _=>rw[eb]at f;cases f|ok N E=>rw[eb]at f;refine .inl ⟨F2,u,N,E,Q.gs,eb,λU M H4 s4=>?_⟩;have VF:=Q.trans s4;cases N with|next=>exact⟨_,by omega,U,E,VF,rfl,B,f⟩|cont=>exact⟨_,by omega,U,E,VF,rfl,B,f⟩|brk=>cases f|ret r=>cases f
   . have ac:j.drop i=[]:=by rw[drop_eq_nil_iff];omega
     rw[ac,v8]at f;cases f
 .cases e
def NZ(K:PySem.W.Frag)(cl:Nat->Addr)(np:Nat)(f:List Sl->Res R):Sp:=λvs H _ E=>vs.length=np/\∃F args k g,GS K F args (vs.map some) H/\f args=.exc k g/\∀i σ' h e,az K F args (vs.map some) H i g σ' h->E (.ref e) (some (cl k)) h
def EW(cl:Nat->Addr)(W:Nat->Hp->Prop):XK:=λ_ C H=>∃k,C=some (cl k)/\W k H
structure iI(Pg:Program)(w:World)(K:PySem.W.Frag)(mg:Str->Option Value)(base:Heap)(cl:Nat->Addr)(k:Nat)(c:Call)(i:Nat)(x:Str)(np:Nat):Prop where ex:∃fa fd qs,jh Pg w K mg base (xg Pg w) k fa fd qs (NZ K cl qs.length (c i))/\mg x=some (.ref fa)/\keepIn K (.ref fa)=true/\Binds K fd qs []/\qs.length=np
theorem Bu{c:Call}:∀{ps:List P}{ρ f:List Sl}{as:List Arg},zj c ps ρ=.ok as f->as.length=ps.length:=by intro ps;induction ps with|nil=>intro ρ f as h;rw[zN]at h;cases h;rfl|cons q k j=>
   intro ρ f as h;rw[wJ]at h;split at h;.obtain⟨_,_,_,h⟩:=aa h;obtain⟨xs,g,i,h⟩:=aa h;cases h;simp[j i]
   .obtain⟨_,_,_,h⟩:=aa h;obtain⟨xs,g,i,h⟩:=aa h;cases h;simp[j i]
theorem vP{kk i o np:Nat}{y:Str}{p' h cpos:Pos}{es:List Expr}{ps:List P}(r:X.ex=[])(C:zb X (EW cl W))(G:iI X.prog X.w X.K X.mg X.base cl kk c o y np)(hr:iW kk X.A)(I:X.N.Nodup)(hi:X.N[i]?=some x)(J:Loc X.env.scope x)(L:SG X c (e::es) ps)(M:Gl X y:=by rfl)(O:(e::es).length=np:=by rfl)(t:(y==("__debug__":Str))=false:=by rfl)(he:starEach (e::es) X.env=(false,eval e X.env)::starEach es X.env:=by exact aR rfl)(hpl:(backTo cpos (starEach es X.env)).any (·.1)=false:=by rfl)(u:ps.length=(e::es).length:=by rfl)(hs:swapsWith (.Call (.Name y p') (e::es) [] cpos) (some (.Name x h)) pos.line X.env=pure false:=by rfl)(Q:X.fn x=true\/X.env.scope.names.lookup x=some .local:=by first|exact .inl rfl|exact .inr rfl|assumption):U6 X c n W (.Assign [.Name x h] (.Call (.Name y p') (e::es) [] cpos) pos) (.asg i (.call o ps)):=by
 obtain⟨fa,fd,z,h1,U,Y,Z,h5⟩:=G.ex;have pe:=vq (p:=p') (pos:=cpos) (E:=EW cl W) h1 hr M U Y Z .nil (PX r C) L t he hpl;refine cP (oG I hi J pe hs Q) ?_;rintro D σ H⟨F,ρ,k,ac,g,f,q⟩;rw[vD]at f;unfold ie mG at f;dsimp only at f;split at f
 . rename_i xs v B;split at f
   . rename_i args l;split at f
     . rename_i k' j hc;cases f;refine⟨F,ρ,xs,v,g,B,λvs F1 H1 s1 A=>?_⟩;have m:vs.length=z.length:=by rw[<-A.len,Bu B,u,O,h5]
       show NZ X.K cl z.length (c o) (vs++[]) H1 _ (EW cl W);rw[append_nil];refine⟨m,F1,args,k,j,args_gs s1.gs A l,hc,λF' σ' H' e2 s=>⟨k,rfl,?_⟩⟩;obtain⟨z1,_⟩:=rA s1 A l s;exact q F' σ H' z1
     .cases f
   .cases f
 .cases f
end
section
variable{Pg:Program}{w:World}{K:PySem.W.Frag}{mg:Str->Option Value}{base:Heap}
theorem wg{qual:Str}{st:Stmt}{f:Addr}{fd:FuncData}{N ps:List Str}{k n:Nat}{c:Call}{d:Fd}(t:jy K x qual st f fd)(S:aO N ps (ao st))(h1:d.np=ps.length)(o:d.nn=N.length)(u:∀(cdv:Value)(A:Around)(outer:List Env)(s:Shared)(H:Hp)(E:XK)(W:Nat->Hp->Prop),iW k (A.deeper (envOfC qual (ao st) s.heap.objs.size f cdv))->(∀k H,W k H->∀e,E (.ref e) (some (cl k)) H)->Qy (lU (xg Pg w) Pg w K mg base N qual (ao st) f cdv A outer s H E) c n W (dZ st) d.body):jh Pg w K mg base (xg Pg w) (k+1) f fd ps (NZ K cl ps.length (λargs=>enter c n d args)):=by
 obtain⟨oc,od,kV,v,J,L,cdv,ct,y,rfl,lk,i⟩:=t.ex;refine Py lk i S (λvs H Q E h=>h.1) λA outer s H vs Q E hr h=>?_;obtain⟨p,F,args,r,a,g,e,q⟩:=h;refine⟨_,u cdv A outer s H E (λk b=>∀e,E (.ref e) (some (cl k)) b) hr (λk b h=>h),?_⟩;replace e:enter c n d args=.exc r a:=e;unfold enter at e;split at e
 . rename_i hc;obtain⟨c1,c2⟩:=hc;have B:=g.more (n:=d.nn-d.np) (τ:=replicate (N.length-vs.length) none) (by simp[h1,o,p]);have j:args.length=d.np:=c1;split at e;.cases e
   .cases e
   . split at e;.rename_i M l z;cases e;refine⟨F,_,r,l,B,z,λC σ' b s G=>?_⟩;obtain⟨I,_⟩:=az.less (m:=d.np) j.symm g (by simp[h1,o,p]) s;exact q C _ b G I
     .cases e
 .cases e
end
section
variable{X:Cx}{c:Call}{n:Nat}
theorem wQ{k:Nat}{st:Stmt}:SS X c n st (.yV k):=cP yr λD σ H⟨F,ρ,fl,ρ',g,e,q⟩=>by rw[HH.X19]at e;cases e
end
structure uW(K:PySem.W.Frag)(x:Str)(C:Addr):Prop where nm:PySem.W.nsIn K mainGlobals x=some (some (.ref C))is:excIn K C [.type "ValueError",.type "Exception",.type "BaseException",.type "object"] "ValueError.__new__"=true
section
variable{Pg:Program}{w:World}{K:PySem.W.Frag}{mg:Str->Option Value}{base h:Heap}
theorem vo{C:Addr}(k:K.In h)(ns:h.Ns mainGlobals mg)(z:uW K x C):OwnCls x C [.type "ValueError",.type "Exception",.type "BaseException",.type "object"] "ValueError.__new__" mg h:=by
 have y:=z.is;unfold excIn at y;split at y<;>try cases y
 rename_i d1 c1 s1 c;split at y<;>try cases y
 rename_i D1 m1 r s t u b1 v b a;simp only[and_eq_true,beq_iff_eq,not_eq_true']at y;obtain⟨⟨⟨⟨⟨A,B⟩,o⟩,E⟩,e⟩,p⟩:=y;subst A;subst B;cases c1 with|mk G f q g H i j l m n I=>cases s1 with|mk J=>simp only at b a o e p;subst b;subst o;subst a;exact⟨mg_of k ns z.nm,m1,g,G,H,f,i,j,l,m,n,d1,r,s,t,u,v,_,k _ _ c,.of_isNs (PySem.W.isNs_of_in k e),PySem.W.nsMap_none_of_in k e p,PySem.W.tail_of_in k E⟩
theorem vR{Γ:Tab}{wl i np:Nat}{st:Stmt}{ps:List Str}(X:K.In h)(G:h.Ns mainGlobals mg)(D:bY K x st)(j:ps.length=np)(k:∀(kV g l:Value)(m:Option Addr)(cdv ct:Value)(c:List Value),c.length=ps.length->bindArgs (PySem.W.fnOf x x (gO st) (dZ st) (ao st) .none kV g l m cdv ct) ⟨c,[]⟩=pure (ps.zip c)):iI Pg w K mg base cl 0 (run Γ wl 0) i x np:=by obtain⟨f,fd,a,F⟩:=D.ex;exact⟨f,fd,ps,⟨λvs H Q E s=>s.1,λA outer s H args c vs Q E hr e b v sp=>by obtain⟨_,F,as,r,n,_,z,_⟩:=sp;cases z⟩,mg_of X G a,F.kp,F.binds k,j⟩
theorem wI{Γ:Tab}{wl n i np:Nat}{st:Stmt}{ps:List Str}{d:Fd}(X:K.In h)(G:h.Ns mainGlobals mg)(D:bY K x st)(j:ps.length=np)(b:Γ i=some d)(k:∀(kV c l:Value)(m:Option Addr)(cdv ct:Value)(g:List Value),g.length=ps.length->bindArgs (PySem.W.fnOf x x (gO st) (dZ st) (ao st) .none kV c l m cdv ct) ⟨g,[]⟩=pure (ps.zip g))(ok:∀f fd,jy K x x st f fd->jh Pg w K mg base (xg Pg w) (n+1) f fd ps (NZ K cl np (λargs=>enter (run Γ wl n) wl d args))):iI Pg w K mg base cl (n+1) (run Γ wl (n+1)) i x np:=by
 obtain⟨f,fd,a,F⟩:=D.ex;refine⟨f,fd,ps,?_,mg_of X G a,F.kp,F.binds k,j⟩;have e:run Γ wl (n+1) i=λargs=>enter (run Γ wl n) wl d args:=by funext args;show(match Γ i with|some d=>enter (run Γ wl n) wl d args|none=>.stuck)=_;rw[b]
 rw[e,j];exact ok f fd F
end
theorem GF{K:PySem.W.Frag}{C:Addr}(a:PySem.W.nsIn K mainGlobals x=some (some (.ref C)))(q:excIn K C [.type "ValueError",.type "Exception",.type "BaseException",.type "object"] "ValueError.__new__"=true):∃C,uW K x C:=⟨C,a,q⟩
end HH
end
section
namespace L2
open PySem PySem.Spec PyProof.Rows
section
variable{prog:Program}{w:World}{A:Around}{E:Value->Shared->Prop}{s:Shared}{env:Env}
theorem Fp{e C x:Addr}{M n:Str}{k:List Value}{U:String}{mg:Str->Option Value}{t:Expr}{i:Stmt}{b:List Stmt}{pos:Pos}{l:List ExceptHandler}{Q:Flow->Shared->Prop}(j:k.contains (.type "BaseException")=true)(h:wpAny (model prog w) (A.mark (some (.ref e))) (eval t env) (λc a=>c=.ref x/\OwnCls M x k U mg a.heap/\Under a.heap C x/\(∃ B,a.heap.get? e=some B/\B.cls=.ref C)/\wpAny (model prog w) (A.mark (some (.ref e))) (setFlight (.ref e) none) (λ_ m=>wpAny (model prog w) (A.mark (some (.ref e))) (storeName env n (.ref e)) (λ_ o=>wpAny (model prog w) (A.mark (some (.ref e))) (execs (i::b) env) (λf p=>wpAny (model prog w) A (do bindName env n .none;unbindBehindTheSuite env n pos) (λ_ r=>Q f r) E p) (λ_ _=>False) o) (λ_ _=>False) m) (λ_ _=>False) a) (notedBy (model prog w) (A.mark (some (.ref e))) env (cameBackBy (model prog w) A env E)) s):wpAny (model prog w) A (handleBy (.ref e) env (.ExceptHandler (some t) (some n) (i::b) pos::l)) Q E s:=by refine wpAny_handleBy_cons (codeAny_handlers_test (wpAny_mono h (λc a u=>?_) λ_ _ y=>y)) (by intro q;cases q);obtain⟨rfl,O,⟨nm,q,N,bs,bm,hdct,sn,sub,ab,col,dd,k0,k1,k2,k3,k5,G,W,H⟩,⟨B,he,v⟩,X⟩:=u;obtain⟨Y,N2,Z,q2,ac,ae,af,J,ag,L,ah,l0,l1,l2,l3,l5,mN,I,hN,hq,T⟩:=O.obj;obtain⟨hh,g,d,tk,os⟩:=a;exact tQ W I he v (T.hasType j) H (codeAny_handlers_suite_as (wpAny_mono X (λ_ s2 h2=>wpAny_mono h2 (λ_ s3 h3=>wpAny_mono h3 (λf s4 h4=>h4) λ_ _ z=>z.elim) λ_ _ z=>z.elim) λ_ _ z=>z.elim))
end
noncomputable def pF(X:Cx)(e:Addr)(a:Obj):Cx:={X with A:=X.A.mark (some (.ref e)),calm:=false,pn:=X.pn++[(e,a)],xe:=λ_ _=>False}
structure OE(oe:Obj)(C:Addr):Prop where
 cls:oe.cls=.ref C
 dict:oe.dict=none
 data:∃vs,oe.data=.fields vs
section
variable{X:Cx}{pins:List (Addr×Obj)}{σ:St}{H:Hp}{s:Shared}{e:Addr}{oe:Obj}
theorem Hs:X.Ok->(pF X e oe).Ok:=λo=>⟨o.mod,o.kind,o.glob,o.blt,o.above,o.inj,o.has,o.cab,(λz=>by cases z),o.frames,o.OJ,o.Vy,o.bs,o.Gb,o.ue,o.wX,o.lO,o.Ks⟩
theorem Es{C:Addr}(I:Inv X pins σ H s)(h1:s.heap.get? e=some oe)(b:OE oe C)(c:H e=none)(f:e≠X.env.locals)(g:e∉X.fs):Inv (pF X e oe) pins σ H s:=⟨Hs I.ok,I.os,I.bare,I.base,I.loc,I.cell,I.free,I.fV,λp h=>by
  have a:p∈(X.pn++[(e,oe)])++pins:=h;rw[append_assoc,mem_append,mem_append,mem_singleton]at a;rcases a with z|z|z;.exact I.pin p (mem_append_left _ z)
  .subst z;refine⟨h1,c,f,g,λv q=>?_⟩;obtain⟨vs,z⟩:=b.data;rw[show(e,oe).2.data=.fields vs from z]at q;cases q
  .exact I.pin p (mem_append_right _ z),I.hok,I.len⟩
theorem qH{M:Model}{A:Around}{E:Value->Shared->Prop}{i:Nat}{x:Str}{pos:Pos}{Q:Unit->Shared->Prop}(I:Inv X pins σ H s)(L:X.N.Nodup)(hi:X.N[i]?=some x)(O:X.env.kindOf x=some .local)(h:∀C,Inv X pins (σ.set i none) H C->Q () C):wpAny M A (do bindName X.env x .none;unbindBehindTheSuite X.env x pos) Q E s:=by
 obtain⟨m,G,U⟩:=id I.loc;have g:(X.env.scope.kind==.class||(X.env.scope.kind==.module&&X.env.locals !=X.env.globals))=false:=by rw[I.ok.kind];rfl
 have Ja:=I.Ja;refine wpAny_nameGoes_keeps O G g λh' v t hs=>?_;obtain⟨oL,_,_,W,_⟩:=id G;have a:jQ X.prog X.w H h':=λb Y e=>by
  refine(I.hok b Y e).stay (λc J hc q=>(hs.2 c ?_).trans q) (λ_ q=>q) λ_ _ q=>q;rintro rfl;rcases hc with rfl|hc;.rw[I.free]at e;cases e
  .rw[I.free]at hc;cases hc
 refine h _ (Inv.tok (s:={s with heap:=h'}) ⟨I.ok,I.os,I.bare,⟨λb o e n u l=>?_,λb o e n u l=>?_,I.base.free,λb o e l=>?_,I.base.tups,I.base.pZ,I.base.tG⟩,⟨_,t,λj y Z f r e3=>?_⟩,λy c e=>?_,I.free,I.fV,λp hp=>?_,a,by simpa using I.len⟩ _);.exact(hs.2 b (ne_of_lt (lt_of_lt_of_le (lt_size e) I.ok.above))).trans (I.base.keep b o e n u l)
 .obtain⟨sl,f⟩:=I.base.slot b o e n u l;exact⟨sl,(hs.2 b (ne_of_lt (lt_of_lt_of_le (lt_size e) I.ok.above))).trans f⟩
 .obtain⟨o',f⟩:=I.base.there b o e l;exact⟨o',(hs.2 b (ne_of_lt (lt_of_lt_of_le (lt_size e) I.ok.above))).trans f⟩
 . by_cases B:j=i;.subst B;rw[getElem?_set]at r;simp at r
   . rw[fU B]at r;obtain⟨u',r',q⟩:=U j y Z f r e3;refine⟨u',r',?_⟩;rcases q with⟨k,e⟩|⟨k,c,e,z⟩;.refine .inl ⟨k,?_⟩;have:y≠x:=λe=>B (sZ L f (e▸hi));simp[this,e]
     .exact .inr ⟨k,c,e,z.sameBut hs (Ja y c e)⟩
 .obtain⟨J,z⟩:=I.cell y c e;exact⟨J,z.sameBut hs (Ja y c e)⟩
 .obtain⟨e,n,ne,nf,d⟩:=I.pin p hp;exact⟨(hs.2 p.1 ne).trans e,n,ne,nf,d⟩
noncomputable def Yt(i:Nat)(D:Ends):Ends:=⟨λσ H=>D.nx (σ.set i none) H,D.rt,λσ H=>D.bk (σ.set i none) H,λσ H=>D.ct (σ.set i none) H⟩
end
structure Ik(K:PySem.W.Frag)(D:Addr):Prop where
 g:findIn K (.ref D) "__getattribute__"=some (some (.builtin "BaseException.__getattribute__"))h:findIn K (.ref D) "__getattr__"=some none
 b:mroIn K D (.type "BaseException")=some true
 c:(clsIn K D).isSome=true
 a:findIn K (.ref D) "__class__"=some (some (.builtin "object.__class__"))n:specialIn K (.builtin "object.__class__") "__get__"=some (some (.builtin "getset_descriptor.__get__"))t:takesIn K (.builtin "object.__class__")=some true
 m:mroIn K D (.type "object")=some true
theorem Eu{K:PySem.W.Frag}{x D:Addr}{ox:Obj}{prog:Program}{w:World}{A:Around}{E:Value->Shared->Prop}{s:Shared}{Q:Option Value->Shared->Prop}(Z:Ik K D)(X:K.In s.heap)(I:PySem.W.InstAt s.heap x ox D none)(h:Q (some (.ref D)) {s with toks:=s.toks+1}):wpAny (model prog w) A (getAttr? (.ref x) "__class__") Q E s:=by
 obtain⟨u,hc⟩:=Option.isSome_iff_exists.mp Z.c;have p:findObj K D none "__class__"=some (.bind (.builtin "getset_descriptor.__get__") (.builtin "object.__class__")):=by unfold findObj;rw[hc,bind_some,Z.a,bind_some];simp[Z.n,Z.t]
 obtain⟨j,g,d,t,os⟩:=s;have f:=I.type (M:=model prog w);have q:=PySem.W.looks_findIn (M:=model prog w) X Z.g;have L2:=PySem.W.looks_findIn (M:=model prog w) X Z.h;have k:=PySem.W.looks_find (M:=model prog w) X I p;have l:=PySem.W.looks_mroIn (M:=model prog w) X Z.b;have i:(Value.builtin "BaseException.__getattribute__"==Value.builtin "object.__getattribute__")=false:=by decide+kernel
 have f3:=F.excAttr_ValueError.ga.bind (.ref x);unfold getAttr? getAttrBy? getAttrBy;refine wpAny_bind (wpAny_mkText (wpAny_bind (wpAny_attempt (wpAny_holding (wpAny_bind (f.at (wpAny_bind (q.at ?_))))))));simp only[i,Bool.and_false,false_eq_true,if_false];unfold getAttrByItsOwn hookBefore;simp only[onTheHeap,if_true];refine wpAny_bind (L2.at (wpAny_bind (wpAny_attempt (wpAny_holding ?_))));unfold callGetattribute;simp only[Bool.false_and,false_eq_true,if_false];unfold boundAndCalled;refine wpAny_bind (wpAny_of_eq f3 ?_);refine wpAny_call (codeAny_call_builtin F.excAttr_ValueError.ga.plain F.entry_bexc_ga ?_);have r:builtinKind "BaseException.__getattribute__"=some .slot:=by decide+kernel
 have e:splitId "BaseException.__getattribute__"=some ("BaseException","__getattribute__"):=by decide+kernel
 have y:=F.args_bexc_ga (.ref x) (.str "__class__" t);simp only[checkBuiltinCall,r,e];refine wpAny_bind ?_;unfold isInstance;repeat(first|with_reducible refine wpAny_bind (f.at ?_)|with_reducible refine wpAny_bind (l.at ?_)|with_reducible refine l.at ?_|with_reducible refine f.at ?_|with_reducible refine wpAny_bind (k.at ?_)|with_reducible refine k.at ?_|wp_step)
 refine PySem.W.class_get (s:=⟨j,g,d,t+1,os⟩) (ox:=ox) (od:=none) X I Z.m ?_;refine wpAny_pure ?_;first
  |exact handed_on rfl (wpAny_pure h)|(refine wpAny_mono (handed_on (Q:=λv o=>v=.ref D/\o=⟨j,g,d,t+1,os⟩) rfl ⟨rfl,rfl⟩) (λv o z=>?_) (λ_ _ z=>z);obtain⟨rfl,rfl⟩:=z;exact wpAny_pure h)
  | (repeat(first|wp_step)
     exact h)
theorem yc{K:PySem.W.Frag}{x D:Addr}{ox:Obj}(Z:Ik K D):KitX K (.ref x) (.ref D) (λh=>PySem.W.InstAt h x ox D none)where
 ty:=λ_ _ _ I=>I.type;it:=λ_ _ X _=>by
  obtain⟨b,a⟩:=Option.isSome_iff_exists.mp Z.c;unfold clsIn at a;split at a;.rename_i j d' f g ho;intro o p r t k q;unfold isType loadHead;exact wpAny_bind (wpAny_loadPart (k _ _ (X _ _ ho)) (wpAny_pure q))
  .cases a
 ne:=λh l dd m n sl X i=>by
  obtain⟨b,a⟩:=Option.isSome_iff_exists.mp Z.c;refine Bool.eq_false_iff.mpr λq=>?_;have e:D=l:=Value.ref.inj (beq_iff_eq.mp q);subst e;unfold clsIn at a;split at a;.rename_i j d' f g ho;have z:=(X _ _ ho).symm.trans i;cases z
  .cases a
 ca:=λ{prog w A E Q s}X I h=>Eu Z X I h
end L2
end
section
namespace HH
open PySem L2 PySem.Spec PyProof.Rows
section
variable{K:PySem.W.Frag}{F H F1 H1:Hp}{ρ ρ1:List Sl}{σ σ1:L2.St}
theorem Mv{s:Sl}(h:P0 s=true):tL s=false:=by cases s<;>simp_all[P0,tL]
theorem az.clear(s:az K F ρ σ H F1 ρ1 σ1 H1)(h:ρ.all P0=true){σ':L2.St}(e:σ'.length=ρ.length):az K F ρ σ H F1 (replicate ρ.length .aN) σ' H1:=by
 have un:∀{i:Nat}{x:Sl},(replicate ρ.length Sl.aN)[i]?=some x->x=.aN:=λ{i x}q=>by
  rw[getElem?_replicate]at q;split at q;.cases q;rfl
  .cases q
 refine⟨⟨s.gs.sub,by simp[e],λi b d q=>(by cases un q),λi x c q z=>(by cases un q;cases z),λi j a⟨⟨x,c,q,z⟩,_⟩_=>(by cases un q;cases z)⟩,s.cZ,s.xj,s.keep,λb⟨i,⟨x,c,q,z⟩,_⟩=>(by cases un q;cases z),by simp,λi x q l=>?_⟩;have:=Mv (all_eq_true.mp h x (mem_of_getElem? q));rw[this]at l;cases l
end
def Gd(i:Nat)(e:Addr)(σ:L2.St):Prop:=σ[i]?=some (some (V.ref e))
def GB(X:Cx)(i:Nat)(e:Addr)(x:Expr)(b:Bool):Prop:=PE X x (λσ H Q=>Gd i e σ/\∀a,aJ H a->Q (.bl b) a)
def GT(X:Cx)(i:Nat)(e:Addr)(x:Expr)(b:Bool):Prop:=PT X x (λσ H Q=>Gd i e σ/\∀a,aJ H a->Q b a)
def GW(X:Cx)(i:Nat)(e:Addr)(x:Expr)(b:Bool):Prop:=PW X x (λσ H Q=>Gd i e σ/\∀a,aJ H a->Q b a)
def GC(X:Cx)(es:List Expr)(cs:List V):Prop:=PA X es (λ_ H Q=>Q cs H)
section
variable{X:Cx}{i:Nat}{e C:Addr}{oe:Obj}{pos:Pos}
theorem Te:GC X [] []:=sH dO λ_ _ _ h=>h
theorem gM{y:Expr}{es:List Expr}{v:V}{cs:List V}(h1:PE X y (tC v))(a:GC X es cs)(hs:starEach (y::es) X.env=(false,eval y X.env)::starEach es X.env:=by exact aR rfl):GC X (y::es) (v::cs):=sH (bD h1 a hs) λ_ _ _ h=>h
variable{x:Expr}{b:Bool}
theorem Ho(h:GB X i e x b)(he:∀a,isTrue x X.env a=(do let v<-a;standAt x.pos;holding [v] (truthy v)):=by intro _;rfl):GT X i e x b:=by intro c s σ H Q I q;exact J9 h he c s σ H Q I ⟨q.1,λf sm=>⟨b,rfl,q.2 f sm⟩⟩
theorem GX(h:GT X i e x b):GT X i e (.UnaryOp .Not x pos) (!b):=by intro a s σ H Q I q;exact Jv h a s σ H Q I ⟨q.1,λc sm=>q.2 c sm⟩
theorem GW.gt(h:GW X i e x b):GT X i e x b:=PW.pt h
end
theorem NQ{c:Call}{n:Nat}{s:S}{ρ a:List Sl}{fl:Fl}(h:fO c n [s] ρ=.ok fl a):ex c n s ρ=.ok fl a:=by rw[fO]at h;cases hx:ex c n s ρ with|ok fl b=>rw[hx]at h;cases fl<;>simp[Res.bind,fO]at h<;>simp[h]|exc _ _=>rw[hx]at h;cases h|stuck=>rw[hx]at h;cases h
section
variable{X:Cx}{c:Call}{n i:Nat}{e C:Addr}{oe:Obj}{pos:Pos}
variable{cl:Nat->Addr}{kk:Nat}{st:List Stmt}
theorem wL{x:Str}{C g:Addr}{bm:List Value}{f:String}{mg:Str->Option Value}{h:Heap}{K:PySem.W.Frag}(qt:K.In h)(O:OwnCls x C bm f mg h)(m:mroIn K C (.ref g)=some true):Under h C g:=by
 obtain⟨bm,N,nm,q,bs,hdct,sn,sub,ab,col,dd,k0,k1,k2,k3,k5,mN,j,_⟩:=O.obj;refine⟨nm,q,N,bs,bm,hdct,sn,sub,ab,col,dd,k0,k1,k2,k3,k5,_,j,?_⟩;unfold mroIn at m;obtain⟨o,a,b⟩:=bind_eq_some_iff.mp m;unfold clsIn at a;split at a
 . rename_i p d' k l ho;cases a;have z:=(qt _ _ ho).symm.trans j;cases z;split at b;.cases b
   .exact Option.some.inj b
 .cases a
variable{body:List Stmt}{ss:List S}
end
section
variable{X:Cx}{c:Call}{n:Nat}{W:Nat->Hp->Prop}{e:Expr}{pos:Pos}
theorem J7{cl:Nat->Addr}{kk l np:Nat}{y:Str}{p' cpos:Pos}{es:List Expr}{ps:List P}(m:X.ex=[])(z:zb X (EW cl W))(B:iI X.prog X.w X.K X.mg X.base cl kk c l y np)(hr:iW kk X.A)(C:SG X c (e::es) ps)(G:Gl X y:=by rfl)(I:(e::es).length=np:=by rfl)(o:(y==("__debug__":Str))=false:=by rfl)(he:starEach (e::es) X.env=(false,eval e X.env)::starEach es X.env:=by exact aR rfl)(hpl:(backTo cpos (starEach es X.env)).any (·.1)=false:=by rfl)(r:ps.length=(e::es).length:=by rfl):∃te:TE,PE X (.Call (.Name y p') (e::es) [] cpos) te/\∀σ H Q,(∃F ρ k b,GS X.K F ρ σ H/\ie c (.call l ps) ρ=some (k,b)/\∀t σ' j,az X.K F ρ σ H t b σ' j->W k j)->te σ H Q:=by
 obtain⟨Z,fd,v,h1,J,L,M,N⟩:=B.ex;have O:=vq (p:=p') (pos:=cpos) (E:=EW cl W) h1 hr G J L M .nil (PX m z) C o he hpl;refine⟨_,O,?_⟩;rintro σ H Q⟨F,ρ,k,b,g,a,q⟩;unfold ie mG at a;dsimp only at a;split at a
 . rename_i xs u x;split at a
   . rename_i args h;split at a
     . rename_i k' f hc;cases a;refine⟨F,ρ,xs,u,g,x,λvs F1 U s1 A=>?_⟩;have i:vs.length=v.length:=by rw[<-A.len,Bu x,r,I,N]
       show NZ X.K cl v.length (c l) (vs++[]) U _ (EW cl W);rw[append_nil];refine⟨i,F1,args,k,f,args_gs s1.gs A h,hc,λt σ' j e2 s=>⟨k,rfl,?_⟩⟩;obtain⟨Y,_⟩:=rA s1 A h s;exact q t σ j Y
     .cases a
   .cases a
 .cases a
end
end HH
end
section
namespace L2
open PySem PySem.Spec PyProof.Rows
end L2
namespace HH
open PySem L2 PySem.Spec PyProof.Rows
theorem gn{C:Addr}:∀u,RelV (V.ref C) u->u=Value.ref C:=λ_ r=>r
theorem Tu{n:String}:∀u,RelV (V.ty n) u->u=Value.type n:=λ_ r=>r
theorem Nu:∀a,Vals [] a->a=[]:=λa h=>h.zero
theorem fj{c:V}{b:Value}{cs:List V}{e:List Value}(h:∀u,RelV c u->u=b)(f:∀a,Vals cs a->a=e):∀a,Vals (c::cs) a->a=b::e:=λa v=>by cases v with|cons r g=>rw[h _ r,f _ g]
theorem Jd{K:PySem.W.Frag}{t:Value}:kitAny K t []=some false:=rfl
theorem jG{K:PySem.W.Frag}{t c:Value}{r:List Value}{b:Bool}(h:kitOne K t c=some false)(a:kitAny K t r=some b):kitAny K t (c::r)=some b:=by rw[kitAny,h];exact a
theorem Al{X:Cx}{E:XK}{cl:Nat->Addr}{W:Nat->Hp->Prop}(h:zb X E)(b:∀k H,W k H->∀e,E (.ref e) (some (cl k)) H):zb X (EW cl W):=λa σ H s C e I f o⟨k,hC,hw⟩=>h a σ H s C e I f o (by cases hC;exact b k H hw e)
section
variable{K:PySem.W.Frag}{x y:Str}{C C2:Addr}{b:Bool}{T:String}
def dW(K:PySem.W.Frag)(x:Str)(C:Addr):Prop:=PySem.W.nsIn K mainGlobals x=some (some (.ref C))
theorem dW.uniq(h:dW K x C)(a:dW K x C2):C=C2:=by have:=h.symm.trans a;cases this;rfl
theorem rT(a:PySem.W.nsIn K mainGlobals x=some (some (.ref C))):∃C,dW K x C:=⟨C,a⟩
theorem Rm(h:∃C,uW K x C)(n:dW K x C):uW K x C:=by obtain⟨a,z⟩:=h;have e:a=C:=dW.uniq z.nm n;subst e;exact z
theorem adC(a:PySem.W.nsIn K mainGlobals x=some (some (.ref C)))(g:findIn K (.ref C) "__getattribute__"=some (some (.builtin "BaseException.__getattribute__")))(h:findIn K (.ref C) "__getattr__"=some none)(c:mroIn K C (.type "BaseException")=some true)(f:findIn K (.ref C) "__class__"=some (some (.builtin "object.__class__")))(n:specialIn K (.builtin "object.__class__") "__get__"=some (some (.builtin "getset_descriptor.__get__")))(t:takesIn K (.builtin "object.__class__")=some true)(m:mroIn K C (.type "object")=some true):∃C,dW K x C/\Ik K C:=by refine⟨C,a,g,h,c,?_,f,n,t,m⟩;unfold mroIn at m;obtain⟨e,hc,_⟩:=bind_eq_some_iff.mp m;rw[hc];rfl
theorem adB(h:∃C,dW K x C/\Ik K C)(n:dW K x C):Ik K C:=by obtain⟨a,z,q⟩:=h;have e:a=C:=dW.uniq z n;subst e;exact q
theorem acs(a:PySem.W.nsIn K mainGlobals x=some (some (.ref C)))(c:PySem.W.nsIn K mainGlobals y=some (some (.ref C2)))(m:mroIn K C (.ref C2)=some true):∃C C2,dW K x C/\dW K y C2/\mroIn K C (.ref C2)=some true:=⟨C,C2,a,c,m⟩
theorem adS(h:∃C C2,dW K x C/\dW K y C2/\mroIn K C (.ref C2)=some true)(n:dW K x C)(c:dW K y C2):mroIn K C (.ref C2)=some true:=by obtain⟨f,a,z,g,q⟩:=h;have e:f=C:=dW.uniq z n;have i:a=C2:=dW.uniq g c;subst e i;exact q
theorem tZ(a:PySem.W.nsIn K mainGlobals x=some (some (.ref C)))(c:PySem.W.nsIn K mainGlobals y=some (some (.ref C2)))(m:kitOne K (.ref C) (.ref C2)=some b):∃C C2,dW K x C/\dW K y C2/\kitOne K (.ref C) (.ref C2)=some b:=⟨C,C2,a,c,m⟩
theorem uc(h:∃C C2,dW K x C/\dW K y C2/\kitOne K (.ref C) (.ref C2)=some b)(n:dW K x C)(c:dW K y C2):kitOne K (.ref C) (.ref C2)=some b:=by obtain⟨f,a,z,g,q⟩:=h;have e:f=C:=dW.uniq z n;have i:a=C2:=dW.uniq g c;subst e i;exact q
theorem adp(a:PySem.W.nsIn K mainGlobals x=some (some (.ref C)))(m:kitOne K (.ref C) (.type T)=some b):∃C,dW K x C/\kitOne K (.ref C) (.type T)=some b:=⟨C,a,m⟩
theorem aea(h:∃C,dW K x C/\kitOne K (.ref C) (.type T)=some b)(n:dW K x C):kitOne K (.ref C) (.type T)=some b:=by obtain⟨a,z,q⟩:=h;have e:a=C:=dW.uniq z n;subst e;exact q
end
end HH
end
section
namespace PySem
namespace F
theorem HF:typeLookup (.type "list_reverseiterator") "__len__"=pure none:=by rw[typeLookup_type,builtinLookup_eq_fast];kernel_rfl
theorem N8:typeLookup (.type "list_reverseiterator") "__length_hint__"=pure (some (.builtin "list_reverseiterator.__length_hint__")):=by rw[typeLookup_type,builtinLookup_eq_fast];kernel_rfl
end F
section
variable{prog:Program}{w:World}{A:Around}{E:Value->Shared->Prop}{s:Shared}
theorem pY{it l:Addr}{items:Array Value}{Q:Bool->Shared->Prop}(e:s.heap.IsRevIter it l ((items.size:Int)-1))(k:s.heap.IsList l items)(i:items.size<=2^24)(h:∀b tk,s.toks<=tk->Q b {s with toks:=tk}):wpAny (model prog w) A (listLengthHint (.ref it)) Q E s:=by
 have f:=e.typeIs;unfold listLengthHint;refine wpAny_bind (wpAny_specialOf f F.HF ?_);show wpAny _ _ (specialOf (Value.ref it) (Str.ofString "__length_hint__")>>=_) _ _ _;refine wpAny_bind (wpAny_specialOf f F.N8 ?_);generalize a:("list_reverseiterator.__length_hint__":String)=c;(fail_if_success(clear a c));wp_delta;rw[show splitId c=some ("list_reverseiterator","__length_hint__")from by subst a;decide+kernel];subst a;refine wpAny_bind (wpAny_isInstance (b:=true) f (by rw[isSubtype_type];kernel_rfl) ?_);rw[if_neg (by decide)];dsimp only;split;.refine wpAny_ite_split (λg=>absurd g (by decide+kernel)) (λ_=>?_);exact wpAny_pure (h _ s.toks (eY))
 .rename_i j;exact absurd (by decide+kernel) j
theorem m7{R:Result->Shared->Prop}{I l:Addr}{items:Array Value}(O:A.handled=none)(j:s.heap.IsRevIter I l ((items.size:Int)-1))(C:s.heap.IsList l items)(G:l≠I)(u:items.size<=2^24)(S:Addr)(m:S≠I)(x:S≠l)(res:Value)(k:Nat)(H:s.heap.get? S=some {cls:=.type "list",data:=.seq #[] k})(Q:∀ h' tk a t,(∀ b o,b ≠ S->b ≠ I->s.heap.get? b=some o->h'.get? b=some o)->h'.get? S=some {cls:=.type "list",dict:=none,data:=.seq a t,slots:=#[]}->ItemsOf (λi v=>items[items.size-1-i]?=some v) a items.size->R (.ok (.ret res)) {s with heap:=h',toks:=tk}):wpAny (model prog w) A.in1 (listExtendWith (.ref S) (.ref I) res) (λfin n=>match fin with|.done f=>R (.ok f) n|.again t=>t.quiet=true/\codeAny (model prog w) A t R n) (λe n=>R (.error e) n) s:=by
 have J:S∉[I,l]:=λhm=>by
  rcases mem_cons.mp hm with e|hm;.exact m e
  .exact x (mem_singleton.mp hm)
 have W:=(Walks.listRev (prog:=prog) (w:=w) (A:=A.in1) O I l G items).toS;have U:s.TypeIs (.ref I) "list_reverseiterator":=j.typeIs;have key:∀(h:Heap)(c tk:Nat),h.IsRevIter I l ((items.size:Int)-1-((0:Nat):Int))->h.IsList l items->(∀b o,b≠S->s.heap.get? b=some o->h.get? b=some o)->h.get? S=some {cls:=.type "list",data:=.seq #[] c}->codeAny (model prog w) A (.builtin "list.extend.loop" ⟨[.ref S,.ref I,res],[]⟩) R {s with heap:=h,toks:=tk}:=by
  intro h c tk hi L X p;refine codeAny_extend_loopS W (by rw[sizeLine_eq];omega) S J res items.size 0 _ #[] c rfl (uy) ⟨uy,hi,L⟩ p (ItemsOf.nil _) λn a t hm M y=>?_;rw[Moved.eq_with hm];refine Q n.heap n.toks a t (λb o z N e=>hm.heap b o (λhmem=>?_) (X b o z e)) M y;rcases mem_cons.mp hmem with Y|hmem;.exact z Y
  .exact N (mem_singleton.mp hmem)
 unfold listExtendWith;refine wpAny_bind (wpAny_typeOf U ?_);have h1:listSameRef (.ref S) (.ref I)=false:=by simp[listSameRef,m]
 have Z:(Value.type "list_reverseiterator"==Value.type "list")=false:=by decide
 have h3:(Value.type "list_reverseiterator"==Value.type "tuple")=false:=by decide
 simp only[h1,Z,h3,Bool.or_false,false_eq_true,if_false];refine wpAny_bind (wpAny_pyIter_revIter j ?_);refine wpAny_bind (wpAny_holding (pY j C u λbb tk ac=>?_));have B:s.heap.IsRevIter I l ((items.size:Int)-1-((0:Nat):Int)):=by simpa using j
 refine wpAny_ite_split (λ_=>?_) (λ_=>wpAny_pure ⟨plainId_quiet F.plain_extend_loop _,key _ k _ B C (λb o _ e=>e) H⟩);refine wpAny_bind (wpAny_rule ?_);refine wpAny_bind ?_;show wpAny _ _ (updateSeq S (·.push .none)>>=λ_=>updateSeq S (·.pop)) _ _ _;refine wpAny_bind (wpAny_updateSeq H rfl ?_);have g:=get?_update_self (Obj.mapSeq (·.push Value.none)) H rfl;refine wpAny_updateSeq (hz:=by seq_fits) g rfl ?_;have q:=get?_update_self (Obj.mapSeq (·.pop)) g rfl;have r:∀b o,b≠S->s.heap.get? b=some o->((s.heap.update S (Obj.mapSeq (·.push Value.none))).update S (Obj.mapSeq (·.pop))).get? b=some o:=λb o z e=>(get?_update_other _ _ (Ne.symm z)).trans ((get?_update_other _ _ (Ne.symm z)).trans e);exact wpAny_pure ⟨plainId_quiet F.plain_extend_loop _,key _ _ _ (B.at λo e=>r I o (Ne.symm m) e) (C.at λo e=>r l o (Ne.symm x) e) r q⟩
end
end PySem
namespace L2
open PySem PySem.Spec PyProof.Rows
end L2
namespace HH
open PySem L2 PySem.Spec PyProof.Rows
end HH
end
section
namespace HH
open PySem
theorem ou:∀a b:List Int,bu a b=true->bu b a=false
 |[],[],h=>by simp[bu]at h|[],_::_,_=>by simp[bu]|_::_,[],h=>by simp[bu]at h|x::a,y::b,h=>by
   simp only[bu,or_eq_true,decide_eq_true_eq,and_eq_true]at h;simp only[bu,Bool.or_eq_false_iff,decide_eq_false_iff_not,Bool.and_eq_false_iff];rcases h with h|⟨h,h'⟩;.exact⟨by omega,.inl (by omega)⟩
   .exact⟨by omega,.inr (ou a b h')⟩
theorem Av:∀a b c:List Int,bu b a=false->bu c b=false->bu c a=false
 |[],_,c,_,_=>by cases c<;>simp[bu]|_::_,[],_,h,_=>by simp[bu]at h|_::_,_::_,[],_,h=>by simp[bu]at h|x::a,y::b,z::c,h1,f=>by
   simp only[bu,Bool.or_eq_false_iff,decide_eq_false_iff_not,Bool.and_eq_false_iff]at h1 f ⊢;refine⟨by omega,?_⟩;by_cases e:z=x;.right;exact Av a b c (h1.2.resolve_left (by omega)) (f.2.resolve_left (by omega))
   .exact .inl e
theorem xR:∀a b:List Int,bu a b=false->bu b a=false->a=b
 |[],[],_,_=>rfl|[],_::_,h,_=>by simp[bu]at h|_::_,[],_,h=>by simp[bu]at h|x::a,y::b,h1,c=>by
   simp only[bu,Bool.or_eq_false_iff,decide_eq_false_iff_not,Bool.and_eq_false_iff]at h1 c;have e:x=y:=by omega
   subst e;rw[xR a b (h1.2.resolve_left (by simp)) (c.2.resolve_left (by simp))]
theorem yz:∀{xs ys:List D},xs.all ig=true->ys.all ig=true->xs.map tW=ys.map tW->xs=ys
 |[],[],_,_,_=>rfl|[],_::_,_,_,h=>by simp at h|_::_,[],_,_,h=>by simp at h|x::xs,y::ys,h1,a,h=>by
   simp only[all_cons,and_eq_true]at h1 a;simp only[map_cons,List.cons.injEq]at h;obtain⟨i,rfl⟩:∃i,x=.int i:=by cases x<;>first|exact⟨_,rfl⟩|(have q:=h1.1;simp[ig]at q;done)
   obtain⟨j,rfl⟩:∃j,y=.int j:=by cases y<;>first|exact⟨_,rfl⟩|(have q:=a.1;simp[ig]at q;done)
   rw[yz h1.2 a.2 h.2,show i=j from h.1]
theorem Cp{x y:D}(h:(ig x=true/\ig y=true)\/(yx x=true/\yx y=true))(e:cX x=cX y):x=y:=by
 rcases h with⟨h1,a⟩|⟨h1,a⟩
 . cases x<;>first|(simp[ig]at h1;done)|skip
   cases y<;>first|(simp[ig]at a;done)|skip
   simpa[cX]using e
 . cases x<;>first|(simp[yx]at h1;done)|skip
   cases y<;>first|(simp[yx]at a;done)|skip
   rename_i xs ys;cases xs<;>first|(simp[yx]at h1;done)|skip
   cases ys<;>first|(simp[yx]at a;done)|skip
   rw[yz h1 a e]
noncomputable def m5(a b:D):Bool:=!bu (cX b) (cX a)
theorem xU(a:List D):(Qx a).Perm a:=List.mergeSort_perm ..
theorem Mx(a b c:D)(h1:m5 a b=true)(e:m5 b c=true):m5 a c=true:=by simp only[m5,not_eq_true']at*;exact Av _ _ _ h1 e
theorem Iv(a b:D):(m5 a b||m5 b a)=true:=by simp only[m5,or_eq_true,not_eq_true'];cases h:bu (cX b) (cX a)with|false=>exact .inl rfl|true=>exact .inr (ou _ _ h)
theorem Aw(c:List D):(Qx c).Pairwise λa b=>m5 a b=true:=List.pairwise_mergeSort Mx Iv c
theorem wK{a:List D}(h:sortable a=true):∀x∈a,∀y∈a,cX x=cX y->x=y:=by
 simp only[sortable,and_eq_true,or_eq_true,all_eq_true]at h;intro x b y c e;rcases h.2 with h|h;.exact Cp (.inl ⟨h x b,h y c⟩) e
 .exact Cp (.inr ⟨h x b,h y c⟩) e
theorem sX{c l:List D}(h:sortable c=true)(p:l.Perm c)(s:l.Pairwise λa b=>m5 a b=true):l=Qx c:=by refine List.Perm.eq_of_pairwise (le:=λa b=>m5 a b=true) (λa b f g h1 e=>?_) s (Aw c) (p.trans (xU c).symm);simp only[m5,not_eq_true']at h1 e;exact wK h a (p.mem_iff.mp f) b ((xU c).mem_iff.mp g) (xR _ _ e h1)
end HH
end
section
namespace HH
open PySem PyProof.Rows
variable{xs:Array Keyed}{i:Nat}
structure Rk(M:Model)(A:Around)(E:Value->Shared->Prop)(s:Shared)(κ:SortKind)(ok:Keyed->Prop)(K:Keyed->Int):Prop where lt:∀{x y:Keyed}{Q:Option Bool->SortSt->Prop}{st:SortSt},ok x->ok y->kindOf st=κ->Q (some (decide (K x<K y))) st->wpS M A E s (lt' x y) Q st
section
variable{M:Model}{A:Around}{E:Value->Shared->Prop}{s:Shared}{κ:SortKind}{ok:Keyed->Prop}{K:Keyed->Int}
noncomputable def it(xs:Array Keyed)(i:Nat):Keyed:=xs.getD i (Value.none,Value.none)
theorem Mq(h:i<xs.size):xs[i]?=some (it xs i):=by unfold it;simp[Array.getD,h]
theorem HW(h:i<xs.size):it xs i∈xs.toList:=by
 have:it xs i=xs[i]:=by unfold it;simp[Array.getD,h]
 rw[this];simp
theorem CZ{Q:Keyed->SortSt->Prop}{st:SortSt}(h:i<xs.size)(q:Q (it xs i) st):wpS M A E s (elem' xs i) Q st:=by rw[elem'_eq,Mq h];exact wpS_pure q
end
section
variable{K:Keyed->Int}
def Seg(K:Keyed->Int)(xs:Array Keyed)(lo hi:Nat):Prop:=∀i j,lo<=i->i<=j->j<hi->K (it xs i)<=K (it xs j)
theorem Lf:it xs i=xs.toList.getD i (Value.none,Value.none):=by
 unfold it;by_cases h:i<xs.size;.simp[Array.getD,h]
 .simp[Array.getD,h]
end
section
variable{M:Model}{A:Around}{E:Value->Shared->Prop}{s:Shared}{κ:SortKind}{ok:Keyed->Prop}{K:Keyed->Int}
structure Sx(κ:SortKind)(ok:Keyed->Prop)(st:SortSt)(xs:Array Keyed)(st':SortSt):Prop where
 kind:kindOf st'=κ
 arr:arrOf st'=xs
 pend:pendingOf st'=pendingOf st
 fail:failedOf st'=none
 ok:∀x∈xs.toList,ok x
theorem Oh(R:Rk M A E s κ ok K){st a:SortSt}{j:Nat}{Q:Option Bool->SortSt->Prop}(h:Sx κ ok st xs a)(hi:i<xs.size)(b:j<xs.size)(q:Q (some (decide (K (it xs i)<K (it xs j)))) a):wpS M A E s (ltAt' i j) Q a:=by rw[ltAt'_eq];refine wpS_bind (wpS_get ?_);show wpS M A E s (elem' (arrOf a) i>>=λx=>elem' (arrOf a) j>>=λy=>lt' x y) Q a;rw[h.arr];exact wpS_bind (CZ hi (wpS_bind (CZ b (R.lt (h.ok _ (HW hi)) (h.ok _ (HW b)) h.kind q))))
theorem Vr(R:Rk M A E s κ ok K){st g:SortSt}{lo a n:Nat}{Q:Option (Option Nat)×Nat->SortSt->Prop}(h:Sx κ ok st xs g)(u:lo+n<=xs.size)(v:1<=a)(l:a<=n)(hs:Seg K xs lo (lo+a))(q:∀m,a<=m->m<=n->Seg K xs lo (lo+m)->(m=n\/K (it xs (lo+m))<K (it xs (lo+m-1)))->Q (none,m) g):wpS M A E s (forIn [a:n] ((none,a):Option (Option Nat)×Nat) λ_ c=>ltAt' (lo+c.2) (lo+c.2-1)>>=λo=>match o with|some b=>if b=true then pure (.done (none,c.2))else pure (.yield (none,c.2+1))|_=>pure (.done (some none,c.2))) Q g:=by
 refine wpS_forRange (I:=λx c k=>k=g/\c=(none,x)/\Seg K xs lo (lo+x)) ?_ ?_ ⟨rfl,rfl,hs⟩
 . rintro x c k h1 w⟨rfl,rfl,f⟩;try dsimp only
   refine wpS_bind (Oh R h (by omega) (by omega) ?_);by_cases c:K (it xs (lo+x))<K (it xs (lo+x-1))
   . rw[decide_eq_true c];try dsimp only
     rw[if_pos rfl];exact wpS_pure (q x h1 (by omega) f (.inr c))
   . rw[decide_eq_false c];try dsimp only
     rw[if_neg (by simp)];refine wpS_pure ⟨rfl,rfl,λi j p r y=>?_⟩;by_cases t:j<lo+x;.exact f i j p r t
     . have:j=lo+x:=by omega
       subst this;by_cases e:i=lo+x;.rw[e];exact Int.le_refl _
       .have:=f i (lo+x-1) p (by omega) (by omega);omega
 .rintro c k⟨rfl,rfl,f⟩;rw[show max a n=n by omega]at f ⊢;exact q n l (eY) f (.inl rfl)
end
noncomputable abbrev Rn:=Nat×Nat×Nat
section
variable{K:Keyed->Int}{xs ys:Array Keyed}
def Yv(K:Keyed->Int)(xs:Array Keyed):Nat->List Rn->Nat->Prop|a,[],b=>a=b|a,r::l,b=>r.1=a/\1<=r.2.1/\Seg K xs a (a+r.2.1)/\Yv K xs (a+r.2.1) l b
theorem vX:∀{l k:List Rn}{a b:Nat},Yv K xs a (l++k) b↔∃m,Yv K xs a l m/\Yv K xs m k b
 |[],k,a,b=>⟨λh=>⟨a,rfl,h⟩,λ⟨m,h1,c⟩=>by cases(show a=m from h1);exact c⟩|r::l,k,a,b=>by
   rw[cons_append];constructor;.rintro⟨h1,c,e,f⟩;obtain⟨m,g,j⟩:=vX.mp f;exact⟨m,⟨h1,c,e,g⟩,j⟩
   .rintro⟨m,⟨h1,c,e,f⟩,g⟩;exact⟨h1,c,e,vX.mpr ⟨m,f,g⟩⟩
end
section
variable{M:Model}{A:Around}{E:Value->Shared->Prop}{s:Shared}{κ:SortKind}{ok:Keyed->Prop}{K:Keyed->Int}
structure SR(κ:SortKind)(ok:Keyed->Prop)(K:Keyed->Int)(x0 ys:Array Keyed)(l:List Rn)(lo:Nat)(st:SortSt):Prop where
 kind:kindOf st=κ
 arr:arrOf st=ys
 fail:failedOf st=none
 pend:(pendingOf st).toList=l
 perm:ys.toList.Perm x0.toList
 ok:∀x∈ys.toList,ok x
 rns:Yv K ys 0 l lo
 le:lo<=ys.size
theorem SR.sx{x0 ys:Array Keyed}{l:List Rn}{lo:Nat}{st:SortSt}(h:SR κ ok K x0 ys l lo st):Sx κ ok st ys st:=⟨h.kind,h.arr,rfl,h.fail,h.ok⟩
end
end HH
end
section
namespace HH
open PySem PySem.W PyProof.Rows PySem.Calls L2 PySem.Spec
theorem M9(a:List Int):bu a a=false:=by cases h:bu a a with|false=>rfl|true=>rw[ou _ _ h]at h;cases h
theorem Gw{a b x:List Int}(h:bu b a=false)(c:bu x a=true):bu x b=true:=by cases e:bu x b with|true=>rfl|false=>rw[Av _ _ _ h e]at c;cases c
theorem uQ{a:Type}{p q:a->Bool}(h:∀x,p x=true->q x=true):∀{l:List a},(∃x,x∈l/\q x=true/\p x=false)->l.countP p<l.countP q
 |[],⟨x,hx,_⟩=>by cases hx|y::l,⟨x,hx,h1,b⟩=>by
   rw[List.countP_cons,List.countP_cons];have m:=List.countP_mono_left (l:=l) (p:=p) (q:=q) λx _=>h x;rcases mem_cons.mp hx with rfl|hx;.rw[h1,b,if_pos rfl,if_neg (by simp)];omega
   .have:=uQ h ⟨x,hx,h1,b⟩;cases hp:p y with|true=>rw[h y hp];omega|false=>rw[if_neg (by simp)];omega
noncomputable def Vo(a:List D)(d:D):Nat:=a.countP λe=>bu (cX e) (cX d)
theorem Ke{a:List D}{d e:D}(hd:d∈a):decide ((Vo a d:Int)<Vo a e)=bu (cX d) (cX e):=by cases h:bu (cX d) (cX e)with|true=>have:=uQ (l:=a) (p:=λx=>bu (cX x) (cX d)) (q:=λx=>bu (cX x) (cX e)) (λx b=>Gw (ou _ _ h) b) ⟨d,hd,h,M9 _⟩;rw[decide_eq_true_iff];unfold Vo;omega|false=>have:=List.countP_mono_left (l:=a) (p:=λx=>bu (cX x) (cX e)) (q:=λx=>bu (cX x) (cX d)) λx _ b=>Gw h b;rw[decide_eq_false_iff_not];unfold Vo;omega
open Classical in
noncomputable def rkK(P:Value->D->Prop)(a:List D)(x:Keyed):Int:=if h:∃d,d∈a/\P x.1 d then(Vo a h.choose:Int)else 0
theorem DG{P:Value->D->Prop}{a:List D}{x:Keyed}{d:D}(fn:∀u d e,P u d->P u e->cX d=cX e)(hd:d∈a)(b:P x.1 d):rkK P a x=Vo a d:=by have h:∃d,d∈a/\P x.1 d:=⟨d,hd,b⟩;unfold rkK;rw[dif_pos h];unfold Vo;rw[fn _ _ _ h.choose_spec.2 b]
noncomputable def pick{a:Type}(d:a)(p:List Nat)(l:List a):List a:=p.map λi=>l.getD i d
theorem nQ{a:Type}(d:a)(l:List a):pick d (List.range l.length) l=l:=by refine ext_getElem (by simp[pick]) λi h1 b=>?_;simp[pick,b]
theorem qQ{a:Type}{d:a}{p:List Nat}{l:List a}{n:Nat}(h:p.Perm (List.range n)):(pick d p l).length=n:=by rw[pick,length_map,h.length_eq,length_range]
theorem lD{P:Value->D->Prop}:∀{b:List Value}{a:List D},Paired P b a->∀i,i<b.length->P (b.getD i .none) (a.getD i .non)/\a.getD i .non∈a|_,_,.cons r _,0,_=>⟨by simpa using r,by simp⟩|_,_,.cons _ t,i+1,hi=>by have:=lD t i (by simpa using hi);exact⟨by simpa using this.1,by simpa using Or.inr this.2⟩
end HH
end
section
namespace HH
open PySem L2 PySem.Spec PyProof.Rows PySem.Calls PySem.W
section
variable{prog:Program}{w:World}{A:Around}{E:Value->Shared->Prop}{s:Shared}{vs:List Value}{κ:SortKind}{P:Value->D->Prop}{ds:List D}
theorem pG{b fin:Bool}{Q:Bool->Shared->Prop}:∀{xs ys:List Value}{is js:List Int}{i:Nat},IntsAre xs is->IntsAre ys js->fin=decide (is.length<js.length)->Q (bu is js) s->KatLex prog w A b fin Q (xs.zip ys) i s
 |_,_,_,_,_,.nil,.nil,e,h=>by subst e;exact kat_nil (by simpa[bu]using h)|_,_,_,_,_,.nil,.cons _ _ _,e,h=>by subst e;exact kat_nil (by simpa[bu]using h)|_,_,_,_,_,.cons _ _ _,.nil,e,h=>by subst e;exact kat_nil (by simpa[bu]using h)|_,_,_,_,i,.cons (ns:=is) x t r,.cons (ns:=js) y u r',e,h=>by
   refine kat_cons (wpAny_eqBool_int ?_);by_cases q:x=y;.subst q;rw[beq_self_eq_true];refine kat_yes (pG r r' (by rw[e];simp) ?_);simpa[bu]using h
   . rw[beq_eq_false_iff_ne.mpr q];refine kat_no ?_;have a:Q (decide (x<y)) s:=by simpa[bu,q]using h
     cases(b&&i==0)with|true=>exact oneLt_int a|false=>exact kat_one _ _ (wpAny_lt_int a)
def pW(h:Heap)(u:Value)(d:D):Prop:=∃a b is,u=.ref a/\IsTup h a (toArray b)/\IntsAre b is/\is≠[]/\cX d=is
theorem o5{h h':Heap}(k:∀b o,h.get? b=some o->h'.get? b=some o){u:Value}{d:D}(t:pW h u d):pW h' u d:=by obtain⟨a,c,is,e,⟨o,h1,f⟩,g⟩:=t;exact⟨a,c,is,e,⟨o,k _ _ h1,f⟩,g⟩
theorem uT{h h':Heap}(k:∀b o,h.get? b=some o->h'.get? b=some o):∀{a:List Value}{ds:List D},Paired (pW h) a ds->Paired (pW h') a ds|_,_,.nil=>.nil|_,_,.cons r t=>.cons (o5 k r) (uT k t)
theorem pN{h:Heap}:∀{b:List Value}{ds:List D},Paired (pW h) b ds->∃fs,KatTups h b fs/\fs.length=b.length/\∀f∈fs,∃n t,f=Value.int n t|_,_,.nil=>⟨[],trivial,rfl,by simp⟩|_,_,.cons r t=>by obtain⟨fs,h1,e,g⟩:=pN t;obtain⟨a,i,is,rfl,⟨o,j,k,n,l⟩,hi,c,_⟩:=r;cases hi with|nil=>exact absurd rfl c|cons x tk m=>
     refine⟨.int x tk::fs,KatTups.cons j k l (by simp) h1,by simp[e],λf hf=>?_⟩;rcases mem_cons.mp hf with rfl|hf;.exact⟨_,_,rfl⟩
     .exact g f hf
theorem Fb{ds:List D}(t:Paired (pW s.heap) vs ds)(e:2<=vs.length){C:SortKind->Shared->Prop}(a:C (tuples' (Value.type "int"!=Value.type "tuple")) s):wpAny (model prog w) A (keyKind' vs.toArray) C E s:=by obtain⟨fs,h1,f,b⟩:=pN t;refine kat_kind (T:=.type "int") h1 (by omega) (λv c=>?_) rfl a;obtain⟨n,t,rfl⟩:=b v c;exact Looks.now
theorem MT{x y:Value}{d e:D}(h:pW s.heap x d)(i:pW s.heap y e){b:Bool}{C:Bool->Shared->Prop}(c:C (bu (cX d) (cX e)) s):wpAny (model prog w) A (keyLt' (tuples' b) x y) C E s:=by obtain⟨a,j,is,rfl,⟨o,k,r,n,l⟩,hi,m,p⟩:=h;obtain⟨t,its',js,rfl,⟨u,p1,p2,v,p3⟩,f,g,q⟩:=i;refine kat_lt k l p1 p3 ?_;rw[p,q]at c;refine pG (is:=is) (js:=js) (by simpa using hi) (by simpa using f) ?_ c;rw[size_toArray,size_toArray,IntsAre.length hi,IntsAre.length f]
end
theorem Eo{xs:List V}{a:List Value}(h:Vals xs a)(i:Nat):RelV (xs.getD i .non) (a.getD i .none):=by
 have f:=h.length;by_cases hi:i<xs.length
 . obtain⟨u,e,r⟩:=h.get (i:=i) (x:=xs[i]) (getElem?_eq_getElem hi);have b:xs.getD i .non=xs[i]:=by simp[hi]
   have c:a.getD i .none=u:=by simp[e]
   rw[b,c];exact r
 . have b:xs.getD i .non=.non:=by simp[Nat.le_of_not_lt hi]
   have c:a.getD i .none=.none:=by simp[show a.length<=i by omega]
   rw[b,c];rfl
theorem xP{f:Nat->V}{g:Nat->Value}(h:∀i,RelV (f i) (g i)):∀l:List Nat,Vals (l.map f) (l.map g)|[]=>.nil|i::l=>.cons (h i) (xP h l)
theorem JK{p:List Nat}{xs:List V}{a:List Value}(h:Vals xs a):Vals (pick .non p xs) (pick .none p a):=xP (Eo h) _
theorem yF{K:PySem.W.Frag}{F:Hp}{f:Nat->V}{g:Nat->D}(h:∀i,Rep K F (f i) (g i)):∀l:List Nat,aF K F (l.map f) (l.map g)|[]=>.nil|i::l=>.cons (h i) (yF h l)
theorem Iu{K:PySem.W.Frag}{F:Hp}{p:List Nat}{xs:List V}{a:List D}(h:aF K F xs a):aF K F (pick .non p xs) (pick .non p a):=yF (λi=>by
 have f:=h.length;by_cases hi:i<a.length
 . obtain⟨u,e,r⟩:=h.get (i:=i) (d:=a[i]) (getElem?_eq_getElem hi);have b:a.getD i .non=a[i]:=by simp[hi]
   have c:xs.getD i .non=u:=by simp[e]
   rw[b,c];exact r
 . have b:a.getD i .non=.non:=by simp[Nat.le_of_not_lt hi]
   have c:xs.getD i .non=.non:=by simp[show xs.length<=i by omega]
   rw[b,c,Rep]) _
theorem Je{a:List Value}:∀{ns b:List Int},IntsAre a ns->IntsAre a b->ns=b:=by induction a with|nil=>intro ns b h1 c;cases h1;cases c;rfl|cons u a e=>intro ns b h1 c;cases h1 with|cons n t r=>cases c with|cons m t' f=>rw[e r f]
theorem Ov{h:Heap}(u:Value)(d e:D):pW h u d->pW h u e->cX d=cX e:=λ⟨a,f,is,h1,⟨o,g,r,n,i⟩,j,_,k⟩⟨b,l,js,c,⟨s,p1,p2,m,p3⟩,p,_,q⟩=>by rw[h1]at c;cases c;rw[g]at p1;cases p1;rw[i]at p3;cases p3;rw[k,q,Je j p]
theorem all_ints:∀{a:List D},a.all ig=true->a=(a.map tW).map D.int
 |[],_=>rfl|d::a,h=>by
   simp only[all_cons,and_eq_true]at h;cases d<;>first|(have q:=h.1;simp[ig]at q;done)|skip
   rw[map_cons,map_cons,<-all_ints h.2];rfl
theorem intsAre_of:∀{ns:List Int}{a:List Value},Vals (ns.map V.int) a->IntsAre a ns|[],_,.nil=>.nil|n::ns,_,.cons r t=>by obtain⟨tk,rfl⟩:=r;exact .cons n tk (intsAre_of t)
section
variable{X:Cx}{c:Call}{a:Expr}{pa:P}{pos:Pos}
theorem boot_sorted:bootBuiltins "sorted"=some (.builtin "sorted"):=by decide+kernel
end
end HH
end
section
namespace HH
open PySem L2 PySem.Spec PyProof.Rows PySem.Calls
theorem Ag(l b:Addr)(items a:List Value)(n G:Nat)(dd o:Option Addr)(sl r:Array (Option Value))(is js:List Int)(hi:IntsAre items is)(E:IntsAre a js):Meets (Builtin.«tuple.__lt__» ⟨[.ref l,.ref b],[]⟩) (λA R s=>s.heap.get? l=some {cls:=.type "tuple",dict:=dd,data:=.seq items.toArray n,slots:=sl}/\s.heap.get? b=some {cls:=.type "tuple",dict:=o,data:=.seq a.toArray G,slots:=r}/\R (.ok (.ret (.bool (bu is js)))) s):=.of_wp λprog w A R s h=>by
  obtain⟨v,g,d,tk,os⟩:=s;obtain⟨H,I,h⟩:=h;have f2:=AutoSeq1.sub_tuple_tuple;wp_walk using wpAny_loadPart' H,wpAny_loadPart' I,wpAny_forIn_list _ (λf b z=>b.1=none/\z=⟨v,g,d,tk,os⟩/\∃xs ys c j,f=xs.zip ys/\IntsAre xs c/\IntsAre ys j/\decide (items.length<a.length)=decide (c.length<j.length)/\R (.ok (.ret (.bool (bu c j)))) ⟨v,g,d,tk,os⟩) _;case turn=>rintro⟨y,x⟩f b z⟨i,rfl,xs,ys,c,j,hz,h1,k,B,m⟩;cases h1 with|nil=>cases hz|cons p t h1=>cases k with|nil=>cases hz|cons q u k=>
       injection hz with hyx hrest;cases hyx;refine wpAny_bind (wpAny_eqBool_int ?_);by_cases e:p=q;.subst e;rw[beq_self_eq_true];wp_walk;exact⟨rfl,rfl,_,_,_,_,hrest,h1,k,by rw[B];simp,by simpa[bu]using m⟩
       . rw[beq_eq_false_iff_ne.mpr e];have C:R (.ok (.ret (.bool (decide (p<q))))) ⟨v,g,d,tk,os⟩:=by simpa[bu,e]using m
         simp only[Bool.not_false,if_true];refine wpAny_bind (wpAny_rule ?_);refine wpAny_bind (show wpAny (model prog w) A.in1 (compareOp .Lt (Value.int p t) (Value.int q u)) _ _ _ from wpAny_lt_int ?_);refine wpAny_bind (wpAny_pure ?_);exact wpAny_pure (wpAny_pure ⟨_,rfl,C⟩)
  case fin=>
   rintro⟨b1,b2⟩z⟨i,rfl,xs,ys,c,j,hz,h1,k,B,m⟩;simp only at i;subst i;have e:bu c j=decide (items.length<a.length):=by rw[B];cases h1 with|nil=>cases k<;>simp[bu]|cons _ _ _=>cases k with|nil=>simp[bu]|cons _ _ _=>cases hz
   rw[e]at m;wp_walk;exact⟨_,rfl,by simpa[Builtin.Tuple.tupleCompareSizes]using m⟩
  case h=>exact⟨rfl,rfl,items,a,is,js,by simp,hi,E,by rw[IntsAre.length hi,IntsAre.length E],h⟩
section
variable{X:Cx}
theorem Kd(hu:X.A.units+8<cLine):iH X (compareOp .Lt) (rD X.K (yI .lt)):=by rintro f s σ H x y v u Q I G J⟨F,d,e,r,sm,L,M,he,k⟩;obtain⟨t,c,q⟩:=map_some (show(Xx d e).map _=some r from he);subst q;cases d with
 |int i=>cases e with|int j=>exact Tp f s σ H x y v u Q I G J ⟨F,.int i,.int j,_,sm,L,M,by have q:La (λi j=>decide (i<j)) (.int i) (.int j)=some t:=c;simp only[q];rfl,k⟩|_=>cases c
 |tup xs=>cases e with|tup ys=>obtain⟨hc,c⟩:=aY (show(if(xs.all ig&&ys.all ig)=true then some (bu (xs.map tW) (ys.map tW))else none)=some t from c);rw[and_eq_true]at hc;obtain⟨a,vs,rfl,h1,N,_⟩:=L.tup sm;obtain⟨b,ws,rfl,Y,O,_⟩:=M.tup sm;cases G;cases J;obtain⟨z,U,it,_⟩:=I.tuple h1;obtain⟨g,h,B,_⟩:=I.tuple Y;rw[all_ints hc.1]at N;rw[all_ints hc.2]at O;rw[jX N]at U;rw[jX O]at h;have Z:=intsAre_of U;have i2:=intsAre_of h;obtain⟨⟨cls,dd,data,sl⟩,ho,l,n,hd⟩:=it;obtain⟨⟨W,C,data2,E⟩,m,o,n2,p⟩:=B;simp only at l hd o p;subst l hd o p;refine(show wpAny (model X.prog X.w) X.A (richCompare .Lt (.ref a) (.ref b)) _ _ s from richCompare_meets_room (op:=.Lt) ⟨_,ho,rfl⟩ ⟨_,m,rfl⟩ PySem.F.slot_tuple_lt PySem.F.entry_tuple_lt (PySem.F.args_tuple_lt_2 _ _) (Ag a b z g n n2 dd C sl E _ _ Z i2) ⟨ho,m,show Value.bool _≠Value.notImplemented/\_ from⟨(λx=>nomatch x),⟨.bl t,H,I,by rw[<-c];rfl,cB.cY sm (gH _) k⟩⟩⟩ (by omega))|_=>cases c
 |_=>cases c
end
end HH
end
section
namespace L2
open PySem PySem.Spec PyProof.Rows
variable{y:V}{w:World}{H:Hp}{Q:Value->Shared->Prop}{pos:Pos}{X:Cx}
section
variable{κ:Type}[DecidableEq κ]
noncomputable def jR(kvs:List (κ×V))(k:κ):Option V:=(kvs.find? λa=>decide (a.1=k)).map (·.2)
noncomputable def putK(kvs:List (κ×V))(k:κ)(v:V):List (κ×V):=if(kvs.any λa=>decide (a.1=k))=true then kvs.map (λa=>if a.1=k then(a.1,v)else a)else kvs++[(k,v)]
theorem nR{p:κ×V}{r:List (κ×V)}{k:κ}(e:p.1=k):jR (p::r) k=some p.2:=by simp[jR,find?_cons,e]
theorem nM{p:κ×V}{r:List (κ×V)}{k:κ}(e:¬ p.1=k):jR (p::r) k=jR r k:=by simp[jR,find?_cons,e]
theorem qX(k:κ):∀kvs:List (κ×V),(kvs.any λa=>decide (a.1=k))=(jR kvs k).isSome
 |[]=>rfl|p::r=>by
   rw[any_cons];by_cases e:p.1=k;.simp only[nR e,decide_eq_true e,Bool.true_or,Option.isSome_some]
   .rw[nM e,decide_eq_false e,Bool.false_or];exact qX k r
theorem jZ(kvs:List (κ×V))(k:κ)(v:V):(putK kvs k v).length<=kvs.length+1:=by
 unfold putK;split;.rw[length_map];omega
 .rw[length_append,length_cons,length_nil];omega
theorem pU.jg{o:Option V}{u:Option Value}(r:pU o u):o.isSome=u.isSome:=by cases o with
 |none=>cases u with|none=>rfl|some _=>exact(show False from r).elim
 |some _=>cases u with|none=>exact(show False from r).elim|some _=>rfl
theorem pU.getD{o:Option V}{u:Option Value}{d:V}{d':Value}(r:pU o u)(a:RelV d d'):RelV (o.getD d) (u.getD d'):=by cases o with
 |none=>cases u with|none=>exact a|some _=>exact(show False from r).elim
 |some _=>cases u with|none=>exact(show False from r).elim|some _=>exact r
theorem KV.val{kvs:List (κ×V)}{vs:List (κ×Value)}(r:KV kvs vs)(k:κ):pU (jR kvs k) (valueAt vs k):=by unfold KV at r;induction r with|nil=>exact True.intro|@cons p q ps a h t f=>
   obtain⟨h1,g⟩:=h;by_cases e:p.1=k
   . have c:q.1=k:=h1.symm.trans e;have b:valueAt (q::a) k=some q.2:=by simp[valueAt,find?_cons,c]
     rw[nR e,b];exact g
   . have c:¬ q.1=k:=λz=>e (h1.trans z);have b:valueAt (q::a) k=valueAt a k:=by simp[valueAt,find?_cons,c]
     rw[nM e,b];exact f
theorem KV.any{kvs:List (κ×V)}{vs:List (κ×Value)}(r:KV kvs vs)(k:κ):(kvs.any λa=>decide (a.1=k))=vs.any λa=>decide (a.1=k):=by unfold KV at r;induction r with|nil=>rfl|cons h t b=>rw[any_cons,any_cons,b,h.1]
theorem KV.repl{kvs:List (κ×V)}{vs:List (κ×Value)}(r:KV kvs vs)(k:κ){u:Value}(b:RelV y u):KV (kvs.map λa=>if a.1=k then(a.1,y)else a) (vs.map λa=>if a.1=k then(a.1,u)else a):=by unfold KV at r ⊢;induction r with|nil=>exact .nil|@cons p q ps g h t c=>
   rw[map_cons,map_cons];refine .cons ?_ c;obtain⟨h1,f⟩:=h;by_cases e:p.1=k;.rw[if_pos e,if_pos (h1.symm.trans e)];exact⟨h1,b⟩
   .rw[if_neg e,if_neg (λz=>e (h1.trans z))];exact⟨h1,f⟩
theorem KV.put{kvs:List (κ×V)}{vs:List (κ×Value)}(r:KV kvs vs)(k:κ){u:Value}(a:RelV y u):KV (putK kvs k y) (stored vs k u):=by
 unfold putK stored;rw[r.any k];by_cases e:(vs.any λb=>decide (b.1=k))=true;.rw[if_pos e,if_pos e];exact r.repl k a
 .rw[if_neg e,if_neg e];exact Paired.snoc r ⟨rfl,a⟩
theorem KV.length{kvs:List (κ×V)}{vs:List (κ×Value)}(r:KV kvs vs):kvs.length=vs.length:=Paired.length r
end
theorem sS{P:Program}{k:Key}{u:Value}(r:RelV (kV k) u):(aW P w).is k u=true:=by cases k with|inl i=>obtain⟨t,e⟩:=(show ∃t,u=Value.int i t from r);subst e;exact yw P w i t|inr x=>obtain⟨t,e⟩:=(show ∃t,u=Value.str x t from r);subst e;exact yM P w x t
theorem vf{P:Program}{w:World}:∀{ks:List Key}{a:List Value},Vals (ks.map kV) a->ItemsAre (aW P w) ks a|[],_,r=>by rw[map_nil]at r;cases r;exact .nil|k::ks,_,r=>by rw[map_cons]at r;cases r with|cons h t=>exact .cons (sS h) (vf t)
abbrev KT(H:Hp):List (List Key×V)->List (List Key×Addr×Value)->Prop:=Paired λp q=>p.1=q.1/\H q.2.1=some (.tup (p.1.map kV))/\RelV p.2 q.2.2
theorem KT.val{kvs:List (List Key×V)}{xs:List (List Key×Addr×Value)}(r:KT H kvs xs)(k:List Key):pU (jR kvs k) ((atKey xs k).map (·.2)):=by induction r with|nil=>exact True.intro|@cons p q ps a h t f=>
   obtain⟨h1,_,g⟩:=h;by_cases e:p.1=k
   . have c:q.1=k:=h1.symm.trans e;have b:atKey (q::a) k=some q.2:=by simp[atKey,find?_cons,c]
     rw[nR e,b];exact g
   . have c:¬ q.1=k:=λz=>e (h1.trans z);have b:atKey (q::a) k=atKey a k:=by simp[atKey,find?_cons,c]
     rw[nM e,b];exact f
theorem KT.repl{kvs:List (List Key×V)}{xs:List (List Key×Addr×Value)}(r:KT H kvs xs)(k:List Key){u:Value}(c:RelV y u):KT H (kvs.map λa=>if a.1=k then(a.1,y)else a) (xs.map (putAt k u)):=by induction r with|nil=>exact .nil|@cons p q ps i h t f=>
   rw[map_cons,map_cons];refine .cons ?_ f;obtain⟨h1,b,g⟩:=h;unfold putAt;by_cases e:p.1=k;.rw[if_pos e,if_pos (h1.symm.trans e)];exact⟨h1,b,c⟩
   .rw[if_neg e,if_neg (λz=>e (h1.trans z))];exact⟨h1,b,g⟩
theorem KT.put{kvs:List (List Key×V)}{xs:List (List Key×Addr×Value)}(r:KT H kvs xs)(k:List Key){b:Addr}{u:Value}(c:H b=some (.tup (k.map kV)))(a:RelV y u):KT H (putK kvs k y) (storedH xs k b u):=by
 have e:(kvs.any λf=>decide (f.1=k))=(atKey xs k).isSome:=by rw[qX,(r.val k).jg,isSome_map]
 unfold putK storedH;rw[e];by_cases q:(atKey xs k).isSome=true;.rw[if_pos q,if_pos q];exact r.repl k a
 .rw[if_neg q,if_neg q];exact Paired.snoc r ⟨rfl,c,a⟩
theorem KT.keeps{a:Hp}{kvs:List (List Key×V)}{xs:List (List Key×Addr×Value)}(r:KT H kvs xs)(ht:∀b ys,H b=some (.tup ys)->a b=some (.tup ys)):KT a kvs xs:=Paired.Ra r λ_ _ z=>⟨z.1,ht _ _ z.2.1,z.2.2⟩
section
variable{P:Program}{w:World}{H:Hp}{h:Heap}{a:Addr}
theorem PL{u:HO}(ok:jQ P w H h)(e:Rd H a u):bw P w H h a u:=e.ok ok
theorem sW{kvs:List (Key×V)}(ok:jQ P w H h)(e:Rd H a (.dK kvs)):kvs.length<=sizeLine/\(a==sysModules)=false/\∃vs,KV kvs vs/\h.DictOf (aW P w) a vs:=show bw P w H h a (.dK kvs)from PL ok e
theorem Qz{kvs:List (Key×V)}(ok:jQ P w H h)(e:H a=some (.dK kvs)):kvs.length<=sizeLine/\(a==sysModules)=false/\∃vs,KV kvs vs/\h.DictOf (aW P w) a vs:=sW ok (.inl e)
theorem oO{ks:List Key}(ok:jQ P w H h)(e:H a=some (.tup (ks.map kV))):(tupleKind (aW P w)).is h ks a:=by obtain⟨_,b,r,o,h1,c,n,f⟩:=(show bw P w H h a (.tup (ks.map kV))from ok a _ e);exact⟨o,b.toArray,n,h1,c,f,by simpa using vf r⟩
theorem qT{kvs:List (List Key×V)}(ok:jQ P w H h)(e:Rd H a (.dT kvs)):kvs.length<=sizeLine/\(a==sysModules)=false/\∃xs,KT H kvs xs/\h.DictOfH (tupleKind (aW P w)) a xs:=by
 obtain⟨z,y,xs,r,o,es,ep,h1,c,f,g,i⟩:=(show bw P w H h a (.dT kvs)from PL ok e);refine⟨z,y,xs,r,o,es,ep,h1,c,f,g,λx hx=>?_,i⟩;have all:∀{l:List (List Key×V)}{m:List (List Key×Addr×Value)},KT H l m->∀x∈m,(tupleKind (aW P w)).is h x.1 x.2.1:=by intro l m q;induction q with|nil=>intro x hx;exact nomatch hx|@cons p q ps k b t j=>
    intro x hx;rcases mem_cons.mp hx with e|hx;.subst e;exact oO ok (by rw[<-b.1];exact b.2.1)
    .exact j x hx
 exact all r x hx
theorem Yz{kvs:List (List Key×V)}(ok:jQ P w H h)(e:H a=some (.dT kvs)):kvs.length<=sizeLine/\(a==sysModules)=false/\∃xs,KT H kvs xs/\h.DictOfH (tupleKind (aW P w)) a xs:=qT ok (.inl e)
end
def o4(H:Hp)(a:Addr)(y:V)(r:Option V):Prop:=(∃kvs k,Rd H a (.dK kvs)/\y=kV k/\r=jR kvs k)\/∃kvs k b,Rd H a (.dT kvs)/\y=.ref b/\H b=some (.tup (k.map kV))/\r=jR kvs k
def Z6(H:Hp)(a:Addr)(y v:V)(c:Hp):Prop:=(∃kvs k,H a=some (.dK kvs)/\y=kV k/\kvs.length<sizeLine/\c=upd H a (.dK (putK kvs k v)))\/∃kvs k b,H a=some (.dT kvs)/\y=.ref b/\H b=some (.tup (k.map kV))/\kvs.length<sizeLine/\c=upd H a (.dT (putK kvs k v))
section
variable{X:Cx}{pins:List (Addr×Obj)}{σ:St}{H:Hp}{s:Shared}{a:Addr}{y v:V}{u r:Value}{o:Option V}{A:Around}{E:Value->Shared->Prop}
theorem Inv.big(I:Inv X pins σ H s):sysModules<s.heap.objs.size:=by have h:mainGlobals<s.heap.objs.size:=(I.mod.glob.keeps I.bk).lt;exact Nat.lt_trans (by decide) h
theorem o7(x:A.units+1<cLine)(I:Inv X pins σ H s)(g:o4 H a y (some v))(q:RelV y u)(h:∀f t,Inv X pins σ H t->RelV v f->Q f t):wpAny (model X.prog X.w) A (getItem (.ref a) u) Q E s:=by
 rcases g with⟨kvs,k,e,i,l⟩|⟨kvs,k,b,e,i,B,l⟩;.subst i;obtain⟨z,hd,vs,c,dd⟩:=sW I.hok e;obtain⟨f,j,m⟩:=pU.some_of (v:=v) (o:=valueAt vs k) (by rw[l];exact c.val k);exact wpAny_getItem_of (sS q) dd.mapOf j (h f _ (I.tok _) m)
 .subst i;cases(show u=Value.ref b from q);obtain⟨z,hd,xs,c,dd⟩:=qT I.hok e;obtain⟨f,j,m⟩:=pU.some_of (v:=v) (o:=(atKey xs k).map (·.2)) (by rw[l];exact c.val k);obtain⟨p,C,n⟩:=map_eq_some_iff.mp j;refine wpAny_getItem_heap (tupleKind_room_in1 x) (oO I.hok B) dd C ?_;rw[n];exact h f _ (I.tok _) m
theorem Yo(m:A.units+1<cLine)(I:Inv X pins σ H s)(g:o4 H a y o)(i:RelV y u)(h:∀j,Inv X pins σ H j->Q (.bool o.isSome) j):wpAny (model X.prog X.w) A (compareOp .In u (.ref a)) Q E s:=by
 rcases g with⟨kvs,k,e,f,l⟩|⟨kvs,k,b,e,f,n,l⟩;.subst f;obtain⟨z,hd,vs,c,dd⟩:=sW I.hok e;refine wpAny_in_of (sS i) hd dd.mapOf ?_;rw[<-(c.val k).jg,<-l];exact h _ (I.tok _)
 .subst f;cases(show u=Value.ref b from i);obtain⟨z,hd,xs,c,dd⟩:=qT I.hok e;refine wpAny_in_heap (tupleKind_room_in1 m) (oO I.hok n) hd dd ?_;have q:=(c.val k).jg;rw[isSome_map]at q;rw[<-q,<-l];exact h _ (I.tok _)
theorem Dv(m:A.units+1<cLine)(I:Inv X pins σ H s)(g:o4 H a y o)(i:RelV y u)(h:∀j,Inv X pins σ H j->Q (.bool (!o.isSome)) j):wpAny (model X.prog X.w) A (compareOp .NotIn u (.ref a)) Q E s:=by
 rcases g with⟨kvs,k,e,f,l⟩|⟨kvs,k,b,e,f,n,l⟩;.subst f;obtain⟨z,hd,vs,c,dd⟩:=sW I.hok e;refine wpAny_notIn_of (sS i) hd dd.mapOf ?_;rw[<-(c.val k).jg,<-l];exact h _ (I.tok _)
 .subst f;cases(show u=Value.ref b from i);obtain⟨z,hd,xs,c,dd⟩:=qT I.hok e;refine wpAny_notIn_heap (tupleKind_room_in1 m) (oO I.hok n) hd dd ?_;have q:=(c.val k).jg;rw[isSome_map]at q;rw[<-q,<-l];exact h _ (I.tok _)
theorem vp{h':Heap}{t':Nat}{c:HO}(I:Inv X pins σ H s)(f:Zn (H a))(hs:SameBut a s.heap h')(he:∃q,h'.get? a=some q)(new:bw X.prog X.w (upd H a c) h' a c):Inv X pins σ (upd H a c) {s with heap:=h',toks:=t'}:=I.write (x:=a) (e:=a) f (.inl rfl) (λb q g z=>(hs.2 b g).trans z) he new
theorem HD{P:Program}{c:Hp}{h':Heap}{kvs:List (Key×V)}{vs:List (Key×Value)}(z:kvs.length<=sizeLine)(hd:(a==sysModules)=false)(b:KV kvs vs)(dd:h'.DictOf (aW P w) a vs):bw P w c h' a (.dK kvs):=⟨z,hd,vs,b,dd⟩
theorem Ep{t:Hp}{Q:Unit->Shared->Prop}(L:A.units+1<cLine)(I:Inv X pins σ H s)(g:Z6 H a y v t)(x:RelV y u)(B:RelV v r)(h:∀C,Inv X pins σ t C->Q () C):wpAny (model X.prog X.w) A (setItem (.ref a) u r) Q E s:=by
 rcases g with⟨kvs,k,e,m,l,n⟩|⟨kvs,k,b,e,m,G,l,n⟩
 . subst m n;obtain⟨z,hd,vs,f,dd⟩:=Qz I.hok e;have hz:vs.length<=sizeLine:=by rw[<-f.length];exact z
   have p:(putK kvs k v).length<=sizeLine:=by have:=jZ kvs k v;omega
   refine wpAny_setItem_pairs (hsz:=hz) (sS x) dd λh' i hs=>h _ ?_;have he:∃q,h'.get? a=some q:=let⟨q,_,_,j,_⟩:=i;⟨q,j⟩;exact vp I (by rw[e];exact True.intro) hs he (HD p hd (f.put k B) i)
 . subst m n;cases(show u=Value.ref b from x);obtain⟨z,hd,xs,f,dd⟩:=Yz I.hok e;have hz:xs.length<=sizeLine:=by rw[<-Paired.length f];exact z
   have p:(putK kvs k v).length<=sizeLine:=by have:=jZ kvs k v;omega
   refine wpAny_setItem_heap (hsz:=hz) (tupleKind_room_in1 L) (oO I.hok G) dd λh' i hs=>h _ ?_;obtain⟨q,es,ep,j,M,N,O,_,U⟩:=i;refine vp I (by rw[e];exact True.intro) hs ⟨q,j⟩ ⟨p,hd,_,(f.put k G B).keeps λc ys J=>?_,q,es,ep,j,M,N,O,U⟩;rw[aA (YQ J e (λz=>nomatch z))];exact J
end
def Oj(i:Expr):Prop:=∀a iv,subscripted i false a iv=operate [a,iv] (getItem a iv)
theorem Cw{prog:Program}{A:Around}{E:Value->Shared->Prop}{s:Shared}{env:Env}{a slice:Expr}{T id:String}(l:typeLookup (.type T) "__getitem__"=pure (some (.builtin id)))(hs:Oj slice)(h:wpAny (model prog w) A (eval a env) (λo e=>wpAny (model prog w) A (eval slice env) (λi b=>b.TypeIs o T/\wpAny (model prog w) A (getItem o i) Q E b) E e) E s):wpAny (model prog w) A (eval (.Subscript a slice pos) env) Q E s:=by
 refine Subscript_ (wpAny_mono h (λo e g=>wpAny_mono g (λi b c=>?_) λ_ _ x=>x) λ_ _ x=>x);obtain⟨k,c⟩:=c;unfold subscriptTail;refine wpAny_bind ?_;rw[getitemInPython_of_ne k.not_modules];refine wpAny_bind (wpAny_specialOf k l ?_);have fin:wpAny (model prog w) A (subscripted slice false o i) (λr f=>wpAny (model prog w) A (letTemporaryGo a o r>>=λ_=>pure r) Q E f) E b:=by rw[hs o i];exact wpAny_operating (wpAny_mono c (λr f j=>wpAny_bind (wpAny_letTemporaryGo (wpAny_pure j))) λ_ _ x=>x)
 first|exact wpAny_pure (wpAny_bind fin)|exact wpAny_bind (wpAny_pure (wpAny_bind fin))|exact wpAny_bind fin
theorem jV{c:List (Addr×Obj)}{σ:St}{s:Shared}{a:Addr}{o:Option V}(I:Inv X c σ H s)(g:o4 H a y o):s.TypeIs (.ref a) "dict":=by
 rcases g with⟨kvs,k,e,_,_⟩|⟨kvs,k,b,e,_,_,_⟩;.obtain⟨_,_,vs,_,dd⟩:=sW I.hok e;exact dd.typeIs
 .obtain⟨_,_,xs,_,dd⟩:=qT I.hok e;exact dd.typeIs
def Y8(c ty:TE):TE:=λσ H Q=>c σ H λx e=>ty σ e λy b=>∃a v,x=.ref a/\o4 b a y (some v)/\Q v b
def acQ(ty c:TE):TE:=λσ H Q=>ty σ H λy e=>c σ e λx b=>∃a o,x=.ref a/\o4 b a y o/\Q (.bl o.isSome) b
def Oi(ty c:TE):TE:=λσ H Q=>ty σ H λy e=>c σ e λx b=>∃a o,x=.ref a/\o4 b a y o/\Q (.bl (!o.isSome)) b
def YW(c ty e:TE):TS:=λD σ H=>e σ H λv f=>c σ f λx g=>ty σ g λy h=>∃a b,x=.ref a/\Z6 h a y v b/\D.nx σ b
section
variable{X:Cx}{o i e value:Expr}{pos pos' tpos:Pos}{td ty tv:TE}
theorem Nk(c:X.A.units+1<cLine)(ho:PE X o td)(hi:PE X i ty)(hs:Oj i):PE X (.Subscript o i pos) (Y8 td ty):=by intro b s σ H Q I h;refine Cw PySem.F.slot_dict_getitem.lookup hs (bV (ho b s σ H _ I h) λu s1⟨x,H1,I1,rx,q1⟩=>bV (hi b s1 σ H1 _ I1 q1) λiv s2⟨y,H2,I2,ry,a,v,ex,g,q2⟩=>?_);subst ex;obtain rfl:u=Value.ref a:=rx;exact⟨jV I2 g,o7 c I2 g ry λk s3 f j=>⟨v,H2,f,j,q2⟩⟩
theorem Uh(c:X.A.units+1<cLine)(hi:PE X i ty)(ho:PE X o td):PC X .In i o (acQ ty td):=by intro b s σ H Q I h;refine bV (hi b s σ H _ I h) λiv s1⟨y,H1,I1,ry,q1⟩=>bV (ho b s1 σ H1 _ I1 q1) λu s2⟨x,H2,I2,rx,a,ov,ex,g,q2⟩=>?_;subst ex;obtain rfl:u=Value.ref a:=rx;exact Yo c I2 g ry λs3 f=>⟨.bl ov.isSome,H2,f,rfl,q2⟩
theorem Eh(c:X.A.units+1<cLine)(hi:PE X i ty)(ho:PE X o td):PC X .NotIn i o (Oi ty td):=by intro b s σ H Q I h;refine bV (hi b s σ H _ I h) λiv s1⟨y,H1,I1,ry,q1⟩=>bV (ho b s1 σ H1 _ I1 q1) λu s2⟨x,H2,I2,rx,a,ov,ex,g,q2⟩=>?_;subst ex;obtain rfl:u=Value.ref a:=rx;exact Dv c I2 g ry λs3 f=>⟨.bl (!ov.isSome),H2,f,rfl,q2⟩
theorem Cv(c:X.A.units+1<cLine)(ho:PE X o td)(hi:PE X i ty)(f:PE X value tv)(hs:swapsWith value (some (.Subscript o i pos')) pos.line X.env=pure false):PS X (.Assign [.Subscript o i pos'] value pos) (YW td ty tv):=by intro b s σ H D I h;refine wpAny_Assign_Subscript (bV (f b s σ H _ I h) λr s1⟨v,H1,I1,rv,q1⟩=>bV (ho b s1 σ H1 _ I1 q1) λu s2⟨x,H2,I2,rx,q2⟩=>bV (hi b s2 σ H2 _ I2 q2) λiv s3⟨y,H3,I3,ry,a,H4,ex,g,q3⟩=>?_) hs;subst ex;obtain rfl:u=Value.ref a:=rx;exact Ep c I3 g ry rv λs4 j=>⟨σ,H4,j,q3⟩
end
theorem xQ{P:Program}(h:Heap)(a:sysModules<h.objs.size):bw P w H (h.push {cls:=.type "dict",data:=.dict #[]}) h.objs.size (.dK []):=⟨uy,beq_eq_false_iff_ne.mpr (Ne.symm (ne_of_lt a)),[],.nil,Heap.DictOf.new h⟩
def Tt:TE:=λ_ H Q=>∀p,H p=none->Q (.ref p) (upd H p (.dK []))
section
variable{X:Cx}{pos:Pos}
theorem xJ:PE X (.Dict [] [] pos) Tt:=λb s σ H Q I h=>wpAny_Dict_empty ⟨.ref s.heap.objs.size,_,I.laid (a:=s.heap.objs.size) (o:=.dK []) (t':=s.toks) (λ_ _ q=>iK q) (eY) (xQ s.heap I.big),rfl,h _ (I.hok.fresh (eY))⟩
end
def zu:List (TE×TE)->St->Hp->(List (V×V)->Hp->Prop)->Prop|[],_,H,Q=>Q [] H|(tk,a)::r,σ,H,Q=>tk σ H λx b=>a σ b λy c=>zu r σ c λps e=>Q ((x,y)::ps) e
abbrev VV:List (V×V)->List (Value×Value)->Prop:=Paired λp q=>RelV p.1 q.1/\RelV p.2 q.2
def PPs(X:Cx)(pos:Pos)(keys:List (Option Expr))(a:List Expr)(e:List (TE×TE)):Prop:=∀(b:List (Addr × Obj))(s:Shared)(σ:St)(H:Hp)(Q:List (V × V)->Hp->Prop),Inv X b σ H s->zu e σ H Q->wpAny (model X.prog X.w) X.A (evalPairs (pairTrees keys a X.env pos)) (λvs f=>∃ps c,Inv X b σ c f/\VV ps vs/\Q ps c) X.xe s
theorem By:PPs X pos [] [] []:=λa s σ H Q I h=>pairTrees_nil_walk ⟨[],H,I,.nil,h⟩
theorem xn{k v:Expr}{ks:List (Option Expr)}{vs:List Expr}{tk b:TE}{c:List (TE×TE)}(e:PE X k tk)(f:PE X v b)(hr:PPs X pos ks vs c):PPs X pos (some k::ks) (v::vs) ((tk,b)::c):=λa s σ H Q I h=>pairTrees_cons_walk (bV (e a s σ H _ I h) λu s1⟨x,H1,I1,rx,q1⟩=>bV (f a s1 σ H1 _ I1 q1) λg s2⟨y,H2,I2,ry,q2⟩=>bV (hr a s2 σ H2 _ I2 q2) λws s3⟨ps,H3,I3,rel,q3⟩=>⟨(x,y)::ps,H3,I3,.cons ⟨rx,ry⟩ rel,q3⟩)
noncomputable def oW(kvs more:List (Key×V)):List (Key×V):=more.foldl (λa b=>putK a b.1 b.2) kvs
theorem KV.merge:∀{more:List (Key×V)}{a:List (Key×Value)}{kvs:List (Key×V)}{vs:List (Key×Value)},KV more a->KV kvs vs->KV (oW kvs more) (merged vs a):=by intro more a kvs vs r;unfold KV at r;induction r generalizing kvs vs with|nil=>intro q;exact q|@cons p q ps c h t b=>
   intro r0;have e:KV (putK kvs p.1 p.2) (stored vs q.1 q.2):=by have:=r0.put p.1 h.2;rw[<-h.1];exact this
   exact b e
theorem lZ:∀(more kvs:List (Key×V)),(oW kvs more).length<=kvs.length+more.length|[],kvs=>by show kvs.length<=kvs.length+0;omega|p::r,kvs=>by have h1:=lZ r (putK kvs p.1 p.2);have a:=jZ kvs p.1 p.2;show(oW (putK kvs p.1 p.2) r).length<=_;rw[length_cons];omega
theorem rJ{P:Program}{w:World}:∀{kvs:List (Key×V)}{ws:List (Value×Value)},VV (kvs.map λf=>(kV f.1,f.2)) ws->∃e,Carries (aW P w) ws e/\KV kvs e|[],_,r=>by rw[map_nil]at r;cases r;exact⟨[],True.intro,.nil⟩|p::kvs,_,r=>by rw[map_cons]at r;cases r with|@cons a b as bs h t=>obtain⟨e,c,q⟩:=rJ (P:=P) (w:=w) t;obtain⟨b1,b2⟩:=b;exact⟨(p.1,b2)::e,⟨sS h.1,rfl,c⟩,.cons ⟨rfl,h.2⟩ q⟩
def ZS(c:List (TE×TE)):TE:=λσ H Q=>∀p,H p=none->zu c σ (upd H p (.dK [])) λps a=>a p=some (.dK [])/\∃kvs:List (Key×V),ps=kvs.map (λb=>(kV b.1,b.2))/\kvs.length<=15/\Q (.ref p) (upd a p (.dK (oW [] kvs)))
theorem Dt{keys:List (Option Expr)}{b:List Expr}{j:List (TE×TE)}(h:PPs X pos keys b j)(f:keys.all (·.isSome)=true)(l:keys.length=b.length)(h0:keys≠[])(i:keys.length<=15):PE X (.Dict keys b pos) (ZS j):=by
 intro g s σ H Q I q;have m:=I.hok.fresh (le_refl s.heap.objs.size);have n:=I.laid (a:=s.heap.objs.size) (o:=.dK []) (h':=s.heap.push {cls:=.type "dict",data:=.dict #[]}) (t':=s.toks) (λ_ _ q=>iK q) (eY) (xQ s.heap I.big);refine wpAny_Dict_walk (knd:=aW X.prog X.w) f l h0 i (bV (h g _ σ _ _ n (q _ m)) λws s2⟨ps,H2,I2,rel,e,kvs,ep,lk,q2⟩=>?_);subst ep;obtain⟨p,c,r⟩:=rJ (P:=X.prog) (w:=X.w) rel;obtain⟨z,hd,t,r0,dd⟩:=Qz I2.hok e;cases r0;refine⟨p,c,dd,λh' k hs=>⟨.ref s.heap.objs.size,_,?_,rfl,q2⟩⟩;have hz:(oW [] kvs).length<=sizeLine:=by have h1:=lZ kvs [];rw[length_nil]at h1;rw[sizeLine_eq];omega
 have he:∃q,h'.get? s.heap.objs.size=some q:=let⟨q,_,_,hq,_⟩:=k;⟨q,hq⟩;exact vp I2 (by rw[e];exact True.intro) hs he (HD hz hd (r.merge .nil) k)
structure M2(X:Cx)(o:Expr)(m:Str)(apos:Pos)(e f:Expr)(cpos:Pos):Prop where
 base:attributeBase o m X.env (eval o X.env)=eval o X.env
 few:((backTo cpos (starEach [e,f] X.env)).all (λx=>!x.1)&&(backToKw cpos (keywordEach [] X.env)).all (λx=>x.1.isSome)&&decide (([e,f]:List Expr).length+([]:List Keyword).length+(if([]:List Keyword).isEmpty then 0 else 1)<30))=true
 line:(apos.endLine==cpos.line)=true
 trees:backTo cpos (starEach [e,f] X.env)=[(false,eval e X.env),(false,eval f X.env)]
def IsD(H:Hp)(a:Addr):Prop:=(∃kvs,Rd H a (.dK kvs))\/∃kvs,Rd H a (.dT kvs)
theorem S8{f:List (Addr×Obj)}{σ:St}{s:Shared}{a:Addr}(I:Inv X f σ H s)(d:IsD H a):s.TypeIs (.ref a) "dict"/\(∀b,Value.ref a=.ref b->∃c,s.heap.get? b=some c/\c.dict=none)/\(a==sysModules)=false:=by
 rcases d with⟨kvs,e⟩|⟨kvs,e⟩;.obtain⟨_,hd,vs,_,dd⟩:=sW I.hok e;refine⟨dd.typeIs,λb q=>?_,hd⟩;cases q;obtain⟨c,_,_,h1,g,_⟩:=dd;exact⟨c,h1,g.2.1⟩
 .obtain⟨_,hd,xs,_,dd⟩:=qT I.hok e;refine⟨dd.typeIs,λb q=>?_,hd⟩;cases q;obtain⟨c,_,_,h1,g,_⟩:=dd;exact⟨c,h1,g.2.1⟩
section
variable{X:Cx}{pins:List (Addr×Obj)}{σ:St}{H:Hp}{s:Shared}{a:Addr}{y d:V}{u r:Value}{o:Option V}{A:Around}{E:Value->Shared->Prop}
theorem SM(p:A.units+1<cLine)(I:Inv X pins σ H s)(g:o4 H a y o)(i:RelV y u)(j:RelV d r)(h:∀m n,Inv X pins σ H n->RelV (o.getD d) m->Q m n):wpAny (model X.prog X.w) A (call (.builtin "dict.get") [.ref a,u,r]) Q E s:=by
 rcases g with⟨kvs,k,e,f,l⟩|⟨kvs,k,b,e,f,q,l⟩;.subst f;obtain⟨z,hd,vs,c,dd⟩:=sW I.hok e;refine call_meetsIn slot_dict_get dd.typeIs PySem.F.entry_dict_get (PySem.F.args_dict_get_3 _ _ _) (meets_dict_get_default (aW X.prog X.w) a (sS i) hd r) ⟨_,dd.mapOf,h _ _ (I.tok _) ?_⟩;rw[l];exact(c.val k).getD j
 .subst f;cases(show u=Value.ref b from i);obtain⟨z,hd,xs,c,dd⟩:=qT I.hok e;refine call_meetsIn slot_dict_get dd.typeIs PySem.F.entry_dict_get (PySem.F.args_dict_get_3 _ _ _) (meetsH_dict_get_default (tupleKind (aW X.prog X.w)) a b hd r) ⟨tupleKind_room_in1 p,k,xs,oO I.hok q,dd,h _ _ (I.tok _) ?_⟩;rw[l];exact(c.val k).getD j
end
def Rr(e ty f:TE):TE:=λσ H Q=>e σ H λx b=>∃a,x=.ref a/\IsD b a/\ty σ b λy g=>f σ g λz c=>∃o,o4 c a y o/\Q (o.getD z) c
section
variable{X:Cx}{o e f:Expr}{apos cpos:Pos}{td ty tx:TE}
theorem Kh(c:X.A.units+1<cLine)(ho:PE X o td)(he:PE X e ty)(i:PE X f tx)(m:M2 X o "get" apos e f cpos):PE X (.Call (.Attribute o "get" apos) [e,f] [] cpos) (Rr td ty tx):=by intro b s σ H Q I h;refine wpAny_Call_method m.base m.few m.line PySem.F.plainAttrs_dict slot_dict_get PySem.F.type_dict_get (bV (ho b s σ H _ I h) λu s1⟨x,H1,I1,rx,a,ex,d,q1⟩=>?_);subst ex;obtain rfl:u=Value.ref a:=rx;obtain⟨t1,t2,_⟩:=S8 I1 d;refine⟨t1,t2,?_⟩;rw[m.trees];refine Calls.callWith_builtin rfl (Calls.evalArgs_plain (Calls.spliced_cons (bV (he b s1 σ H1 _ I1 q1) λiv s2⟨y,H2,I2,ry,q2⟩=>Calls.spliced_cons (bV (i b s2 σ H2 _ I2 q2) λl s3⟨z,H3,I3,rz,ov,g,q3⟩=>Calls.spliced_nil ?_))));exact SM c I3 g ry rz λn s4 j k=>⟨_,H3,j,k,q3⟩
end
end L2
namespace Att
open PySem PySem.W PySem.Calls PyProof.Rows
end Att
namespace L2
open PySem PySem.Spec PyProof.Rows
end L2
end
section
namespace HH
open PySem L2 PySem.Spec PyProof.Rows
variable{kvs:List (Int×D)}{es:List (Key×V)}{k:Int}{i:Nat}
inductive KR(K:PySem.W.Frag)(F:Hp):List (Int×D)->List (Key×V)->Prop where|nil:KR K F [] []|cons{k:Int}{d:D}{v:V}{kvs:List (Int×D)}{es:List (Key×V)}(h:Rep K F v d)(t:KR K F kvs es):KR K F ((k,d)::kvs) ((Sum.inl k,v)::es)
section
variable{K:PySem.W.Frag}{F F':Hp}
noncomputable def ent(ks:List Int)(vs:List V):List (Key×V):=(ks.zip vs).map λp=>(Sum.inl p.1,p.2)
theorem KR.of:∀{kvs:List (Int×D)}{vs:List V},aF K F vs (kvs.map (·.2))->KR K F kvs (ent (kvs.map (·.1)) vs)|[],vs,h=>by rw[map_nil]at h;rw[h.gG];exact .nil|(k,d)::kvs,vs,h=>by obtain⟨v,r,rfl,h1,a⟩:=h.cI;exact .cons h1 (KR.of a)
theorem KR.to(h:KR K F kvs es):∃vs,es=ent (kvs.map (·.1)) vs/\aF K F vs (kvs.map (·.2)):=by induction h with|nil=>exact⟨[],rfl,.nil⟩|@cons k d v kvs es h t a=>obtain⟨vs,rfl,r⟩:=a;exact⟨v::vs,rfl,.cons h r⟩
theorem KR.oc(h:KR K F kvs es):mq K F (.dK es) (.v kvs):=by obtain⟨vs,rfl,r⟩:=h.to;exact⟨vs,rfl,r⟩
theorem KR.Uv{o:HO}(h:mq K F o (.v kvs)):∃es,o=.dK es/\KR K F kvs es:=by obtain⟨vs,rfl,r⟩:=h;exact⟨_,rfl,.of r⟩
theorem KR.len(h:KR K F kvs es):es.length=kvs.length:=by induction h with|nil=>rfl|cons h t a=>simp[a]
theorem KR.get{d:D}(h:KR K F kvs es)(e:mR kvs k=some d):∃v,jR es (Sum.inl k:Key)=some v/\Rep K F v d:=by induction h with|nil=>cases e|@cons j d' v kvs es h t a=>
   unfold mR at e a;rw[find?_cons]at e;by_cases c:j=k;.simp[c]at e;subst e;exact⟨v,nR (by rw[c]),h⟩
   .simp[c]at e;obtain⟨b,h1,f⟩:=a (by simpa using e);exact⟨b,by rw[nM (by simpa using c)];exact h1,f⟩
theorem KR.any{kvs:List (Int×D)}{es:List (Key×V)}(k:Int)(h:KR K F kvs es):(es.any λa=>decide (a.1=(Sum.inl k:Key)))=kvs.any λp=>decide (p.1=k):=by induction h with|nil=>rfl|cons h t b=>simp[b]
theorem KR.has(k:Int)(h:KR K F kvs es):(jR es (Sum.inl k:Key)).isSome=(kvs.map (·.1)).contains k:=by rw[<-qX,h.any k];induction h with|nil=>rfl|@cons j d v kvs es h t a=>rw[any_cons,a,map_cons,List.contains_cons];congr 1;exact Bool.eq_iff_iff.mpr ⟨λz=>by simp at z ⊢;exact z.symm,λz=>by simp at z ⊢;exact z.symm⟩
theorem KR.repl{d:D}{v:V}(r:Rep K F v d)(h:KR K F kvs es):KR K F (kvs.map λp=>if p.1=k then(p.1,d)else p) (es.map λa=>if a.1=(Sum.inl k:Key)then(a.1,v)else a):=by induction h with|nil=>exact .nil|@cons j d' e kvs es h t b=>
   by_cases c:j=k;.subst c;simp;exact .cons r b
   . have:¬(Sum.inl j:Key)=Sum.inl k:=by simpa using c
     simp[c,this];exact .cons h b
theorem KR.snoc{d:D}{v:V}(r:Rep K F v d)(h:KR K F kvs es):KR K F (kvs++[(k,d)]) (es++[(Sum.inl k,v)]):=by induction h with|nil=>exact .cons r .nil|cons h t a=>exact .cons h a
theorem KR.put{d:D}{v:V}(r:Rep K F v d)(h:KR K F kvs es):KR K F (iz kvs k d) (putK es (Sum.inl k:Key) v):=by
 unfold iz putK;rw[h.any k];split;.exact h.repl r
 .exact h.snoc r
theorem KR.zip{ks:List Int}{a:List D}{vs:List V}(h:aF K F vs a)(b:ks.length=a.length):KR K F (ks.zip a) (ent ks vs):=by induction a generalizing ks vs with
 |nil=>rw[h.gG];cases ks with|nil=>exact .nil|cons _ _=>simp at b
 |cons d a c=>obtain⟨v,r,rfl,h1,e⟩:=h.cI;cases ks with|nil=>simp at b|cons k ks=>exact .cons h1 (c e (by simpa using b))
end
section
variable{K:PySem.W.Frag}{F F1 H H1:Hp}{ρ ρ1 ρ2:List Sl}{σ σ1:L2.St}
theorem GS.acN{x:Nat}{m p:Dc}{a:Addr}(g:GS K F ρ σ H)(e:ρ[x]?=some (.iG m))(r:σ[x]?=some (some (.ref a))):az K F ρ σ H F (ρ.set x (.iG p)) σ (upd H a p.ho):=by
 have hi:x<ρ.length:=(fM e).1;have v:aP ρ σ x a:=⟨⟨_,_,e,rfl⟩,r⟩;obtain⟨G,I,h1,J,w,L⟩:=g.own x _ _ e rfl;rw[r]at h1;cases h1;have f:∀{j:Nat}{c:Addr},aP (ρ.set x (.iG p)) σ j c->aP ρ σ j c:=λ{j c}⟨⟨t,dt,h,s⟩,q3⟩=>by
  by_cases b:j=x;.subst b;exact⟨⟨_,_,e,rfl⟩,q3⟩
  .rw[fU b]at h;exact⟨⟨t,dt,h,s⟩,q3⟩
 refine⟨⟨λc o q=>?_,by simp[g.len],λj b' d q=>?_,λj t dt q u=>?_,λj k c h s=>g.dis j k c (f h) (f s)⟩,.refl _,λc n z=>absurd n z,λc o q n=>?_,λc⟨j,q⟩=>.inl ⟨j,f q⟩,by simp,λj t q l=>⟨rfl,?_⟩⟩
 . have:c≠a:=by rintro rfl;rw[w]at q;cases q
   rw[aA this];exact g.sub c o q
 . by_cases b:j=x;.subst b;rw[getElem?_set_self hi]at q;cases q
   .rw[fU b]at q;exact g.val j b' d q
 . by_cases b:j=x;.subst b;rw[getElem?_set_self hi]at q;cases q;cases u;exact⟨a,_,r,aL,w,rfl⟩
   . rw[fU b]at q;obtain⟨c,A,y,B,C,E⟩:=g.own j t dt q u;have:c≠a:=by rintro rfl;exact b (g.dis j x c ⟨⟨t,dt,q,u⟩,y⟩ v)
     exact⟨c,A,y,by rw[aA this];exact B,C,E⟩
 . have:c≠a:=by rintro rfl;exact n ⟨x,v⟩
   rw[aA this];exact q
 . by_cases b:j=x;.subst b;rw[e]at q;cases q;cases l
   .exact⟨t,by rw[fU b];exact q,.refl t⟩
theorem GS.newD{m:Dc}{a:Addr}(g:GS K F ρ σ H)(e:ρ[i]?=some .aN)(r:H a=none):az K F ρ σ H F (ρ.set i (.iG m)) (σ.set i (some (.ref a))) (upd H a m.ho):=by
 have hi:i<ρ.length:=(fM e).1;have s:i<σ.length:=by rw[<-g.len];exact hi
 have w:F a=none:=by cases q:F a with|none=>rfl|some o=>rw[g.sub a o q]at r;cases r
 have f:∀{j:Nat}{c:Addr},j≠i->aP (ρ.set i (.iG m)) (σ.set i (some (.ref a))) j c->aP ρ σ j c:=λ{j c}b⟨⟨t,ds,e1,e2⟩,e3⟩=>by rw[fU b]at e1 e3;exact⟨⟨t,ds,e1,e2⟩,e3⟩
 have new:∀{c:Addr},aP (ρ.set i (.iG m)) (σ.set i (some (.ref a))) i c->c=a:=λ{c}⟨_,e3⟩=>by rw[getElem?_set_self s]at e3;cases e3;rfl
 have no:∀{j:Nat},¬ aP ρ σ j a:=λ{j}⟨⟨t,ds,e1,e2⟩,e3⟩=>by obtain⟨c,o,h,p,_⟩:=g.own j t ds e1 e2;rw[e3]at h;cases h;rw[r]at p;cases p
 refine⟨⟨λc o q=>?_,by simp[g.len],λj b' d q=>?_,λj t dt q x=>?_,λj k c h p=>?_⟩,.refl _,λc n y=>absurd n y,λc o q n=>?_,λc⟨j,q⟩=>?_,by simp,λj t q l=>?_⟩
 . have:c≠a:=by rintro rfl;rw[w]at q;cases q
   rw[aA this];exact g.sub c o q
 . by_cases b:j=i;.subst b;rw[getElem?_set_self hi]at q;cases q
   .rw[fU b]at q ⊢;exact g.val j b' d q
 . by_cases b:j=i;.subst b;rw[getElem?_set_self hi]at q;cases q;cases x;exact⟨a,_,getElem?_set_self s,aL,w,rfl⟩
   . rw[fU b]at q ⊢;obtain⟨c,o,z,v,A,B⟩:=g.own j t dt q x;have:c≠a:=by rintro rfl;rw[r]at v;cases v
     exact⟨c,o,z,by rw[aA this];exact v,A,B⟩
 . by_cases b:j=i
   . by_cases u:k=i;.rw[b,u]
     .subst b;rw[new h]at p;exact absurd (f u p) no
   . by_cases u:k=i;.subst u;rw[new p]at h;exact absurd (f b h) no
     .exact g.dis j k c (f b h) (f u p)
 . have:c≠a:=by rintro rfl;rw[r]at q;cases q
   rw[aA this];exact q
 . by_cases b:j=i;.subst b;rw[new q];exact .inr r
   .exact .inl ⟨j,f b q⟩
 . have b:j≠i:=by rintro rfl;rw[e]at q;cases q;cases l
   exact⟨by rw[fU b],t,by rw[fU b];exact q,.refl t⟩
end
noncomputable def t8(p:Int×Int):Key×V:=(Sum.inl p.1,V.int p.2)
theorem Kq(i:Int):∀kvs:List (Int×Int),jR (kvs.map t8) (Sum.inl i:Key)=((kvs.find? λb=>decide (b.1=i)).map (·.2)).map V.int
 |[]=>rfl|p::kvs=>by
   have a:=Kq i kvs;unfold jR at a ⊢;rw[map_cons,find?_cons,find?_cons];by_cases h:p.1=i
   . have e:decide ((t8 p).1=(Sum.inl i:Key))=true:=by simp[t8,h]
     rw[e];simp[h,t8]
   . have e:decide ((t8 p).1=(Sum.inl i:Key))=false:=by simp[t8,h]
     rw[e];simp only[h,decide_false];exact a
theorem Uc(i v:Int)(kvs:List (Int×Int)):putK (kvs.map t8) (Sum.inl i:Key) (V.int v)=(putD kvs i v).map t8:=by
 have e:((kvs.map t8).any λa=>decide (a.1=(Sum.inl i:Key)))=kvs.any λa=>decide (a.1=i):=by rw[List.any_map];congr 1;funext p;simp[t8]
 unfold putK putD;rw[e];split
 . rw[map_map,map_map];refine map_congr_left λp _=>?_;by_cases h:p.1=i;.simp[t8,h]
   .simp[t8,h]
 .rw[map_append];rfl
section
variable{X:Cx}{c:Call}{n:Nat}{a b e:Expr}{pa pb p:P}{pos:Pos}
theorem J4{H:Hp}{q:Addr}{m:Dc}{i:Int}{o:Option Int}(h:Rd H q m.ho)(e:m.get (.int i)=some o):o4 H q (.int i) (o.map V.int):=by cases m with|k kvs=>cases e;exact .inl ⟨kvs.map t8,Sum.inl i,h,rfl,(Kq i kvs).symm⟩|t kvs=>cases e
theorem qp(hu:X.A.units+8<cLine)(M:SX X c a pa)(N:SX X c b pb)(hs:Oj b):SX X c (.Subscript a b pos) (.bin .Bd pa pb):=by refine v7 (f:=Dj) (λh1 O=>?_) M N (λρ=>rfl) rfl;intro l s σ H Q I h;refine Cw PySem.F.slot_dict_getitem.lookup hs (bV (h1 l s σ H _ I h) λu s1⟨x,H1,I1,rx,q1⟩=>bV (O l s1 σ H1 _ I1 q1) λiv s2⟨y,H2,I2,ry,q2⟩=>?_);obtain⟨F,d,e,r,sm,G,J,he,k⟩:=q2;cases d with
 |dH m=>have U:=bW (show(m.get e).bind (λo=>o.map λv=>R.val (.int v))=some r from he);clear he;obtain⟨o,w,he⟩:=U;cases o with|none=>cases he|some v=>
     cases he;obtain⟨i,rfl⟩:∃i,e=.int i:=by cases m with|t kvs=>cases e<;>cases w|k kvs=>cases e<;>first|exact⟨_,rfl⟩|cases w
     obtain⟨q,z,rfl,B⟩:=G.dH sm;rw[J.int]at ry;obtain rfl:u=Value.ref q:=rx;have g:=J4 (.inr ⟨z,B⟩) w;exact⟨jV I2 g,o7 (by omega) I2 g ry λW s3 C E=>⟨.int v,H2,C,E,cB.cY sm (bU _) k⟩⟩
 |dv ks Y=>cases e with|int j=>obtain⟨d',Z,he⟩:=map_some (show(mR (ks.zip Y) j).map R.val=some r from he);subst he;obtain⟨q,z,vs,rfl,B,rs,hl⟩:=G.dv sm;obtain⟨L,g1,g2⟩:=(KR.zip rs hl).get Z;rw[J.int]at ry;obtain rfl:u=Value.ref q:=rx;have g:o4 H2 q (.int j) (some L):=.inl ⟨_,Sum.inl j,.inr ⟨z,B⟩,rfl,g1.symm⟩;exact⟨jV I2 g,o7 (by omega) I2 g ry λW s3 C E=>⟨L,H2,C,E,cB.cY sm g2 k⟩⟩|_=>cases he
 |_=>cases he
theorem Li{x:Str}{f p2:Pos}(h:X.N.Nodup)(hi:X.N[i]?=some x)(j:Loc X.env.scope x)(hs:swapsWith (.Dict [] [] p2) (some (.Name x f)) pos.line X.env=pure false:=by rfl)(l:X.fn x=true\/X.env.scope.names.lookup x=some .local:=by first|exact .inl rfl|exact .inr rfl|assumption):SS X c n (.Assign [.Name x f] (.Dict [] [] p2) pos) (.Ky i false):=by
 refine cP (oG h hi j xJ hs l) ?_;rintro D σ H⟨F,ρ,fl,o,g,e,k⟩;rw[HH.X17]at e;split at e;.rename_i q;cases e;exact λa r=>k F _ _ (g.newD (m:=.k []) q r)
 .cases e
theorem R4{x:Str}{B f cpos:Pos}{pk C:P}(hu:X.A.units+8<cLine)(W:X.N[i]?=some x)(Y:uX X.env.scope x)(Z:SX X c a pk)(hb:SX X c b C)(m:M2 X (.Name x B) "get" f a b cpos)(hd:(x==("__debug__":Str))=false:=by decide)(s:(x==("__classdict__":Str))=false:=by decide):SX X c (.Call (.Attribute (.Name x B) "get" f) [a,b] [] cpos) (.Xl i pk C):=by
 obtain⟨ta,h1,h2⟩:=Z.cL;obtain⟨tb,h3,h4⟩:=hb.cL;refine⟨du (Kh (by omega) (eX W Y hd s) h1 h3 m) ?_,λi h=>by cases h⟩;rintro σ H Q⟨F,ρ,r,ac,g,e,k⟩;rw[HH.E21]at e;split at e
 . rename_i m0 q;obtain⟨u,ae,e1,E⟩:=aa e;clear e;obtain⟨dd,af,e2,l⟩:=aa E;clear E;obtain⟨G,o0,I,J,w3,w4⟩:=g.own i _ _ q rfl;refine⟨.ref G,I,G,rfl,?_,?_⟩;.cases(show o0=m0.ho from w4);cases m0 with|k kvs=>exact .inl ⟨_,.inl J⟩|t kvs=>exact .inr ⟨_,.inl J⟩
   . refine h2 g e1 λv F1 H1 s1 pv=>h4 s1.gs e2 λz L H2 s2 M=>?_;split at l
     . rename_i m1 q1;obtain⟨O,e3⟩:=aG l;clear l;subst e3;obtain⟨o,y,eD⟩:=bW O;clear O;obtain⟨w,e5,e6⟩:=map_some eD;subst e6;obtain⟨a1,o1,U,y2,y3,y4⟩:=s2.gs.own i _ _ q1 rfl;rw[I]at U;cases U;cases(show o1=m1.ho from y4);obtain⟨j,rfl⟩:∃j,u=.int j:=by cases m1 with|t kvs=>cases u<;>cases y|k kvs=>cases u<;>first|exact⟨_,rfl⟩|cases y
       rw[cT e5]at M;rw[pv.int,M.int];refine⟨o.map V.int,J4 (.inl y2) y,?_⟩;have:(o.map V.int).getD (V.int w)=V.int (o.getD w):=by cases o<;>rfl
       rw[this];exact k _ L H2 (s1.trans s2) (show Rep X.K L _ _ from bU _)
     .cases l
 .cases e
theorem MJ{x:Str}{C f:Pos}{pk:P}(hu:X.A.units+8<cLine)(J:X.N[i]?=some x)(L:uX X.env.scope x)(M:SX X c a pk)(he:SX X c e p)(hs:swapsWith e (some (.Subscript (.Name x C) a f)) pos.line X.env=pure false:=by rfl)(hd:(x==("__debug__":Str))=false:=by decide)(s:(x==("__classdict__":Str))=false:=by decide):SS X c n (.Assign [.Subscript (.Name x C) a f] e pos) (.dput i pk p):=by
 obtain⟨ta,h1,O⟩:=M.cL;refine cP (Cv (by omega) (eX J L hd s) h1 he.ev hs) ?_;rintro D σ H⟨F,ρ,fl,Q,g,e,k⟩;rw[HH.X18]at e;obtain⟨r,u,U,o⟩:=aa e;clear e;refine⟨F,ρ,r,u,g,U,λv F1 H1 s1 W=>?_⟩;split at o
 . rename_i m0 Y;obtain⟨E,Z,e2,h⟩:=aa o;clear o;obtain⟨z,o0,B,w2,w3,w4⟩:=s1.gs.own i _ _ Y rfl;refine⟨.ref z,B,O s1.gs e2 λy F2 H2 s2 py=>?_⟩;split at h
   . rename_i m w q;split at h;.rename_i G l;cases h;obtain⟨a1,o1,I,y2,y3,y4⟩:=s2.gs.own i _ _ q rfl;rw[B]at I;cases I;cases(show o1=m.ho from y4);cases(show v=.int w by have:Rep X.K F1 v (.int w):=W;rwa[Rep]at this);refine⟨z,upd H2 z G.ho,rfl,?_,k F2 σ _ ((s1.trans s2).trans (s2.gs.acN q B))⟩;cases m with|t kvs=>cases E<;>cases l|k kvs=>cases E with|int j=>obtain⟨hl,l⟩:=aY (show(if kvs.length<lim then some (Dc.k (putD kvs j w))else none)=some G from l);subst l;rw[py.int];refine .inl ⟨kvs.map t8,Sum.inl j,y2,rfl,by rw[length_map,sizeLine_eq];exact hl,?_⟩;rw[Uc];rfl|_=>cases l
     .cases h
   .cases h
 .cases o
end
end HH
end
section
namespace L2
open PySem PySem.Spec PyProof.Rows
noncomputable def Itk(a:Addr)(b:Obj)(kvs:List (Key×V)):It:=⟨λi H=>H a=some (.dB b (.dK kvs))/\i<kvs.length,λi H x c=>c=H/\∃p,kvs[i]?=some p/\x=kV p.1,λi H=>H a=some (.dB b (.dK kvs))/\kvs.length<=i⟩
theorem KV.get:∀{κ:Type}{kvs:List (κ×V)}{vs:List (κ×Value)}{i:Nat}{p:κ×V},KV kvs vs->kvs[i]?=some p->∃v,vs[i]?=some (p.1,v)|_,_,_,_,_,.nil,e=>by simp at e|_,_,_,0,_,.cons r _,e=>by simp at e;subst e;exact⟨_,by rw[List.getElem?_cons_zero,r.1]⟩|_,_,_,i+1,p,.cons _ t,e=>by obtain⟨v,h⟩:=KV.get (i:=i) (p:=p) t (by simpa using e);exact⟨v,by simpa using h⟩
theorem uM{X:Cx}{b:List (Addr×Obj)}{σ:St}{H:Hp}{s:Shared}{a:Addr}{c:Obj}{kvs:List (Key×V)}{es:Array DictEntry}{ep:Nat}(I:Inv X b σ H s)(h:H a=some (.dB c (.dK kvs)))(hd:c.data=.dict es ep):(a==sysModules)=false/\∃vs,KV kvs vs/\s.heap.DictAt (aW X.prog X.w) a vs ep:=by obtain⟨ho,hz,f,vs,r,dd⟩:=(show bw X.prog X.w H s.heap a (.dB c (.dK kvs))from I.hok a _ h);obtain⟨o,g,i,h1,j,e,k⟩:=dd;rw[ho]at h1;cases h1;rw[hd]at e;cases e;exact⟨f,vs,r,⟨c,es,ho,j,hd,k⟩⟩
theorem R5{P:Program}{w:World}{k:Key}{u:Value}(h:(aW P w).is k u=true):RelV (kV k) u:=by
 rcases bB h with⟨i,t,rfl,rfl⟩|⟨x,t,rfl,rfl⟩;.exact⟨t,rfl⟩
 .exact⟨t,rfl⟩
theorem Fo{P:Program}{w:World}{K:PySem.W.Frag}{B:Expr}(a it:Addr)(y:Obj)(kvs:List (Key×V))(es:Array DictEntry)(ep:Nat)(hd:y.data=.dict es ep):Turn P w K B (Itk a y kvs) [it] it (λi h=>h.IsKeyIter it a i kvs.length ep)where
 mem:=by simp
 obj:=λi h st b g=>by
  have e:b=it:=by simpa using g
  subst e;obtain⟨o,e,c,d⟩:=st;exact⟨o,e,λv z=>by rw[d]at z;cases z⟩
 keep:=λi h h' st k=>st.at λo e=>k it (by simp) o e;item:=by intro X n p q hc i f s σ H E I m st t;subst n p q;obtain⟨x,hi⟩:=t;obtain⟨C,vs,r,dd⟩:=uM I x hd;have l:vs.length=kvs.length:=(Paired.length r).symm;obtain⟨v,G⟩:=KV.get r (show kvs[i]?=some kvs[i]by simp[hi]);obtain⟨f0,f1,f2,f3,f4,f5⟩:=m it (by simp);refine wpAny_pyNext_dict_item (by rw[l];exact st) dd G λu h' J j L=>?_;have M:Inv X f σ H {s with heap:=h'}:=I.turned (t':=s.toks) (λb o g e=>(L.2 b g).trans e) f0 f1 f3 f4 f5;rw[l]at j;obtain⟨o,e,c,d⟩:=id j;exact⟨u,rfl,BL (s:={s with heap:=h'}) e c d (by decide) ⟨_,H,M,R5 J,⟨rfl,_,by simp[hi],rfl⟩,j,λb g=>(m b g).1⟩⟩
 done:=by intro X n p q hc i f s σ H E I m st t;subst n p q;obtain⟨x,hi⟩:=t;obtain⟨C,vs,r,dd⟩:=uM I x hd;have l:vs.length=kvs.length:=(Paired.length r).symm;obtain⟨f0,f1,f2,f3,f4,f5⟩:=m it (by simp);refine wpAny_pyNext_dict_end (I.ok.hd hc) (by rw[l];exact st) dd (by simp[l,hi]) λh' he=>⟨rfl,?_⟩;exact I.turned (t':=s.toks) (λb o g e=>he b o g e) f0 f1 f3 f4 f5
 self:=λA i s Q E st N=>wpAny_pyIter_keyiter st N
section
variable{X:Cx}{tg:Expr}
theorem LK{l:Expr}{k:TE}(n:PE X l k):PI X tg l (λσ H R=>k σ H λx f=>∃a c kvs,x=.ref a/\f a=some (.dB c (.dK kvs))/\R (Itk a c kvs) f):=by
 intro g s σ H R I h;refine bV (n g s σ H _ I h) ?_;rintro v s1⟨x,f,j,r1,a,c,kvs,e,p,q⟩;subst e;cases r1;obtain⟨ho,hz,t,vs,r,dd⟩:=(show bw X.prog X.w f s1.heap a (.dB c (.dK kvs))from j.hok a _ p);obtain⟨o,es,ep,h1,u,m,y⟩:=id dd;rw[ho]at h1;cases h1;have i:vs.length=kvs.length:=(Paired.length r).symm;refine wpAny_pyIter_dict (knd:=aW X.prog X.w) (kvs:=vs) (ep:=ep) t ⟨c,es,ho,u,m,y⟩ ?_;refine⟨s1.heap.objs.size,[s1.heap.objs.size],_,_,f,rfl,j.kept (t':=s1.toks) λb o e=>iK e,Fo a _ c kvs es ep m,⟨_,get?_push_size _ rfl,rfl,by rw[i];rfl⟩,λb z=>?_,q⟩;have e:b=s1.heap.objs.size:=by simpa using z
 subst e;exact j.GR (eY) (j.hok.fresh (eY))
end
end L2
namespace HH
open PySem L2 PySem.Spec PyProof.Rows
section
variable{X:Cx}{c:Call}{tg e:Expr}{p:P}
theorem Lj{ks:List Int}{es:List (Key×V)}{j:Nat}{p:Key×V}{i:Int}(h:es.map (·.1)=ks.map (Sum.inl:Int->Key))(a:es[j]?=some p)(b:ks[j]?=some i):p.1=Sum.inl i:=by
 have:(es.map (·.1))[j]?=(ks.map (Sum.inl:Int->Key))[j]?:=by rw[h]
 rw[getElem?_map,getElem?_map,a,b]at this;exact Option.some.inj this
theorem tE:∀{ks:List Int}{vs:List V},ks.length=vs.length->(ent ks vs).map (·.1)=ks.map (Sum.inl:Int->Key)|[],[],_=>rfl|k::ks,v::vs,h=>by have:=tE (ks:=ks) (vs:=vs) (by simpa using h);unfold ent at this ⊢;simpa using this|[],_::_,h=>by simp at h|_::_,[],h=>by simp at h
theorem Ny(h:SX X c e p):SI X c tg e (.blt .keys [p]):=by
 unfold SI;obtain⟨ta,h1,W⟩:=h.cL;refine rH (LK h1) ?_;rintro σ H R⟨F,ρ,A,B,g,Y,k⟩;obtain⟨r,o,I,Z⟩:=aa (show((HH.ev c (.blt .keys [p]) ρ).bind λr ρ=>lift (items r.d) ρ)=.ok A B from Y);obtain⟨J,e3⟩:=aG Z;subst e3;rw[HH.E15]at I;obtain⟨d,ac,e1,eE⟩:=aa I;obtain⟨y,e4⟩:=aG eE;subst e4;refine W g e1 λv F' L s M=>?_;have hd:∃(ks:List Int)(es:List (Key×V))(a:Addr)(b:Obj),A=ks.map D.int/\v=.ref a/\L a=some (.dB b (.dK es))/\es.map (·.1)=ks.map (Sum.inl:Int->Key):=by cases d with
  |dH m=>cases m with|k kvs=>cases y;cases J;obtain⟨a,b,rfl,f⟩:=M.dH s.gs.sub;exact⟨kvs.map (·.1),kvs.map t8,a,b,by rw[map_map];rfl,rfl,f,by rw[map_map,map_map];rfl⟩|t kvs=>cases y
  |dv ks ae=>cases y;cases J;obtain⟨a,b,vs,rfl,f,rs,hl⟩:=M.dv s.gs.sub;exact⟨ks,ent ks vs,a,b,rfl,rfl,f,tE (by rw[rs.length];exact hl)⟩|_=>cases y
 obtain⟨ks,es,a,b,rfl,rfl,f,u⟩:=hd;have C:es.length=ks.length:=by have:=congrArg List.length u;simpa using this
 refine⟨a,b,es,rfl,f,k _ F' L ⟨s.gs,λn j N o E H2 s2=>?_,λN o E H2 s2=>⟨s.trans s2,λv r rr=>rr.later s⟩⟩⟩;have gm:=s.gs.more (n:=n) (τ:=replicate n none) (by simp);have w:=s2.keep a _ f λ⟨j,⟨t,dt,q1,q2⟩,q3⟩=>by obtain⟨a',o',O,Q,z3,G⟩:=gm.own j t dt q1 q2;rw[q3]at O;cases O;rw[f]at Q;cases Q;cases dt with|l A=>obtain⟨xs,z,_⟩:=G;cases z|d m=>cases m<;>cases G|v kvs=>obtain⟨xs,z,_⟩:=G;cases z
 refine⟨λd hd=>?_,λU=>⟨w,by rw[C];simpa using U⟩⟩;have U:j<ks.length:=by have:=(fM hd).1;simpa using this
 refine⟨⟨w,by omega⟩,λx tO⟨e5,q,e6,e7⟩=>?_⟩;subst e5;refine⟨N,.refl s2.gs.sub,?_⟩;rw[getElem?_map]at hd;obtain⟨i,e8,e9⟩:=map_some hd;rw[e7,Lj u e6 e8,<-e9];exact bU _
end
end HH
end
section
namespace HH
open PySem L2 PySem.Spec PyProof.Rows PySem.Calls PySem.W
section
variable{X:Cx}{c:Call}{a:Expr}{pa:P}{pos:Pos}
theorem nD:∀{ns:List Int}{b:List Value},IntsAre b ns->Vals (ns.map V.int) b|_,_,.nil=>.nil|_,_,.cons n t r=>.cons ⟨t,rfl⟩ (nD r)
theorem uJ{K:PySem.W.Frag}{F:Hp}:∀ns:List Int,aF K F (ns.map V.int) (ns.map D.int)|[]=>.nil|n::ns=>.cons (bU n) (uJ ns)
end
end HH
end
section
namespace HH
open PySem L2 PySem.Spec PyProof.Rows
theorem Inv.ad1{X:Cx}{c:List (Addr×Obj)}{σ:L2.St}{H:Hp}{s:Shared}{a:Addr}{kvs:List (List Key×V)}(I:L2.Inv X c σ H s)(h:H a=some (.dT kvs)):∃o,L2.Inv X c σ (upd H a (.dB o (.dT kvs))) s:=by obtain⟨z,y,xs,r,o,es,ep,h1,f,g,i,j⟩:=(show bw X.prog X.w H s.heap a (.dT kvs)from I.hok a _ h);refine⟨o,I.write (h':=s.heap) (t':=s.toks) (by rw[h];exact trivial) (.inl rfl) (λb u _ e=>e) ⟨o,h1⟩ ⟨h1,z,y,xs,KT.keeps r λb ys q=>?_,o,es,ep,h1,f,g,i,j⟩⟩;rw[aA (by rintro rfl;rw[h]at q;cases q)];exact q
section
variable{X:Cx}{c:Call}{n:Nat}{a b e:Expr}{p pa pb:P}{pos:Pos}{es:List Expr}{ps:List P}{x1:Nat}{tpos:Pos}
theorem Io{i:Nat}{x:Str}{A:Pos}(B:X.N[i]?=some x)(C:uX X.env.scope x)(hd:(x==("__debug__":Str))=false:=by decide)(w:(x==("__classdict__":Str))=false:=by decide):SX X c (.Name x A) (.vw i):=by
 have h:=eX (X:=X) (pos:=A) B C hd w;refine⟨?_,λi h=>by cases h⟩;rintro f s σ H Q I⟨F,ρ,r,E,g,e,k⟩;rw[HH.E22]at e;split at e
 . rename_i m q;cases e;obtain⟨a,h1,j,l⟩:=g.CP q;refine bV (h f s σ H (λv y=>v=.ref a/\y=H) I ⟨.ref a,h1,rfl,rfl⟩) λu s1⟨v,H1,I1,r1,e1,e2⟩=>?_;subst e1 e2;have G:∃o,L2.Inv X f σ (upd H1 a (.dB o m.ho)) s1:=by cases m with|k kvs=>exact Inv.JT I1 j|t kvs=>exact Inv.ad1 I1 j
   obtain⟨o,z⟩:=G;exact⟨.ref a,_,z,r1,k _ _ _ (l o).1 (l o).2⟩
 .rename_i kvs q;cases e;obtain⟨a,vs,h1,j,l⟩:=g.Cu q;refine bV (h f s σ H (λv y=>v=.ref a/\y=H) I ⟨.ref a,h1,rfl,rfl⟩) λu s1⟨v,H1,I1,r1,e1,e2⟩=>?_;subst e1 e2;obtain⟨o,z⟩:=Inv.JT I1 j;exact⟨.ref a,_,z,r1,k _ _ _ (l o).1 (l o).2⟩
 .rename_i b L q;cases e;obtain⟨v,J,h1,j,l⟩:=g.freeze q;exact h f s σ H Q I ⟨v,h1,k v J H j l⟩
 .rename_i b d q;cases e;obtain⟨v,h1,j⟩:=g.val i b d q;exact h f s σ H Q I ⟨v,h1,k v F H (.refl g) j⟩
 .cases e
end
end HH
end
section
namespace HH
open PySem L2 PySem.Spec PyProof.Rows
section
variable{K:PySem.W.Frag}{F H F' H':Hp}{ρ ρ':List Sl}{σ σ':L2.St}
def Kp(ρ:List Sl)(σ:L2.St)(H:Hp)(a:Addr)(o:HO):Prop:=H a=some o/\¬ Own ρ σ a
theorem Kp.stp{a:Addr}{o:HO}(h:Kp ρ σ H a o)(s:az K F ρ σ H F' ρ' σ' H'):Kp ρ' σ' H' a o:=⟨s.keep a o h.1 h.2,λz=>(s.xm a z).elim h.2 λe=>by rw[h.1]at e;cases e⟩
structure Wt(K:PySem.W.Frag)(F:Hp)(ρ:List Sl)(σ:L2.St)(H:Hp)(a:Addr)(ds:List D):Prop where
 ex:∃xs,Kp ρ σ H a (.lst xs)/\aF K F xs ds
 fr:F a=none
theorem Wt.stp{a:Addr}{b:List D}(h:Wt K F ρ σ H a b)(s:az K F ρ σ H F' ρ' σ' H'):Wt K F' ρ' σ' H' a b:=by obtain⟨⟨xs,h1,c⟩,e⟩:=h;refine⟨⟨xs,h1.stp s,c.mono s.cZ⟩,?_⟩;cases q:F' a with|none=>rfl|some o=>
   rcases s.xj a e (by rw[q];simp)with z|z;.exact absurd z h1.2
   .rw[h1.1]at z;cases z
end
end HH
end
section
namespace HH
open PySem PyProof.Rows
section
variable{M:Model}{A:Around}{E:Value->Shared->Prop}{s:Shared}{κ:SortKind}{ok:Keyed->Prop}{K:Keyed->Int}
theorem DX(R:Rk M A E s κ ok K){st b:SortSt}{xs:Array Keyed}{lo n:Nat}{Q:Option Nat->SortSt->Prop}(h:Sx κ ok st xs b)(f:lo+n<=xs.size)(h1:1<=n)(sg:Seg K xs lo (lo+n))(q:Q (some n) b):wpS M A E s (countRun' lo n) Q b:=by
 have one:∀ys:Array Keyed,Seg K ys lo (lo+1):=λys i j k l o=>by rw[show i=j by omega];exact Int.le_refl _
 show wpS M A E s (_>>=_) Q b;refine wpS_bind (Vr (a:=1) (n:=n) R h f (le_refl 1) h1 (one xs) λm m1 p sm e=>?_);dsimp only;have c1:m=n:=by
  by_cases c:m=n;.exact c
  .have g:=e.resolve_left c;have:=sg (lo+m-1) (lo+m) (by omega) (by omega) (by omega);omega
 subst c1;rw[if_pos (by simp)];exact wpS_pure q
theorem SR.Xy{x0 ys:Array Keyed}{l:List Rn}{lo n:Nat}{st:SortSt}(h:SR κ ok K x0 ys l lo st)(h1:1<=n)(a:lo+n<=ys.size)(hs:Seg K ys lo (lo+n)):SR κ ok K x0 ys (l++[(lo,n,0)]) (lo+n) (setPending st ((pendingOf st).push (lo,n,0))):=⟨h.kind,h.arr,h.fail,by show((pendingOf st).push (lo,n,0)).toList=_;rw[Array.toList_push,h.pend],h.perm,h.ok,vX.mpr ⟨lo,h.rns,rfl,h1,hs,rfl⟩,a⟩
theorem uv:∀(f n r:Nat),r<=1->n<64\/n<=f->minRun' f n r<=n+r/\(64<=n->minRun' f n r<=n)
 |0,n,r,hr,h=>by have e:minRun' 0 n r=n+r:=rfl;rw[e];exact⟨eY,λz=>by omega⟩|f+1,n,r,hr,h=>by
   rw[minRun'_succ];by_cases c:n<64;.rw[if_pos c];exact⟨eY,λz=>by omega⟩
   .rw[if_neg c];have a:=uv f (n/2) (max r (n%2)) (by omega) (by omega);exact⟨by omega,λ_=>by omega⟩
theorem Gv(R:Rk M A E s κ ok K){x0:Array Keyed}{Q:Unit->SortSt->Prop}{st:SortSt}(h:SR κ ok K x0 x0 [] 0 st)(sg:Seg K x0 0 x0.size)(h1:1<=x0.size)(q:∀a,arrOf a=x0->failedOf a=none->Q () a):wpS M A E s sortRuns' Q st:=by
 rw[sortRuns'_eq];refine wpS_bind (wpS_get ?_);dsimp only;simp only[h.arr];have j:minRun' x0.size x0.size 0<=x0.size:=(uv x0.size x0.size 0 (by omega) (.inr (eY))).1;generalize minRun' x0.size x0.size 0=o at j;refine wpS_bind (wpS_mono (wpS_forRange (I:=λx c a=>(c=(none,0)/\SR κ ok K x0 x0 [] 0 a/\x=0)\/(c=(none,x0.size)/\SR κ ok K x0 x0 [(0,x0.size,0)] x0.size a)) (Q:=λc a=>c=(none,x0.size)/\SR κ ok K x0 x0 [(0,x0.size,0)] x0.size a) ?_ ?_ (.inl ⟨rfl,h,rfl⟩)) ?_)
 . rintro x c f _ k(⟨rfl,b,rfl⟩|⟨rfl,b⟩)
   . dsimp only;rw[if_neg (by omega)];refine wpS_bind (DX R b.sx (lo:=0) (n:=x0.size-0) (by omega) (by omega) (by simpa using sg) ?_);dsimp only;rw[if_neg (by omega)];refine wpS_bind (wpS_get ?_);have l:(pendingOf f).back?=none:=by have:pendingOf f=#[]:=Array.toList_inj.mp b.pend;rw[this];rfl
     rw[l];dsimp only;refine wpS_bind (wpS_modify (wpS_pure (.inr ⟨by simp,?_⟩)));have:=b.Xy (n:=x0.size-0) (by omega) (by omega) (by simpa using sg);simpa using this
   .dsimp only;rw[if_pos (eY)];exact wpS_pure ⟨rfl,b⟩
 . rintro c f(⟨rfl,b,e⟩|⟨rfl,b⟩);.omega
   .exact⟨rfl,b⟩
 . rintro c f⟨rfl,b⟩;dsimp only;refine wpS_bind (wpS_mono (wpS_forRange (I:=λx c a=>c=(none,())/\SR κ ok K x0 x0 [(0,x0.size,0)] x0.size a) (Q:=λc a=>c=(none,())/\SR κ ok K x0 x0 [(0,x0.size,0)] x0.size a) ?_ (λ_ _ h=>h) ⟨rfl,b⟩) ?_)
   . rintro x c g _ k⟨rfl,i⟩;refine wpS_bind (wpS_get ?_);try dsimp only
     have m:(pendingOf g).size<=1:=by rw[<-length_toList,i.pend];simp
     rw[if_pos m];exact wpS_pure ⟨rfl,i⟩
   .rintro c g⟨rfl,i⟩;dsimp only;exact wpS_pure (q g i.arr i.fail)
end
end HH
end
section
namespace HH
open PySem PySem.W PyProof.Rows PySem.Calls L2 PySem.Spec
section
variable{prog:Program}{w:World}{A:Around}{E:Value->Shared->Prop}{s:Shared}{vs:List Value}{κ:SortKind}{P:Value->D->Prop}{ds:List D}
theorem G3{a:Addr}{n:Nat}{O:PySem.Fin->Shared->Prop}(ho:s.heap.get? a=some (seqObj "list" vs.toArray n))(so:sortable ds=true)(hz:vs.length<=16777216)(L:Paired P vs ds)(fn:∀u d e,P u d->P u e->cX d=cX e)(z:ds.Pairwise λa b=>m5 a b=true)(N:∀h',(∀b o,b≠a->s.heap.get? b=some o->h'.get? b=some o)->∀C:SortKind->Shared->Prop,C κ {s with heap:=h'}->2<=vs.length->wpAny (model prog w) A (keyKind' vs.toArray) C (λ_ _=>False) {s with heap:=h'})(hl:∀h',(∀b o,b≠a->s.heap.get? b=some o->h'.get? b=some o)->∀u v d e,P u d->P v e->∀C:Bool->Shared->Prop,C (bu (cX d) (cX e)) {s with heap:=h'}->wpAny (model prog w) A (keyLt' κ u v) C (λ_ _=>False) {s with heap:=h'})(h:∀h' c p,(∀b o,b≠a->s.heap.get? b=some o->h'.get? b=some o)->p.Perm (List.range vs.length)->pick .non p ds=Qx ds->h'.get? a=some (seqObj "list" (pick .none p vs).toArray c)->O (.done (.ret .none)) {s with heap:=h'}):wpAny (model prog w) A (Builtin.«list.sort» ⟨[.ref a],[]⟩) O E s:=by
 have ha:a<s.heap.objs.size:=lt_size ho;have B:vs.length=ds.length:=Paired.length L;obtain⟨l,G⟩:∃l,(s.heap.update a (Obj.mapSeq λ_=>(#[]:Array Value))).get? a=some (seqObj "list" #[] l):=⟨_,get?_update_seq ho λ_=>#[]⟩;rw[list_sort_plain];refine wpAny_bind (listItems_at ho rfl ?_);refine wpAny_bind (listUpdate_at ho rfl ?_ (by rw[size_toArray,sizeLine_eq];omega) (uy));refine wpAny_bind (seqEpoch_at G rfl ?_);refine wpAny_bind (wpAny_newTuple ?_ (by show vs.length<=_;rw[sizeLine_eq];omega));refine wpAny_bind (wpAny_newList ?_ (uy));refine wpAny_holding ?_;generalize hH:(((s.heap.update a (Obj.mapSeq λ_=>(#[]:Array Value))).push {cls:=.type "tuple",data:=.seq vs.toArray}).push {cls:=.type "list",data:=.seq #[]}:Heap)=m;have g:m.get? a=some (seqObj "list" #[] l):=by rw[<-hH];exact iK (iK G)
 have keep:∀b o,b≠a->s.heap.get? b=some o->m.get? b=some o:=λb o M e=>by rw[<-hH];exact iK (iK ((get?_update_other _ _ (Ne.symm M)).trans e))
 have fin:∀p:List Nat,p.Perm (List.range vs.length)->pick .non p ds=Qx ds->O (.done (.ret .none)) {s with heap:=m.update a (Obj.mapSeq λ_=>toArray (pick .none p vs))}:=by intro p h1 f;obtain⟨c2,U⟩:∃c2,(m.update a (Obj.mapSeq λ_=>toArray (pick Value.none p vs))).get? a=some (seqObj "list" (pick Value.none p vs).toArray c2):=⟨_,get?_update_seq g λ_=>toArray (pick Value.none p vs)⟩;exact h _ c2 p (λb o M e=>(get?_update_other _ _ (Ne.symm M)).trans (keep b o M e)) h1 f U
 show wpAny (model prog w) A _ O E {s with heap:=m};dsimp only;by_cases f:vs.toArray.size<2
 . rw[if_pos f,if_pos f];refine wpAny_bind (wpAny_pure ?_);rw[StateT.run_pure];refine wpAny_bind (wpAny_pure ?_);dsimp only;have eo:(arrOf (SortSt.mk' general' (vs.toArray.zip vs.toArray) #[] 7 none)).map (·.2)=toArray (pick Value.none (List.range vs.length) vs):=by rw[nQ];apply Array.toList_inj.mp;show((vs.toArray.zip vs.toArray).map (·.2)).toList=vs;simp[List.map_snd_zip]
   rw[eo];refine wpAny_bind (seqEpoch_at g rfl ?_);refine wpAny_bind (listUpdate_at g rfl ?_ (uy) (by rw[size_toArray,qQ (.refl _),sizeLine_eq];omega));simp only[bne_self_eq_false,false_eq_true,if_false];refine wpAny_pure (fin _ (.refl _) ?_);rw[B,nQ];refine sX so (.refl _) ?_;match ds,(show ds.length<2 by simp at f;omega)with|[],_=>exact .nil|[_],_=>exact List.pairwise_singleton ..|_::_::_,f=>simp at f;omega
 . rw[if_neg f,if_neg f];have W:2<=vs.length:=by simpa using f
   refine wpAny_bind (N m keep _ ?_ W|>λq=>wpAny_mono q (λ_ _ x=>x) λ_ _ x=>x.elim);have H:(vs.toArray.zip vs.toArray).toList=(List.range vs.length).map λi=>(vs.getD i Value.none,vs.getD i Value.none):=by
    refine ext_getElem (by simp) λi h1 f=>?_;have:i<vs.length:=by simpa using f
    simp[this]
   have X:∀x∈(vs.toArray.zip vs.toArray).toList,∃d,d∈ds/\P x.1 d:=λx hx=>by rw[H]at hx;obtain⟨i,hi,rfl⟩:=mem_map.mp hx;have:=lD L i (List.mem_range.mp hi);exact⟨_,this.2,this.1⟩
   have R:Rk (model prog w) A E {s with heap:=m} κ (λx=>∃d,d∈ds/\P x.1 d) (rkK P ds):=⟨by rintro x y Q st⟨d,d1,d2⟩⟨e,l,t⟩Y hq;rw[DG fn d1 d2,DG fn l t,Ke d1]at hq;rw[lt'_eq];refine wpS_bind (wpS_get ?_);rw[Y];refine wpS_bind (wpS_lift (wpAny_attempt (wpAny_mono (hl m keep x.1 y.1 d e d2 t (λb Z=>Z={s with heap:=m}/\b=bu (cX d) (cX e)) ⟨rfl,rfl⟩) ?_ λ_ _ h=>h.elim)));rintro b Z⟨rfl,rfl⟩;exact⟨rfl,wpS_pure hq⟩⟩;have at':∀k,k<vs.length->it (vs.toArray.zip vs.toArray) k=(vs.getD k .none,vs.getD k .none):=λk N=>by rw[Lf,H];simp[N]
   have hsz:(vs.toArray.zip vs.toArray).size=vs.length:=by simp
   have sg:Seg (rkK P ds) (vs.toArray.zip vs.toArray) 0 (vs.toArray.zip vs.toArray).size:=λi j _ ij jn=>by
    rw[hsz]at jn;rw[at' i (by omega),at' j jn];have a1:=lD L i (by omega);have a2:=lD L j jn;rw[DG fn a1.2 a1.1,DG fn a2.2 a2.1];by_cases e:i=j;.rw[e];exact Int.le_refl _
    . have I:=List.pairwise_iff_getElem.mp z i j (by omega) (by omega) (by omega);simp only[m5,not_eq_true']at I;have l:ds.getD i .non=ds[i]'(by omega):=by simp[show i<ds.length by omega]
      have t:ds.getD j .non=ds[j]'(by omega):=by simp[show j<ds.length by omega]
      rw[<-l,<-t,<-Ke a2.2,decide_eq_false_iff_not]at I;omega
   have run:=Gv R (x0:=vs.toArray.zip vs.toArray) (st:=SortSt.mk' κ (vs.toArray.zip vs.toArray) #[] 7 none) (Q:=λ_ r=>∃p:List Nat,p.Perm (List.range vs.length)/\pick .non p ds=Qx ds/\(arrOf r).map (·.2)=(pick Value.none p vs).toArray/\failedOf r=none) ⟨rfl,rfl,rfl,rfl,.refl _,X,rfl,uy⟩ sg (by rw[hsz];omega) λr l t=>by
     refine⟨List.range vs.length,.refl _,?_,?_,t⟩;.rw[B,nQ];exact sX so (.refl _) z
     .rw[l,nQ];apply Array.toList_inj.mp;simp[List.map_snd_zip]
   refine wpAny_bind (wpAny_mono run ?_ λ_ _ e=>e);rintro⟨⟨⟩,r⟩Z⟨rfl,p,p1,p2,J,hf⟩;dsimp only;rw[J];refine wpAny_bind (seqEpoch_at g rfl ?_);refine wpAny_bind (listUpdate_at g rfl ?_ (uy) (by rw[size_toArray,qQ p1,sizeLine_eq];omega));rw[hf];simp only[bne_self_eq_false,false_eq_true,if_false];exact wpAny_pure (fin _ p1 p2)
end
end HH
end
section
namespace HH
open PySem L2 PySem.Spec PyProof.Rows PySem.Calls PySem.W
noncomputable def zg(nw:Addr->Option HO)(H:Hp):Hp:=λa=>match nw a with|some o=>some o|none=>H a
theorem vJ{nw:Addr->Option HO}{H:Hp}{a:Addr}{o:HO}(h:nw a=some o):zg nw H a=some o:=by unfold zg;rw[h]
theorem iJ{nw:Addr->Option HO}{H:Hp}{a:Addr}(h:nw a=none):zg nw H a=H a:=by unfold zg;rw[h]
theorem ZQ{X:Cx}{g:List (Addr×Obj)}{σ:L2.St}{H:Hp}{s:Shared}{h':Heap}{t':Nat}{nw:Addr->Option HO}(I:L2.Inv X g σ H s)(k:∀b u,s.heap.get? b=some u->h'.get? b=some u)(h:∀a o,nw a=some o->s.heap.objs.size<=a)(new:∀a o,nw a=some o->bw X.prog X.w (zg nw H) h' a o):L2.Inv X g σ (zg nw H) {s with heap:=h',toks:=t'}:=by
 have no:∀a,a<s.heap.objs.size->nw a=none:=λa i=>by cases q:nw a with|none=>rfl|some o=>exact absurd (h a o q) (Nat.not_le_of_lt i)
 have f:∀a o,H a=some o->zg nw H a=some o:=λa o e=>by rw[iJ (no a (I.hok.lt e))];exact e
 refine I.un ⟨λb u q _ _ _=>k b u q,λb u q _ _ _=>⟨u.slots,k b u q⟩,λb u q n _=>?_,λb u q _=>⟨u,k b u q⟩,λb xs q=>f b _ q,λb u xs q=>f b _ q,λb ps q=>⟨#[],by rw[f b _ q];simp⟩⟩ λb u e=>?_;.rw[iJ (no b (lt_size q))];exact n
 .cases q:nw b with|some o=>rw[vJ q]at e;cases e;exact new b _ q|none=>rw[iJ q]at e;exact(I.hok b u e).stay (λc v _ z=>k c v z) (λc z=>f c _ z) λc xs z=>f c _ z
def iv(l d:Addr):Heap->Prop:=λh=>h.IsItemsView l d
def JF:V->List V->Hp->VK->Prop:=λx xs H Q=>∃q a kvs,x=.ref q/\xs=[]/\H q=some (.dB a (.dK (map t8 kvs)))/\∀l,H l=none->Q (.ref l) (upd H l (.ext (iv l q)))
def rIt(X:Cx):List V->Hp->VK->Prop:=λxs H Q=>∃l q f kvs,xs=[.ref l]/\H l=some (.ext (iv l q))/\H q=some (.dB f (.dK (map t8 kvs)))/\(kvs.length<=16777216/\kvs.Pairwise (λa b=>a.1<b.1))/\∃F,aJ F H/\∀v e c,Ext F H e c->cB X.K e c H v (.own (kvs.map gj))->Q v c
theorem xZ{P:Program}{w:World}{h:Heap}:∀{kvs:List (Int×Int)}{vs:List (Key×Value)}{as:List Addr},KV (kvs.map t8) vs->as.length=vs.length->(∀(j:Nat)(a:Addr),as[j]?=some a->∃key k x,vs[j]?=some (k,x)/\(aW P w).is k key=true/\h.get? a=some {cls:=.type "tuple",data:=.seq #[key,x]})->∀(j:Nat)(a:Addr),as[j]?=some a->∃p,kvs[j]?=some p/\∃t u,h.get? a=some {cls:=.type "tuple",data:=.seq #[Value.int p.1 t,Value.int p.2 u]}
 |[],_,as,.nil,f,_,j,a,e=>by cases as with|nil=>cases e|cons _ _=>simp at f
 |p::kvs,_,as,.cons (b:=q) r t,f,hk,j,a,e=>by cases as with|nil=>cases e|cons b as=>cases j with
     |zero=>
       obtain⟨key,k,x,g,m,n⟩:=hk 0 a e;simp at g;have o:k=Sum.inl p.1:=by have z:=r.1;rw[g]at z;exact z.symm
       have s:∃u,x=Value.int p.2 u:=by have z:=r.2;rw[g]at z;exact z
       subst o;obtain⟨u,rfl⟩:=s;obtain⟨i,tk,l,rfl⟩|⟨_,_,l,_⟩:=bB (show pC (Sum.inl p.1) key=true from m);.cases l;exact⟨p,rfl,tk,u,n⟩
       .cases l|succ j=>exact xZ t (by simpa using f) (λi c z=>by simpa using hk (i+1) c (by simpa using z)) j a (by simpa using e)
noncomputable def tpV(p:Int×Int):HO:=.tup [.int p.1,.int p.2]
noncomputable def ql:List Addr->List (Int×Int)->Addr->Option HO|a::as,p::ps,b=>if b=a then some (tpV p)else ql as ps b|_,_,_=>none
theorem qC:∀{as:List Addr}{ps:List (Int×Int)}{b:Addr}{o:HO},ql as ps b=some o->∃(j:Nat)(p:Int×Int),as[j]?=some b/\ps[j]?=some p/\o=tpV p
 |a::as,p::ps,b,o,h=>by
   unfold ql at h;split at h;.rename_i e;cases h;subst e;exact⟨0,p,rfl,rfl,rfl⟩
   .obtain⟨j,q,h1,c,f⟩:=qC h;exact⟨j+1,q,by simpa using h1,by simpa using c,f⟩|[],_,_,_,h=>by simp[ql]at h|_::_,[],_,_,h=>by simp[ql]at h
theorem Dz:∀{as:List Addr}{ps:List (Int×Int)},as.Pairwise (·<·)->∀{j:Nat}{b:Addr}{p:Int×Int},as[j]?=some b->ps[j]?=some p->ql as ps b=some (tpV p)|[],_,_,_,_,_,h,_=>by simp at h|_::_,[],_,_,_,_,_,h=>by simp at h|a::as,q::ps,c,j,b,p,h1,f=>by unfold ql;cases j with|zero=>cases h1;cases f;rw[if_pos rfl]|succ j=>
     have h1:as[j]?=some b:=by simpa using h1
     have:=(pairwise_cons.mp c).1 b (mem_of_getElem? h1);rw[if_neg (λe=>by rw[e]at this;exact lt_irrefl _ this)];exact Dz (pairwise_cons.mp c).2 h1 (by simpa using f)
theorem qO:∀as:List Addr,Vals (as.map V.ref) (as.map Value.ref)|[]=>.nil|_::as=>.cons rfl (qO as)
theorem Cd{K:PySem.W.Frag}{F:Hp}:∀{as:List Addr}{ps:List (Int×Int)},as.length=ps.length->(∀(j:Nat)(b:Addr)(p:Int×Int),as[j]?=some b->ps[j]?=some p->F b=some (tpV p))->aF K F (as.map V.ref) (ps.map gj)|[],[],_,_=>.nil|a::as,p::ps,c,h=>.cons (by have:=h 0 a p rfl rfl;rw[show gj p=.tup [.int p.1,.int p.2]from rfl,Rep];refine⟨a,_,rfl,.inl (.inl this),.cons (by rw[Rep]) (.cons (by rw[Rep]) .nil)⟩) (Cd (by simpa using c) λj b q h1 e=>h (j+1) b q (by simpa using h1) (by simpa using e))|[],_::_,c,_=>by simp at c|_::_,[],c,_=>by simp at c
theorem BK{h:Heap}:∀{as:List Addr}{ps:List (Int×Int)},as.length=ps.length->(∀(j:Nat)(b:Addr),as[j]?=some b->∃p,ps[j]?=some p/\∃t u,h.get? b=some {cls:=.type "tuple",data:=.seq #[Value.int p.1 t,Value.int p.2 u]})->Paired (pW h) (as.map Value.ref) (ps.map gj)|[],[],_,_=>.nil|a::as,p::ps,c,h=>.cons (by obtain⟨q,e,t,u,g⟩:=h 0 a rfl;cases e;exact⟨a,[Value.int p.1 t,Value.int p.2 u],[p.1,p.2],rfl,⟨_,g,rfl,0,rfl⟩,.cons _ _ (.cons _ _ .nil),by simp,rfl⟩) (BK (by simpa using c) λj b h1=>by simpa using h (j+1) b (by simpa using h1))|[],_::_,c,_=>by simp at c|_::_,[],c,_=>by simp at c
theorem xN{prog:Program}{w:World}{A:Around}{E:Value->Shared->Prop}{s:Shared}{v d:Addr}{kvs:List (Key×Value)}{ep:Nat}{Q:List Value->Shared->Prop}(m:A.handled=none)(h:s.heap.IsItemsView v d)(i:s.heap.DictAt (aW prog w) d kvs ep)(n:kvs.length<=sizeLine)(p:∀(h':Heap)(tk:Nat)(as:List Addr),(∀b o,s.heap.get? b=some o->h'.get? b=some o)->s.heap.objs.size<h'.objs.size->as.length=kvs.length->KdxG (aW prog w) kvs s.heap.objs.size h' as->Q (as.map Value.ref) {s with heap:=h',toks:=tk}):wpAny (model prog w) A (collect (.ref v)) Q E s:=by
 have f:v<s.heap.objs.size:=let⟨_,h1,_⟩:=h;lt_size h1;have g:d<s.heap.objs.size:=i.lt_size;unfold collect;refine wpAny_bind (wpAny_runValue (codeAny_builtin F.entry_proto_collect ?_));rw[Around.under_plainId F.plain_proto_collect _];show wpAny _ A.in1 (newList []>>=λl=>again (.builtin "list.__iadd__" ⟨[l,.ref v],[]⟩)) _ _ s;refine wpAny_bind (wpAny_newObj_type (wpAny_pure ⟨plainId_quiet F.plain_list_iadd _,codeAny_builtin F.entry_list_iadd ?_⟩));rw[Around.under_plainId F.plain_list_iadd _];show wpAny _ A.in1 (listExtendWith (.ref s.heap.objs.size) (.ref v) (.ref s.heap.objs.size)) _ _ _;refine kdx_extend (A:=A) (R:=λr j=>match r with
  |.ok (.ret v)=>wpAny (model prog w) A (match v with
   |.ref a=>do let o<-load a match o.data with|.seq xs _=>pure xs.toList|_=>unsupported "internal:collect"
   |_=>unsupported "internal:collect") Q E j|.ok _=>False|.error e=>E e j) (s:={s with heap:=s.heap.push {cls:=.type "list",data:=.seq #[]}}) m (let⟨o,h1,q⟩:=h;⟨o,iK h1,q⟩) (i.at' λo e=>iK e) s.heap.objs.size (Nat.ne_of_gt f) (ne_of_lt g) _ 0 (get?_push_size _ rfl) (λh' tk t z as u k x y c=>?_) n;refine wpAny_bind (wpAny_load k (wpAny_pure ?_));rw[c];exact p h' tk as (λb o e=>u b o (ne_of_lt (lt_size e)) (iK e)) (lt_size k) x (y.low (by rw[size_push'];exact Nat.le_succ _))
section
variable{X:Cx}{c:Call}{a:Expr}{pa:P}{pos:Pos}
theorem G6:MtR X "dict.items" JF:=by rintro f s σ H x xs v t Q I g h⟨q,i,kvs,rfl,rfl,j,k⟩;cases g;cases h;obtain⟨ho,hz,l,vs,r,dd⟩:=(show bw X.prog X.w H s.heap q (.dB i (.dK (kvs.map t8)))from I.hok q _ j);refine call_meetsIn PySem.F.slot_dict_items dd.typeIs PySem.F.entry_dict_items (PySem.F.args_dict_items_1 _) (meets_dict_items _ q l) ⟨⟨vs,dd⟩,?_⟩;have m:(s.heap.push {cls:=.type "dict_items",data:=.fields #[.ref q]}).IsItemsView s.heap.objs.size q:=⟨_,get?_push_size _ rfl,rfl,rfl⟩;refine⟨.ref s.heap.objs.size,_,I.laid (t':=s.toks) (o:=.ext (iv s.heap.objs.size q)) (λb o e=>iK e) (eY) ⟨m,⟨_,get?_push_size _ rfl⟩,λh1 u z k=>?_⟩,rfl,k _ (I.hok.fresh (eY))⟩;obtain⟨o,n,p⟩:=z;exact⟨o,k o n,p⟩
theorem R0(hc:X.calm=true):dU X (.builtin "sorted") (rIt X):=by
 rintro al s σ H xs us Q I r⟨l,q,ob,kvs,hx,hl,hq,⟨am,ac⟩,F,sm,k⟩;subst hx;have so:sortable (kvs.map gj)=true:=by
  have:(kvs.map gj).all yx=true:=by rw[all_eq_true];intro x hx;obtain⟨p,_,rfl⟩:=mem_map.mp hx;rfl
  simp only[sortable,length_map,this,Bool.or_true,Bool.and_true,decide_eq_true_eq];omega
 have J:(kvs.map gj).Pairwise λa b=>m5 a b=true:=by rw[List.pairwise_map];refine ac.imp λ{a b}h=>?_;show(!bu [b.1,b.2] [a.1,a.2])=true;simp[bu];omega
 have ae:Qx (kvs.map gj)=kvs.map gj:=(sX so (.refl _) J).symm;rw[<-ae]at k;obtain⟨u,rfl,rx⟩:=r.one;cases rx;obtain⟨af,_,_⟩:=(show bw X.prog X.w H s.heap l (.ext (iv l q))from I.hok l _ hl);obtain⟨ho,hz,hS,vs,rv,dd⟩:=(show bw X.prog X.w H s.heap q (.dB ob (.dK (kvs.map t8)))from I.hok q _ hq);have L:vs.length=kvs.length:=by rw[<-Paired.length rv,length_map]
 obtain⟨f,es,ep,d1,d2,d3,d4⟩:=dd;have dat:s.heap.DictAt (aW X.prog X.w) q vs ep:=⟨f,es,d1,d2,d3,d4⟩;refine Calls.call_function_entry kind_sorted plain_sorted entry_sorted (args_sorted1 _) ?_;unfold Builtin.«sorted»;refine wpAny_bind (m:=checkCount "sorted" 1 1 _) (wpAny_pure ?_);refine wpAny_bind (xN (A:=X.A.in1) (I.ok.hd hc) af dat (by rw[L,sizeLine_eq];omega) λh1 tk as kp hsz M hG=>?_);have hsz:=le_of_lt hsz;have g:as.length=kvs.length:=M.trans L;have pr:=xZ rv M hG.pairs;have tt:Paired (pW h1) (as.map Value.ref) (kvs.map gj):=BK g pr;have N:∀a o,ql as kvs a=some o->s.heap.objs.size<=a:=λa o e=>by obtain⟨j,p,O,_,_⟩:=qC e;exact le_of_lt (hG.above a (mem_of_getElem? O))
 have i:∀a o,ql as kvs a=some o->H a=none:=λa o e=>I.hok.fresh (N a o e);have B:aJ H (zg (ql as kvs) H):=λb o e=>by cases z:ql as kvs b with|none=>rw[iJ z];exact e|some f=>rw[i b f z]at e;cases e
 have e0:Ext F H (zg (ql as kvs) F) (zg (ql as kvs) H):=by
  refine⟨B,λb o e=>?_,λb o e=>?_,λb n n'=>?_⟩;.cases z:ql as kvs b with|none=>rw[iJ z];exact e|some f=>have n0:=i b f z;rw[sm b o e]at n0;cases n0
  .cases z:ql as kvs b with|none=>rw[iJ z]at e ⊢;exact sm b o e|some f=>rw[vJ z]at e ⊢;exact e
  .cases z:ql as kvs b with|none=>rw[iJ z]at n';exact absurd n n'|some f=>rw[i b f z];rfl
 have rs:aF X.K (zg (ql as kvs) F) (as.map V.ref) (kvs.map gj):=Cd g λj b p h1 h2=>vJ (Dz hG.rise h1 h2);have vv:=qO as;have ag:∀b∈as,b<h1.objs.size:=λb hb=>hG.there hb;have U:(as.map Value.ref).length=kvs.length:=by rw[length_map];exact g
 refine wpAny_bind (wpAny_newList ?_ (by rw[U,sizeLine_eq];omega));generalize W:(h1.push {cls:=.type "list",data:=.seq (as.map Value.ref).toArray}:Heap)=G;have Y:G.get? h1.objs.size=some (seqObj "list" (as.map Value.ref).toArray 0):=by rw[<-W];exact get?_push_size _ rfl
 have KD:∀b o,h1.get? b=some o->G.get? b=some o:=λb o e=>by rw[<-W];exact iK e
 have E:∀b o,h1.get? b=some o->b≠h1.objs.size:=λb o e=>ne_of_lt (lt_size e);show wpAny _ _ _ _ _ {s with heap:=G,toks:=tk};refine wpAny_bind (wpAny_holding (wpAny_call_entry slot_list_sort ⟨_,Y,rfl⟩ entry_list_sort ?body (args_list_sort _)));case body=>
  refine G3 (s:={s with heap:=G,toks:=tk}) (κ:=tuples' (Value.type "int"!=Value.type "tuple")) Y so (by omega) tt Ov J (λh' Z C hC h2=>?_) (λh' Z u v d e hd he C hC=>?_) λh' cc p Z p1 p2 e=>?_;.exact Fb (s:={s with heap:=h',toks:=tk}) (uT (λb o z=>Z b o (E b o z) (KD b o z)) tt) h2 hC
  .have kk:∀b o,h1.get? b=some o->h'.get? b=some o:=λb o z=>Z b o (E b o z) (KD b o z);exact MT (s:={s with heap:=h',toks:=tk}) (o5 kk hd) (o5 kk he) hC
  . refine⟨_,rfl,wpAny_pure ⟨_,rfl,?_⟩⟩;have kk:∀b o,h1.get? b=some o->h'.get? b=some o:=λb o z=>Z b o (E b o z) (KD b o z);have hL:ql as kvs h1.objs.size=none:=by cases z:ql as kvs h1.objs.size with|none=>rfl|some o=>obtain⟨j,p,O,_,_⟩:=qC z;exact absurd (ag _ (mem_of_getElem? O)) (lt_irrefl _)
    have ah:upd (zg (ql as kvs) H) h1.objs.size (.lst (pick .non p (as.map V.ref)))=zg (λb=>if b=h1.objs.size then some (.lst (pick .non p (as.map V.ref)))else ql as kvs b) H:=by
     funext b;unfold upd zg;by_cases z:b=h1.objs.size;.rw[if_pos z];simp only[if_pos z]
     .rw[if_neg z];simp only[if_neg z]
    have I':=ZQ (t':=tk) (h':=h') (nw:=λb=>if b=h1.objs.size then some (.lst (pick .non p (as.map V.ref)))else ql as kvs b) I (λb o z=>kk b o (kp b o z)) (λa o z=>by
     by_cases y:a=h1.objs.size;.rw[y];exact hsz
     .simp only[if_neg y]at z;exact N a o z) (λa o z=>by
     by_cases y:a=h1.objs.size;.simp only[if_pos y]at z;cases z;subst y;exact⟨by rw[qQ p1,U,sizeLine_eq];omega,pick .none p (as.map Value.ref),cc,JK vv,e⟩
     .simp only[if_neg y]at z;obtain⟨j,p',O,e2,rfl⟩:=qC z;obtain⟨ap,e3,t,u,e4⟩:=pr j a O;rw[e2]at e3;cases e3;exact⟨by rw[sizeLine_eq];simp,[Value.int p'.1 t,Value.int p'.2 u],.cons ⟨t,rfl⟩ (.cons ⟨u,rfl⟩ .nil),⟨_,kk _ _ e4,rfl,0,rfl⟩⟩);rw[<-ah]at I';refine⟨.ref h1.objs.size,_,I',rfl,?_⟩;have ai:aF X.K (zg (ql as kvs) F) (pick .non p (as.map V.ref)) (Qx (kvs.map gj)):=by rw[<-p2];exact Iu rs
    refine Ab e0.sub ai (by rw[iJ hL];exact I.hok.fresh hsz) λv F2 G x rn=>k v F2 G ⟨e0.hs.trans x.hs,e0.fs.trans x.fs,x.sub,λc n n'=>?_⟩ ?_
    . by_cases e:zg (ql as kvs) F c=none;.have:=x.gr c e n';cases z:H c with|none=>rfl|some o=>rw[B c o z]at this;exact this
      .exact e0.gr c n e
    obtain⟨b,xs,q1,q2,q3,q4,q5⟩:=rn;refine⟨b,xs,q1,q2,q3,q4,?_⟩;cases z:H b with|none=>rfl|some o=>rw[B b o z]at q5;cases q5
theorem JP{o:Expr}{to:TE}{f cpos:Pos}(ho:PE X o to)(i:attributeBase o "items" X.env (eval o X.env)=eval o X.env:=by rfl)(j:(f.endLine==cpos.line)=true:=by rfl):PE X (.Call (.Attribute o "items" f) [] [] cpos) (λσ H Q=>to σ H λx l=>JF x [] l Q):=by intro g s σ H Q I h;refine wpAny_Call_method0_late i j (bV (ho g s σ H _ I h) λv s1⟨x,l,I1,r1,q1⟩=>?_);obtain⟨q,t,kvs,rfl,_,u,k⟩:=id q1;cases r1;obtain⟨ho,hz,y,vs,r,m,es,ep,n,p,z⟩:=(show bw X.prog X.w l s1.heap q (.dB t (.dK (kvs.map t8)))from I1.hok q _ u);refine⟨"dict","dict.items",PySem.F.plainAttrs_dict,PySem.F.slot_dict_items,PySem.F.type_dict_items,⟨m,n,p.1⟩,λb e=>?_,Calls.callWith_builtin rfl (PySem.evalArgs_none (G6 g s1 σ l (.ref q) [] _ [] Q I1 rfl .nil q1))⟩;cases e;exact⟨m,n,p.2.1⟩
theorem Lg{x:Str}{p' f cpos:Pos}{o:Expr}(O:x="sorted")(hc:X.calm=true)(U:Gl X x)(W:X.mg x=none)(j:(f.endLine==cpos.line)=true)(Y:SX X c o pa)(p:attributeBase o "items" X.env (eval o X.env)=eval o X.env:=by rfl):SX X c (.Call (.Name x p') [.Call (.Attribute o "items" f) [] [] cpos] [] pos) (.blt .Ku [pa]):=by
 subst O;obtain⟨ta,h1,Z⟩:=Y.cL;refine⟨du (dD (R0 hc) U W boot_sorted (bD (JP h1 p j) dO)) ?_,λi h=>by cases h⟩;rintro σ H Q⟨F,ρ,r,B,g,e,k⟩;have e:((cL (isVar pa) (HH.ev c pa) ρ).bind λx ρ=>lift (blt .Ku [x]) ρ)=.ok r B:=e;obtain⟨d,ac,e1,s⟩:=aa e;have zz:=aG s;clear s;obtain⟨s,e3⟩:=zz;subst e3;refine Z g e1 λv I u st pv=>?_;obtain⟨kvs,rfl⟩:∃kvs,d=.dH (.k kvs):=by cases d with
  |dH m=>cases m with|k kvs=>exact⟨kvs,rfl⟩|t kvs=>cases s
  |_=>cases s
 obtain⟨so,he⟩:=aY (show(if kvs.length<=16777216/\kvs.Pairwise (λa b=>a.1<b.1)then some (R.own (kvs.map gj))else none)=some r from s);subst he;obtain⟨q,J,rfl,L⟩:=pv.dH st.gs.sub;refine⟨q,J,kvs,rfl,rfl,L,λl y=>⟨l,q,J,kvs,rfl,aL,aJ.cA y q _ L,so,I,λb o e=>aJ.cA y b o (st.gs.sub b o e),λw C E A rn=>?_⟩⟩;have sm:aJ u (upd u l (.ext (iv l q))):=aJ.cA y;have x3:Ext I u C E:=⟨sm.trans A.hs,A.fs,A.sub,λb n n'=>by
  have:=A.gr b n n';by_cases M:b=l;.subst M;rw[y];rfl
  .rw[aA M]at this;exact this⟩;have G:cB X.K C E u w (.own (kvs.map gj)):=by obtain⟨b,xs,q1,q2,q3,q4,N⟩:=rn;refine⟨b,xs,q1,q2,q3,q4,?_⟩;cases z:u b with|none=>rfl|some o=>rw[sm b o z]at N;cases N
 exact k w C E (st.trans (x3.stp st.gs)) (.later st (G.qU st.gs))
end
end HH
end
section
namespace HH
open PySem L2 PySem.Spec PyProof.Rows
variable{o:Option V}{rows:List (List D)}
section
variable{K:PySem.W.Frag}{F F' F1 H H' H1 F0 H0:Hp}{ρ ρ' ρ1 ρ0:List Sl}{σ σ' σ1 σ0:L2.St}{x:Nat}{q:Addr}{as:List Addr}{rows pP:List (List D)}
noncomputable def Jt:Sl->Bool|.aN=>true|.hold _=>true|_=>false
theorem gZ{s:Sl}{i:Nat}{b:Addr}(g:Jt s=true)(h:aP (ρ.set x s) (σ.set x o) i b):aP ρ σ i b/\i≠x:=by
 obtain⟨⟨t,j,e,a⟩,f⟩:=h;by_cases c:x=i
 . subst c;rw[getElem?_set]at e;rw[if_pos rfl]at e;split at e;.cases e;cases s<;>first|(cases a;done)|(cases g;done)
   .cases e
 .rw[getElem?_set_ne c]at e f;exact⟨⟨⟨t,j,e,a⟩,f⟩,λz=>c z.symm⟩
theorem GS.Dn{s:Sl}(f:Jt s=true)(g:GS K F ρ σ H):GS K F (ρ.set x s) (σ.set x o) H:=by
 refine⟨g.sub,by simp[g.len],λi b d e=>?_,λi t k e h=>?_,λi j a h1 l=>g.dis i j a (gZ f h1).1 (gZ f l).1⟩
 . by_cases c:x=i
   . subst c;rw[getElem?_set,if_pos rfl]at e;split at e;.cases e;cases f
     .cases e
   .rw[getElem?_set_ne c]at e ⊢;exact g.val i b d e
 . by_cases c:x=i
   . subst c;rw[getElem?_set,if_pos rfl]at e;split at e;.cases e;cases s<;>first|(cases h;done)|(cases f;done)
     .cases e
   .rw[getElem?_set_ne c]at e ⊢;exact g.own i t k e h
theorem az.Dn{s:Sl}{o:Option V}(a:Jt s=true)(t:az K F ρ σ H F1 ρ1 σ1 H1)(f:∀s0,ρ[x]?=some s0->tL s0=false):az K F ρ σ H F1 (ρ1.set x s) (σ1.set x o) H1:=by
 refine⟨t.gs.Dn a,t.cZ,t.xj,t.keep,λb⟨i,h⟩=>t.xm b ⟨i,(gZ a h).1⟩,by simp[t.len],λi g e l=>?_⟩;have c:x≠i:=by rintro rfl;rw[f _ e]at l;cases l
 obtain⟨j,s2,k,m⟩:=t.lk i g e l;exact⟨by rw[getElem?_set_ne c];exact j,s2,by rw[getElem?_set_ne c];exact k,m⟩
theorem az.free{i:Nat}{s1:Sl}(t:az K F ρ σ H F1 ρ1 σ1 H1)(h:ρ1[i]?=some s1)(a:tL s1=false):∀s0,ρ[i]?=some s0->tL s0=false:=λs0 e=>by cases z:tL s0 with|false=>rfl|true=>obtain⟨_,s2,b,c⟩:=t.lk i s0 e z;rw[h]at b;cases b;rw[c.tL z]at a;cases a
structure Uq(F:Hp)(ρ:List Sl)(σ:L2.St)(H:Hp)(a:Addr)(xs:List V):Prop where kp:Kp ρ σ H a (.lst xs)fr:F a=none
theorem Uq.stp{a:Addr}{xs:List V}(h:Uq F ρ σ H a xs)(s:az K F ρ σ H F' ρ' σ' H'):Uq F' ρ' σ' H' a xs:=by refine⟨h.kp.stp s,?_⟩;cases z:F' a with|none=>rfl|some o=>
   rcases s.xj a h.fr (by rw[z];simp)with y|y;.exact absurd y h.kp.2
   .rw[h.kp.1]at y;cases y
structure Nw(K:PySem.W.Frag)(x:Nat)(q:Addr)(as:List Addr)(F:Hp)(ρ:List Sl)(σ:L2.St)(H:Hp)(rows:List (List D)):Prop where
 slot:ρ[x]?=some (.hold rows)val:σ[x]?=some (some (.ref q))out:Uq F ρ σ H q (as.map V.ref)nd:(q::as).Nodup
 len:as.length=rows.length
 row:∀(k:Nat)(a:Addr)(ds:List D),as[k]?=some a->rows[k]?=some ds->Wt K F ρ σ H a ds
theorem Nw.stp(w:Nw K x q as F ρ σ H rows)(s:az K F ρ σ H F' ρ' σ' H'):Nw K x q as F' ρ' σ' H' rows:=by obtain⟨b,s2,c,e⟩:=s.lk x _ w.slot rfl;cases(show s2=.hold rows from e);exact⟨c,b.trans w.val,w.out.stp s,w.nd,w.len,λk a f h1 g=>(w.row k a f h1 g).stp s⟩
structure NB(K:PySem.W.Frag)(x:Nat)(q:Addr)(as:List Addr)(F0:Hp)(ρ0:List Sl)(σ0:L2.St)(H0:Hp)(F:Hp)(ρ:List Sl)(σ:L2.St)(H:Hp)(rows:List (List D)):Prop where
 stp:az K F0 ρ0 σ0 H0 F ρ σ H
 fresh:∀b,b∈q::as->Own ρ0 σ0 b\/H0 b=none
 free:∀s0,ρ0[x]?=some s0->tL s0=false
 nw:Nw K x q as F ρ σ H rows
theorem NB.step(b:NB K x q as F0 ρ0 σ0 H0 F ρ σ H rows)(s:az K F ρ σ H F' ρ' σ' H'):NB K x q as F0 ρ0 σ0 H0 F' ρ' σ' H' rows:=⟨b.stp.trans s,b.fresh,b.free,b.nw.stp s⟩
theorem Dm{s:Sl}{a:Addr}{b:HO}(c:Jt s=true)(h:Kp ρ σ H a b):Kp (ρ.set x s) (σ.set x o) H a b:=⟨h.1,λ⟨i,z⟩=>h.2 ⟨i,(gZ c z).1⟩⟩
theorem Ms{s:Sl}{a:Addr}{b:List D}(c:Jt s=true)(h:Wt K F ρ σ H a b):Wt K F (ρ.set x s) (σ.set x o) H a b:=by obtain⟨⟨xs,h1,e⟩,f⟩:=h;exact⟨⟨xs,Dm c h1,e⟩,f⟩
theorem az.ac2{Da:Addr}{o:HO}(s:az K F ρ σ H F1 ρ1 σ1 H1)(h:Own ρ σ Da\/H Da=none)(j:F1 Da=none)(ho:¬ Own ρ1 σ1 Da):az K F ρ σ H F1 ρ1 σ1 (upd H1 Da o):=by
 refine⟨⟨λb u e=>?_,s.gs.len,s.gs.val,λi t c e f=>?_,s.gs.dis⟩,s.cZ,s.xj,λb u e n=>?_,s.xm,s.len,s.lk⟩
 . have:b≠Da:=by rintro rfl;rw[j]at e;cases e
   rw[aA this];exact s.gs.sub b u e
 . obtain⟨a,xs,g,k,l,m⟩:=s.gs.own i t c e f;have:a≠Da:=by rintro rfl;exact ho ⟨i,⟨t,c,e,f⟩,g⟩
   exact⟨a,xs,g,by rw[aA this];exact k,l,m⟩
 . have:b≠Da:=by
    rintro rfl;rcases h with h|h;.exact n h
    .rw[h]at e;cases e
   rw[aA this];exact s.keep b u e n
theorem NB.mut{r:Nat}{a:Addr}{row e:List D}{ys:List V}(b:NB K x q as F0 ρ0 σ0 H0 F ρ σ H rows)(g:as[r]?=some a)(hr:rows[r]?=some row)(l:aF K F ys e):NB K x q as F0 ρ0 σ0 H0 F (ρ.set x (.hold (rows.set r e))) σ (upd H a (.lst ys)) (rows.set r e):=by
 have w:=b.nw.row r a row g hr;obtain⟨⟨xs,k1,r1⟩,f1⟩:=w;have m:x<ρ.length:=(fM b.nw.slot).1;have sx:σ.set x (some (.ref q))=σ:=by have:=b.nw.val;obtain⟨h1,f⟩:=fM this;rw[<-f];simp
 have mem:a∈q::as:=mem_cons_of_mem _ (mem_of_getElem? g);have s1:=(b.stp.ac2 (o:=.lst ys) (b.fresh a mem) f1 k1.2).Dn (x:=x) (s:=.hold (rows.set r e)) (o:=some (.ref q)) rfl b.free;rw[sx]at s1;have n:q≠a:=by have:=(nodup_cons.mp b.nw.nd).1;rintro rfl;exact this (mem_of_getElem? g)
 have own:∀{c:Addr},¬ Own ρ σ c->¬ Own (ρ.set x (.hold (rows.set r e))) σ c:=λ{c}h⟨i,z⟩=>h ⟨i,by have:=gZ (x:=x) (s:=.hold (rows.set r e)) (o:=some (.ref q)) (σ:=σ) (ρ:=ρ) rfl (b:=c) (i:=i) (by rw[sx];exact z);exact this.1⟩;refine⟨s1,b.fresh,b.free,⟨getElem?_set_self m,b.nw.val,⟨⟨by rw[aA n];exact b.nw.out.kp.1,own b.nw.out.kp.2⟩,b.nw.out.fr⟩,b.nw.nd,by simp[b.nw.len],λk c p h1 f=>?_⟩⟩;by_cases j:k=r;.subst j;rw[g]at h1;cases h1;have t:k<rows.length:=(fM hr).1;rw[getElem?_set_self t]at f;cases f;exact⟨⟨ys,⟨aL,own k1.2⟩,l⟩,f1⟩
 . rw[getElem?_set_ne (λz=>j z.symm)]at f;obtain⟨⟨u,k2,v⟩,f2⟩:=b.nw.row k c p h1 f;have nc:c≠a:=by rintro rfl;have nd:=(nodup_cons.mp b.nw.nd).2;obtain⟨B,y⟩:=fM h1;obtain⟨l2,A⟩:=fM g;exact j ((List.getElem_inj nd).mp (y.trans A.symm))
   exact⟨⟨u,⟨by rw[aA nc];exact k2.1,own k2.2⟩,v⟩,f2⟩
noncomputable def Fz(F H:Hp)(bs:List Addr):Hp:=λb=>if b∈bs then H b else F b
theorem uY{G:Hp}:∀{as:List Addr}{rows:List (List D)},as.length=rows.length->(∀(k:Nat)(a:Addr)(c:List D),as[k]?=some a->rows[k]?=some c->Rep K G (.ref a) (.lst c))->aF K G (as.map V.ref) (rows.map D.lst)|[],[],_,_=>.nil|a::as,c::rows,h,k=>.cons (k 0 a c rfl rfl) (uY (by simpa using h) λj b es h1 e=>k (j+1) b es (by simpa using h1) (by simpa using e))|[],_::_,h,_=>by simp at h|_::_,[],h,_=>by simp at h
theorem Nw.Px(w:Nw K x q as F ρ σ H rows){b:Addr}(hb:b∈q::as):F b=none/\¬ Own ρ σ b:=by
 rcases mem_cons.mp hb with rfl|hb;.exact⟨w.out.fr,w.out.kp.2⟩
 . obtain⟨k,a⟩:=List.getElem?_of_mem hb;have c:k<rows.length:=by rw[<-w.len];exact(fM a).1
   obtain⟨⟨xs,k1,_⟩,f1⟩:=w.row k b rows[k] a (by simp[c]);exact⟨f1,k1.2⟩
theorem Nw.fz(w:Nw K x q as F ρ σ H rows)(sm:aJ F H):aJ F (Fz F H (q::as))/\aJ (Fz F H (q::as)) H/\Rep K (Fz F H (q::as)) (.ref q) (.lst (rows.map D.lst)):=by
 have s1:aJ F (Fz F H (q::as)):=λb o e=>by unfold Fz;rw[if_neg λc=>by rw[(w.Px c).1]at e;cases e];exact e
 refine⟨s1,λb o e=>?_,?_⟩
 . unfold Fz at e;split at e;.exact e
   .exact sm b o e
 .rw[Rep];refine⟨q,as.map V.ref,rfl,gJ.of (by unfold Fz;rw[if_pos mem_cons_self];exact w.out.kp.1),uY w.len λk a f h1 g=>?_⟩;obtain⟨⟨xs,k1,r1⟩,f1⟩:=w.row k a f h1 g;rw[Rep];exact⟨a,xs,rfl,gJ.of (by unfold Fz;rw[if_pos (mem_cons_of_mem _ (mem_of_getElem? h1))];exact k1.1),r1.mono s1⟩
theorem NB.dB(b:NB K x q as F0 ρ0 σ0 H0 F ρ σ H rows):az K F0 ρ0 σ0 H0 (Fz F H (q::as)) (ρ.set x (.val false (.lst (rows.map D.lst)))) σ H:=by
 obtain⟨s1,s2,w⟩:=b.nw.fz b.stp.gs.sub;have g:=b.stp.gs;have s:x<ρ.length:=(fM b.nw.slot).1;have k:∀{j:Nat}{c:Addr},aP (ρ.set x (.val false (.lst (rows.map D.lst)))) σ j c->aP ρ σ j c/\x≠j:=λ{j c}⟨⟨t,r,e,m⟩,e1⟩=>by
  by_cases f:x=j;.subst f;rw[getElem?_set_self s]at e;cases e;cases m
  .rw[getElem?_set_ne f]at e;exact⟨⟨⟨t,r,e,m⟩,e1⟩,f⟩
 refine⟨⟨s2,by simp[g.len],λi y d e=>?_,λi t r e m=>?_,λi j c h1 p=>g.dis i j c (k h1).1 (k p).1⟩,b.stp.cZ.trans s1,λc n u=>?_,b.stp.keep,λc⟨j,h⟩=>b.stp.xm c ⟨j,(k h).1⟩,by simp[b.stp.len],λi t e l=>?_⟩
 . by_cases f:x=i;.subst f;rw[getElem?_set_self s]at e;cases e;exact⟨_,b.nw.val,w⟩
   .rw[getElem?_set_ne f]at e;obtain⟨v,h1,p⟩:=g.val i y d e;exact⟨v,h1,p.mono s1⟩
 . by_cases f:x=i;.subst f;rw[getElem?_set_self s]at e;cases e;cases m
   .rw[getElem?_set_ne f]at e;obtain⟨a,o,h1,p,z,A⟩:=g.own i t r e m;refine⟨a,o,h1,p,?_,A.mono s1⟩;unfold Fz;rw[if_neg λB=>(b.nw.Px B).2 ⟨i,⟨t,r,e,m⟩,h1⟩];exact z
 . by_cases hc:c∈q::as;.exact(b.fresh c hc).imp id lH
   . have:Fz F H (q::as) c=F c:=by unfold Fz;rw[if_neg hc]
     rw[this]at u;exact b.stp.xj c n u
 . have c:x≠i:=by rintro rfl;rw[b.free _ e]at l;cases l
   obtain⟨C,s3,E,G⟩:=b.stp.lk i t e l;exact⟨C,s3,by rw[getElem?_set_ne c];exact E,G⟩
end
inductive Rw(K:PySem.W.Frag)(x:Nat)(f:List Sl->Res Fl)(E:Ends)(σ:L2.St)(H:Hp):Prop where|mk(F0:Hp)(ρ0:List Sl)(σ0:L2.St)(H0 F:Hp)(ρ:List Sl)(q:Addr)(as:List Addr)(rows:List (List D))(fl:Fl)(ρ':List Sl)(b:NB K x q as F0 ρ0 σ0 H0 F ρ σ H rows)(e:f ρ=.ok fl ρ')(k:∀F' σ' H',az K F0 ρ0 σ0 H0 F' ρ' σ' H'->aJ F F'->((∀r,fl≠.ret r)->∃pP,NB K x q as F0 ρ0 σ0 H0 F' ρ' σ' H' pP)->Ju K E F' ρ' σ' H' ρ0 σ0 H0 fl)
inductive Zj(K:PySem.W.Frag)(x:Nat)(f:List Sl->Res Fl)(E:Ends)(σ:L2.St)(H:Hp):Prop where|mk(F0:Hp)(ρ0:List Sl)(σ0:L2.St)(H0 F:Hp)(ρ:List Sl)(q:Addr)(as:List Addr)(rows:List (List D))(fl:Fl)(ρ':List Sl)(b:NB K x q as F0 ρ0 σ0 H0 F ρ σ H rows)(e:f ρ=.ok fl ρ')(k:∀F' σ' H',az K F0 ρ0 σ0 H0 F' ρ' σ' H'->Ju K E F' ρ' σ' H' ρ0 σ0 H0 fl)
structure Z3(X:Cx)(c:Call)(n x:Nat)(st:Stmt)(s:S):Prop where p:PS X st (Rw X.K x (ex c n s))
structure W4(X:Cx)(c:Call)(n x:Nat)(st:List Stmt)(s:List S):Prop where p:pO X st (Rw X.K x (fO c n s))
structure SBT(X:Cx)(c:Call)(n x:Nat)(st:List Stmt)(s:List S):Prop where p:pO X st (Zj X.K x (fO c n s))
section
variable{X:Cx}{c:Call}{n x:Nat}{e a b d tg iter:Expr}{p pa pb pd:P}{pos:Pos}{body:List Stmt}{ss:List S}{st:Stmt}{s:S}{sts:List Stmt}
theorem qD:W4 X c n x [] []:=⟨iy qj λD σ H⟨f,ρ0,σ0,H0,F,ρ,q,as,rows,fl,ρ',nb,e,k⟩=>by rw[xs0]at e;cases e;exact k F σ H nb.stp (.refl _) λ_=>⟨rows,nb⟩⟩
theorem tu(h1:Z3 X c n x st s)(w:W4 X c n x sts ss):W4 X c n x (st::sts) (s::ss):=by refine⟨iy (jf h1.p w.p) ?_⟩;rintro D σ H⟨h,f,g,i,F,ρ,q,as,rows,fl,t,l,e,k⟩;rw[Vb]at e;obtain⟨f1,j,m,e⟩:=aa e;cases f1 with|next=>refine⟨h,f,g,i,F,ρ,q,as,rows,.next,j,l,m,λF1 y I s1 sm nn=>?_⟩;obtain⟨A,B⟩:=nn (λr z=>by cases z);exact⟨h,f,g,i,F1,j,q,as,A,fl,t,B,e,λC u E s2 G v=>k C u E s2 (sm.trans G) v⟩|brk=>cases e;exact⟨h,f,g,i,F,ρ,q,as,rows,.brk,_,l,m,k⟩|cont=>cases e;exact⟨h,f,g,i,F,ρ,q,as,rows,.cont,_,l,m,k⟩|ret r=>cases e;exact⟨h,f,g,i,F,ρ,q,as,rows,.ret r,_,l,m,k⟩
theorem JC(h1:Z3 X c n x st s)(w:SBT X c n x sts ss):SBT X c n x (st::sts) (s::ss):=by refine⟨iy (jf h1.p w.p) ?_⟩;rintro D σ H⟨j,g,h,l,F,ρ,q,as,rows,fl,v,t,e,k⟩;rw[Vb]at e;obtain⟨f1,m,u,e⟩:=aa e;cases f1 with|next=>refine⟨j,g,h,l,F,ρ,q,as,rows,.next,m,t,u,λF1 f i s1 sm nn=>?_⟩;obtain⟨y,A⟩:=nn (λr z=>by cases z);exact⟨j,g,h,l,F1,m,q,as,y,fl,v,A,e,k⟩|brk=>cases e;exact⟨j,g,h,l,F,ρ,q,as,rows,.brk,_,t,u,λF1 f i s1 _ _=>k F1 f i s1⟩|cont=>cases e;exact⟨j,g,h,l,F,ρ,q,as,rows,.cont,_,t,u,λF1 f i s1 _ _=>k F1 f i s1⟩|ret r=>cases e;exact⟨j,g,h,l,F,ρ,q,as,rows,.ret r,_,t,u,λF1 f i s1 _ _=>k F1 f i s1⟩
theorem Oe(h:SB X c n sts ss):SBT X c n x sts (.dB x::ss):=by refine⟨iy h ?_⟩;rintro D σ H⟨A,j,l,B,F,ρ,q,as,rows,fl,f,g,e,k⟩;rw[Vb]at e;obtain⟨f1,m,i,e⟩:=aa e;rw[HH.X24,g.nw.slot]at i;cases i;have t:=g.dB;refine⟨_,_,fl,f,t.gs,e,λu σ' w s=>?_⟩;have z:=k u σ' w (t.trans s);cases fl with|next=>exact z|brk=>exact z|cont=>exact z|ret r=>exact λv y=>z v (y.later t)
theorem Rp{r u:List Stmt}{v tb:List S}(hc:ST X c e p)(y:W4 X c n x r v)(z:W4 X c n x u tb):Z3 X c n x (.If e r u pos) (.ifs p v tb):=by refine⟨cP (CG hc y.p z.p) ?_⟩;rintro D σ H⟨A,j,l,B,F,ρ,q,as,rows,fl,i,w,e,k⟩;rw[HH.X12]at e;obtain⟨t,g,C,e⟩:=aa e;refine⟨F,ρ,t,g,w.stp.gs,C,λF1 E s1=>?_⟩;have go:∀{f:List Sl->Res Fl},f g=.ok fl i->Rw X.K x f D σ E:=λ{f}h=>⟨A,j,l,B,F1,g,q,as,rows,fl,i,w.step s1,h,λG m I s2 sm nn=>k G m I s2 (s1.cZ.trans sm) nn⟩;cases t with|true=>rw[if_pos rfl]at e;exact go e|false=>rw[if_neg Bool.false_ne_true]at e;exact go e
theorem Hc{ρ:List Sl}(h:jM ρ x=some rows):ρ[x]?=some (.hold rows):=by
 unfold jM at h;split at h;.rename_i z;cases h;exact z
 .cases h
def WalkN(K:PySem.W.Frag)(J:It)(i:List D)(F1:Hp):Prop:=∀(k:Nat)(h f:Hp),aJ F1 h->aJ h f->(∀d,i[k]?=some d->J.go k f/\∀x j,J.O3 k f x j->∃g,Ext h f g j/\Rep K g x d)/\(i.length<=k->J.stop k f)
inductive adA(K:PySem.W.Frag)(f:Ev)(σ:L2.St)(H:Hp)(R:It->Hp->Prop):Prop where|mk(F:Hp)(ρ:List Sl)(r:HH.R)(ρ1:List Sl)(ds:List D)(g:GS K F ρ σ H)(e:f ρ=.ok r ρ1)(e2:items r.d=some ds)(k:∀J F1 H1,az K F ρ σ H F1 ρ1 σ H1->WalkN K J ds F1->R J H1)
structure SIN(X:Cx)(c:Call)(tg e:Expr)(p:P):Prop where p:PI X tg e (adA X.K (HH.ev c p))
theorem Mm(h:SX X c e p):SIN X c tg e p:=by refine⟨rH (vI h.ev) ?_⟩;rintro σ H R⟨F,ρ,r,m,y,g,e,i,k⟩;refine⟨F,ρ,r,m,g,e,λv z A s t=>?_⟩;obtain⟨B,s2,_,j⟩:=s.dB t;cases hd:r.d with|tup es=>rw[hd]at j i;cases i;rw[Rep]at j;obtain⟨a,xs,rfl,h1,q⟩:=j;exact⟨a,rfl,.inr ⟨⟨xs,aJ.jz s2.gs.sub h1⟩,k _ _ _ s2 λk u w f l=>Dl (aJ.jz l (aJ.jz f h1)) (q.mono f) l k⟩⟩|lst es=>rw[hd]at j i;cases i;rw[Rep]at j;obtain⟨a,xs,rfl,h1,q⟩:=j;exact⟨a,rfl,.inl ⟨⟨xs,s2.gs.sub.seq h1⟩,k _ _ _ s2 λk u w f l=>rE (l.seq (f.seq h1)) (q.mono f) l k⟩⟩|_=>rw[hd]at i;cases i
theorem FJ{K:PySem.W.Frag}{F1:Hp}(i j:Int):WalkN K (Wm i (j-i).toNat) ((List.range (j-i).toNat).map λ(k:Nat)=>D.int (i+(k:Int))) F1:=by
 refine λk g u _ sm=>⟨λd hd=>?_,λh=>?_⟩;.rw[getElem?_map]at hd;obtain⟨m,l,q⟩:=map_some hd;obtain⟨h1,f⟩:=fM l;rw[List.getElem_range]at f;subst f;subst q;rw[length_range]at h1;refine⟨h1,?_⟩;rintro x v⟨r,t⟩;subst r;subst t;exact⟨g,.refl sm,bU _⟩
 .rw[length_map,length_range]at h;exact h
theorem Ig{x:Str}{p':Pos}(q:x="range")(t:Gl X x)(u:X.mg x=none)(w:SX X c a pa)(hs:starEach [a] X.env=[(false,eval a X.env)]:=by rfl):SIN X c tg (.Call (.Name x p') [a] [] pos) (.wW (.con (.int 0)) pa):=by
 subst q;obtain⟨N,h1,y⟩:=w.cL;refine⟨rH (uA t u (bD h1 dO hs) hs) ?_⟩;rintro σ H R⟨F,ρ,r,z,O,g,l,A,k⟩;rw[HH.E19]at l;obtain⟨Q,B,C,f⟩:=aa l;have E:=aG f;clear f;obtain⟨f,G⟩:=E;subst G;obtain⟨U,I,J,h⟩:=aa C;cases h;obtain⟨i,f1,f⟩:=bW f;obtain⟨j,f2,f⟩:=bW f;obtain⟨⟨b1,b2,b3,b4⟩,f⟩:=aY f;have f1:i=0:=by cases f1;rfl
 subst f1;subst f;cases A;cases cT f2;refine y g J λv m L s M=>⟨j,by rw[M.int],by omega,by omega,?_⟩;have:=FJ (K:=X.K) (F1:=m) 0 j;rw[sub_zero]at this;refine k _ m L s ?_;rw[sub_zero];exact this
theorem Df{g:TG}{is:List Nat}{one:Bool}(hp:PassesOwn (model X.prog X.w) X.A X.env X.xe)(hc:X.calm=true)(hi:SIN X c tg iter p)(hg:PG X tg g)(af:G7 X.K (λρ d=>cj ρ is one d) g)(hb:W4 X c n x body ss)(hs:∀x,foldedSetIterable iter X.env x=pure x:=by intro _;rfl):Z3 X c n x (.For tg iter body [] pos) (.Gg p is one ss):=by
 refine⟨cP (zK hp hc hi.p hg hb.p hs) ?_⟩;rintro D σ H⟨F0,G,I,H0,F,ρ,q,as,rows,fl,U,nb,e,k⟩;rw[HH.X23]at e;obtain⟨r,W,e1,e⟩:=aa e;obtain⟨j,al,e9,e2⟩:=aa e;have zz:=aG e9;clear e9;obtain⟨e9,ag⟩:=zz;subst ag;refine⟨F,ρ,r,W,j,nb.stp.gs,e1,e9,λJ F1 H1 s1 w=>?_⟩;refine⟨λi m u Hi=>∃E f Q,NB X.K x q as F0 G I H0 E f u Hi Q/\aJ F1 E/\m=j.length-i/\i<=j.length/\jq is one (fO c n ss) (j.drop i) f=.ok fl U,⟨_,F1,W,rows,nb.step s1,.refl _,rfl,uy,e2⟩,?_⟩;rintro i m u Hi⟨E,f,Q,t,L,rfl,am,l⟩;obtain⟨w1,w2⟩:=w i E Hi L t.stp.gs.sub;by_cases B:i<j.length
 . right;have hd:j[i]?=some j[i]:=by simp[B]
   obtain⟨go,step⟩:=w1 _ hd;refine⟨go,λσ' Y=>∃m',m'<j.length-i/\∃E f Q,NB X.K x q as F0 G I H0 E f σ' Y Q/\aJ F1 E/\m'=j.length-(i+1)/\i+1<=j.length/\jq is one (fO c n ss) (j.drop (i+1)) f=.ok fl U,λσ' Y z=>z,λy Y yy=>?_⟩;obtain⟨F2,ext,rx⟩:=step y Y yy;have t2:=ext.stp t.stp.gs;rw[drop_eq_getElem_cons B,Ao]at l;cases hbd:cj f is one j[i]with|none=>rw[hbd]at l;cases l|some Z=>rw[hbd]at l;obtain⟨ac,M,eb,l⟩:=aa l;refine af y _ F2 f Z u Y _ t2.gs rx hbd λap sb=>?_;have t3:=t2.trans sb;refine⟨F0,G,I,H0,F2,Z,q,as,Q,ac,M,t.step t3,eb,λF4 ae H4 s4 ah N=>?_⟩;have C:aJ F1 F4:=L.trans (ext.fs.trans ah);cases ac with|next=>obtain⟨KJ,O⟩:=N (λr z=>by cases z);exact⟨_,by omega,F4,M,KJ,O,C,rfl,B,l⟩|cont=>obtain⟨KJ,O⟩:=N (λr z=>by cases z);exact⟨_,by omega,F4,M,KJ,O,C,rfl,B,l⟩|brk=>cases l;exact k F4 ae H4 s4 (s1.cZ.trans C) λ_=>N (λr z=>by cases z)|ret r=>cases l;exact λv rr=>k F4 ae H4 s4 (s1.cZ.trans C) (λh=>(h r rfl).elim) v rr
 . left;have ai:j.drop i=[]:=by rw[drop_eq_nil_iff];omega
   rw[ai,Jj]at l;cases l;exact⟨w2 (by omega),k E u Hi t.stp (s1.cZ.trans L) λ_=>⟨Q,t⟩⟩
end
section
variable{X:Cx}{c:Call}{n:Nat}{e a b d i j:Expr}{p pa pb pd pi pj:P}{pos:Pos}
theorem Mt{ρ f:List Sl}{x:Nat}{o:Option (List (List D))}{fl:Fl}(h:Ew ρ x o=.ok fl f):∃rows,o=some rows/\fl=.next/\f=ρ.set x (.hold rows):=by cases o with|none=>cases h|some rows=>cases h;exact⟨rows,rfl,rfl,rfl⟩
section
variable{K:PySem.W.Frag}{F H F0 H0:Hp}{ρ ρ0:List Sl}{σ σ0:L2.St}{x:Nat}{q:Addr}{as:List Addr}{rows pP:List (List D)}
theorem NB.hold(f:NB K x q as F0 ρ0 σ0 H0 F ρ σ H rows)(h:jM ρ x=some pP):pP=rows:=by have:=Hc h;rw[f.nw.slot]at this;cases this;rfl
theorem NB.at{k:Int}{r:Nat}{row:List D}(f:NB K x q as F0 ρ0 σ0 H0 F ρ σ H rows)(h1:HH.jP rows.length k=some r)(h:rows[r]?=some row):∃a ys,as[r]?=some a/\Jz (as.map V.ref) k=some (.ref a)/\H a=some (.lst ys)/\aF K F ys row:=by
 have g:r<as.length:=by rw[f.nw.len];exact(fM h).1
 obtain⟨⟨ys,k1,r1⟩,_⟩:=f.nw.row r as[r] row (by simp[g]) h;refine⟨as[r],ys,by simp[g],?_,k1.1,r1⟩;unfold Jz;rw[length_map,f.nw.len];rw[show L2.jP rows.length k=some r from h1];simp[g]
theorem NB.vQ{g:D}{row:List D}(l:NB K x q as F0 ρ0 σ0 H0 F ρ σ H rows)(h:HH.vQ ρ x g=some row):∃k a,(∃r:Nat,as[r]?=some a)/\Jz (as.map V.ref) k=some (.ref a)/\g=.int k/\∃ys,H a=some (.lst ys)/\aF K F ys row:=by unfold HH.vQ at h;obtain⟨f,h1,h⟩:=bW h;cases l.hold h1;obtain⟨k,m,h⟩:=bW h;obtain⟨r,s,t⟩:=bW h;obtain⟨a,ys,u,v,w,y⟩:=l.at s t;exact⟨k,a,⟨r,u⟩,v,cT m,ys,w,y⟩
end
theorem Fq{l:List (List D)}{k:Int}{f:List D->Option (List D)}(h:km rows k f=some l):∃r row g,HH.jP rows.length k=some r/\rows[r]?=some row/\f row=some g/\l=rows.set r g:=by unfold km at h;obtain⟨r,h1,h⟩:=bW h;obtain⟨row,m,h⟩:=bW h;obtain⟨g,q,h⟩:=map_some h;exact⟨r,row,g,h1,m,q,h.symm⟩
theorem JS{x:Str}{k:Nat}{t f g cpos:Pos}(hN:X.N[k]?=some x)(hv:uX X.env.scope x)(hi:SX X c i pi)(he:SX X c e p)(G:vZ i:=by intro _ _;rfl)(h:(g.endLine==cpos.line)=true:=by rfl)(hs:starEach [e] X.env=(false,eval e X.env)::starEach [] X.env:=by rfl)(l:attributeBase (.Subscript (.Name x t) i f) "append" X.env (eval (.Subscript (.Name x t) i f) X.env)=eval (.Subscript (.Name x t) i f) X.env:=by rfl)(u:((backTo cpos (starEach [e] X.env)).all (λx=>!x.1)&&(backToKw cpos (keywordEach [] X.env)).all (λx=>x.1.isSome)&&decide ([e].length+([]:List Keyword).length+(if([]:List Keyword).isEmpty then 0 else 1)<30))=true:=by rfl)(I:swapsWith (.Call (.Attribute (.Subscript (.Name x t) i f) "append" g) [e] [] cpos) none pos.line X.env=pure false:=by rfl)(hd:(x==("__debug__":Str))=false:=by decide)(J:(x==("__classdict__":Str))=false:=by decide):Z3 X c n k (.Expr (.Call (.Attribute (.Subscript (.Name x t) i f) "append" g) [e] [] cpos) pos) (.KC k pi p):=by obtain⟨ti,L,M⟩:=hi.cL;refine⟨cP (Bx (Qo PySem.F.plainAttrs_list PySem.F.slot_list_append PySem.F.type_list_append pg (Pz BJ (eX hN hv hd J) L G) (bD he.ev dO hs) l u h hs) I) ?_⟩;rintro E σ H⟨F0,ai,al,H0,F,ρ,q,as,rows,fl,am,O,e,kk⟩;rw[HH.X22]at e;obtain⟨dk,Q,e2,e⟩:=aa e;obtain⟨ag,ah,B,e⟩:=aa e;have zz:=aG B;clear B;obtain⟨B,U⟩:=zz;subst U;obtain⟨r,W,e3,e⟩:=aa e;obtain⟨rs,w,rfl,rfl⟩:=Mt e;refine⟨.ref q,O.nw.val,M O.stp.gs e2 λvi F1 H1 s1 pi=>?_⟩;have C:=O.step s1;obtain⟨k0,a,g1,g2,g0,ys,g3,g4⟩:=C.vQ B;rw[g0]at pi;refine⟨q,_,k0,_,rfl,pi.int,gJ.of C.nw.out.kp.1,g2,.inl ⟨rfl,ys,gJ.of g3⟩,F1,Q,r,W,C.stp.gs,e3,λv F2 H2 s2 rr=>?_⟩;obtain⟨F3,s3,_,rp⟩:=s2.dB rr;have s:=C.step s3;obtain⟨Y,e5,w⟩:=bW w;cases s.hold e5;obtain⟨k1,e6,w⟩:=bW w;obtain⟨m,row,lV,f1,f2,f3,rfl⟩:=Fq w;obtain⟨Z,rfl⟩:=aY f3;have:=cT e6;rw[g0]at this;cases this;obtain⟨a',ac,ae,y,af,z⟩:=s.at f1 f2;rw[g2]at y;cases y;have A:=s.mut ae f2 (z.append (.cons rp .nil));exact⟨a,ac,v,rfl,rfl,af,by rw[z.length];exact Z,kk F3 σ _ A.stp (s1.cZ.trans s3.cZ) λ_=>⟨_,A⟩⟩
end
section
variable{K:PySem.W.Frag}{F H F1 H1:Hp}{ρ ρ1:List Sl}{σ σ1:L2.St}
theorem az.since{b:Addr}(s:az K F ρ σ H F1 ρ1 σ1 H1)(h:H1 b=none):Own ρ σ b\/H b=none:=by
 by_cases ho:Own ρ σ b;.exact .inl ho
 .right;cases e:H b with|none=>rfl|some o=>rw[s.keep b o e ho]at h;cases h
theorem NB.mk'{x:Nat}{q:Addr}{as:List Addr}{s1:Sl}(s:az K F ρ σ H F1 ρ1 σ1 H1)(e:ρ1[x]?=some s1)(g:tL s1=false)(h:Uq F1 ρ1 σ1 H1 q (as.map V.ref))(nd:(q::as).Nodup)(len:as.length=rows.length)(row:∀(k:Nat)(a:Addr)(c:List D),as[k]?=some a->rows[k]?=some c->Wt K F1 ρ1 σ1 H1 a c)(fr:∀b,b∈q::as->Own ρ σ b\/H b=none):NB K x q as F ρ σ H F1 (ρ1.set x (.hold rows)) (σ1.set x (some (.ref q))) H1 rows:=by
 have hi:x<ρ1.length:=(fM e).1;have f:x<σ1.length:=by rw[<-s.gs.len];exact hi
 exact⟨s.Dn rfl (s.free e g),fr,s.free e g,⟨getElem?_set_self hi,getElem?_set_self f,⟨Dm rfl h.kp,h.fr⟩,nd,len,λk a c h1 i=>Ms rfl (row k a c h1 i)⟩⟩
end
theorem Ka{K:PySem.W.Frag}{F H:Hp}{ρ e l:List Sl}{σ:L2.St}{ul:List Sl->List Sl}{ti:TI}{is:List Nat}{one:Bool}{c:Call}{el:Ev}{g:TG}{Q:VK}{f:List D}{m n:Nat}(hm:σ.length=m)(aw:pK K m is one g)(ax:∀R:It->Hp->Prop,(∀J F1 X,Walk K F ρ σ H ul J f F1 e X->R J X)->ti σ H R)(ba:f.length<=lim)(e2:gY is one el f [] (e++replicate n .aN)=.ok rows l)(k:∀ q as F' H',az K F ρ σ H F' (ul (l.take e.length)) σ H'->Uq F' (ul (l.take e.length)) σ H' q (as.map V.ref)->(q::as).Nodup->as.length=rows.length->(∀(k:Nat)(a:Addr)(f:List D),as[k]?=some a->rows[k]?=some f->Wt K F' (ul (l.take e.length)) σ H' a f)->(∀b,b∈q::as->Own ρ σ b\/H b=none)->Q (.ref q) H'):uR n ti g (GZ K (wN c none)) (xW K el) σ H Q:=by
 refine ax _ λJ F1 X w Da Y=>?_;have ay:e.length=σ.length:=w.gs.len;have gm:=w.gs.more (n:=n) (τ:=replicate n none) (by simp);have fD:F1 Da=none:=by cases q:F1 Da with|none=>rfl|some o=>rw[w.gs.sub Da o q]at Y;cases Y
 have nO:¬ Own (e++replicate n .aN) (σ++replicate n none) Da:=λ⟨i,⟨t,dt,q1,q2⟩,q3⟩=>by obtain⟨a,ys,z1,z2,_⟩:=gm.own i t dt q1 q2;rw[q3]at z1;cases z1;rw[Y]at z2;cases z2
 refine⟨λi mm ys j M=>∃N u B as,az K F1 (e++replicate n .aN) (σ++replicate n none) X N u j M/\j.take m=σ/\ys=as.map V.ref/\M Da=some (.lst ys)/\N Da=none/\¬ Own u j Da/\(Da::as).Nodup/\as.length=B.length/\(∀(k:Nat)(a:Addr)(f:List D),as[k]?=some a->B[k]?=some f->Wt K N u j M a f/\(Own (e++replicate n .aN) (σ++replicate n none) a\/X a=none))/\B.length<=i/\mm=f.length-i/\i<=f.length/\gY is one el (f.drop i) B u=.ok rows l,⟨_,F1,_,[],[],(az.refl gm).Jw Y fD nO,by rw[List.take_append_of_le_length (by omega),List.take_of_length_le (by omega)],rfl,aL,fD,nO,by simp,rfl,λk a f h=>by simp at h,uy,rfl,uy,e2⟩,?_⟩;rintro i mm ys j M⟨N,u,B,as,si,am,Z,hD,hF,hO,ac,C,I,bi,rfl,bn,G⟩;refine⟨hD,?_⟩;have stay:∀{F2 H2:Hp}{ae:List Sl}{L:L2.St},az K N u j M F2 ae L H2->H2 Da=some (.lst ys)/\F2 Da=none/\¬ Own ae L Da:=λ{F2 H2 ae L}s=>by have:=(Uq.stp (xs:=ys) ⟨⟨hD,hO⟩,hF⟩ s);exact⟨this.kp.1,this.fr,this.kp.2⟩
 obtain⟨s1,s2⟩:=w.src n i N u j M si;by_cases af:i<f.length
 . right;have hd:f[i]?=some f[i]:=by simp[af]
   obtain⟨go,step⟩:=s1 _ hd;refine⟨go,λx H2 y=>?_⟩;obtain⟨F2,ext,rx⟩:=step x H2 y;have t2:=ext.stp si.gs;rw[drop_eq_getElem_cons af,Hl]at G;cases hbd:cj u is one f[i]with|none=>rw[hbd]at G;cases G|some U=>rw[hbd]at G;obtain⟨re,ag,ee,G⟩:=aa G;cases re with|val _=>cases G|own ah=>
     replace G:gY is one el (f.drop (i+1)) (B++[ah]) ag=.ok rows l:=G;refine aw x _ F2 u U j H2 _ t2.gs rx hbd λL sb aE=>?_;have t3:=t2.trans sb;refine⟨F2,U,true,U,t3.gs,by rw[wN],λF4 H4 s4=>?_⟩;have t4:=t3.trans s4;refine(show xW K el L H4 _ from⟨F4,U,.own ah,ag,t4.gs,ee,λv F5 H5 s5 rr=>?_⟩);have t6:=t4.trans s5;obtain⟨y1,y2,y3⟩:=stay t6;obtain⟨z1,z2,z3⟩:=stay t4;have ai:ys.length<sizeLine:=by have O:lim=sizeLine:=rfl;rw[Z,length_map];omega
     obtain⟨A,xs,rfl,a1,a2,a3,a4,a5⟩:=rr;have ap:A≠Da:=by
      rintro rfl;rcases a5 with z|z;.exact z3 z
      .rw[z1]at z;cases z
     have nA:A∉as:=λhA=>by
      obtain⟨k0,E⟩:=List.getElem?_of_mem hA;have al:k0<B.length:=by rw[<-C];exact(fM E).1
      obtain⟨⟨zs,k1,_⟩,_⟩:=(I k0 A B[k0] E (by simp[al])).1.stp t4;rcases a5 with z|z;.exact k1.2 z
      .rw[k1.1]at z;cases z
     have fA:Own (e++replicate n .aN) (σ++replicate n none) A\/X A=none:=by
      have t:=si.trans t4;rcases a5 with z|z;.exact t.xm A z
      .exact t.since z
     refine⟨y1,ai,_,by omega,F5,ag,B++[ah],as++[A],(si.trans t6).Jw Y y2 y3,aE.trans am,by rw[Z];simp,aL,y2,y3,?_,by simp[C],λk0 a0 aI h1 O=>?_,by simp;omega,rfl,af,G⟩
     . rw[<-cons_append,nodup_append];refine⟨ac,by simp,λp hp r hr=>?_⟩;simp at hr;subst hr;rcases mem_cons.mp hp with rfl|hp;.exact λz=>ap z.symm
       .rintro rfl;exact nA hp
     . by_cases E:k0<as.length
       . rw[getElem?_append_left E]at h1;rw[getElem?_append_left (by omega)]at O;obtain⟨w0,f0⟩:=I k0 a0 aI h1 O;obtain⟨⟨zs,k1,r1⟩,g1⟩:=w0.stp t6;have na:a0≠Da:=by rintro rfl;exact(nodup_cons.mp ac).1 (mem_of_getElem? h1)
         exact⟨⟨⟨zs,⟨by rw[aA na];exact k1.1,k1.2⟩,r1⟩,g1⟩,f0⟩
       . rw[getElem?_append_right (by omega)]at h1;rw[getElem?_append_right (by omega)]at O;have:k0-as.length=0:=by have:=(fM h1).1;simp at this;exact this
         rw[this]at h1;rw[<-C,this]at O;cases h1;cases O;exact⟨⟨⟨xs,⟨by rw[aA ap];exact a1,a4⟩,a3⟩,a2⟩,fA⟩
 . left;have aS:f.drop i=[]:=by rw[drop_eq_nil_iff];omega
   rw[aS,JG]at G;cases G;refine⟨s2 (by omega),?_⟩;have hst:j.take e.length=σ:=by rw[ay,hm];exact am
   obtain⟨l1,l2⟩:=az.less (m:=e.length) rfl w.gs (by simp) si;rw[hst]at l1;obtain⟨z1,z2⟩:=w.fin _ _ _ _ l1--the outer list:with nothing in it,it is like any new one
   have aT:=si.Jw (o:=.lst []) Y hF hO;obtain⟨ar,Xm⟩:=az.less (m:=e.length) rfl w.gs (by simp) aT;rw[hst]at ar;obtain⟨bo,a8⟩:=w.fin _ _ _ _ ar;have rr:cR K N l j (upd M Da (.lst [])) (e++replicate n .aN) (σ++replicate n none) X (.ref Da) (.own []):=⟨Da,[],rfl,aL,hF,.nil,hO,.inr Y⟩;have Q0:=Xm _ _ rr;rw[hst]at Q0;obtain⟨_,_,q0,_,q3,_,q5,q6⟩:=a8 _ _ Q0;cases q0;have av:∀(k:Nat)(a:Addr)(f:List D),as[k]?=some a->rows[k]?=some f->Wt K N (ul (l.take e.length)) σ M a f/\(Own ρ σ a\/H a=none):=λk a f h1 O=>by obtain⟨⟨⟨xs,k1,r1⟩,f1⟩,f2⟩:=I k a f h1 O;have rr:cR K N l j M (e++replicate n .aN) (σ++replicate n none) X (.ref a) (.own f):=⟨a,xs,rfl,k1.1,f1,r1,k1.2,f2⟩;have Q0:=l2 _ _ rr;rw[hst]at Q0;obtain⟨a',a9,q0,q2,q3,q4,q5,q6⟩:=z2 _ _ Q0;cases q0;exact⟨⟨⟨a9,⟨q2,q5⟩,q4⟩,q3⟩,q6⟩
   refine k Da as N M z1 ⟨⟨by rw[hD,Z],q5⟩,q3⟩ ac C (λk a f h1 O=>(av k a f h1 O).1) λb hb=>?_;rcases mem_cons.mp hb with rfl|hb;.exact q6
   . obtain⟨k0,E⟩:=List.getElem?_of_mem hb;have al:k0<rows.length:=by rw[<-C];exact(fM E).1
     exact(av k0 b rows[k0] E (by simp[al])).2
section
variable{X:Cx}{c:Call}{nn n:Nat}{tg iter elt:Expr}{ps pe:P}{pos:Pos}{sts:List Stmt}{ss:List S}{scope:Scope}{N':List Str}
theorem Lq{i:Nat}{x:Str}{b f:Pos}{g:TG}{is:List Nat}{one:Bool}(hc:X.calm=true)(A:X.N.Nodup)(m:X.N[i]?=some x)(B:Loc X.env.scope x)(ok:gC X scope N' n)(hi:SI X c tg iter ps)(E:∀cl C s₀ H₀ ex,PG (uI X scope N' cl C s₀ H₀ ex) tg g)(r:pK X.K X.N.length is one g)(ht:∀cl C s₀ H₀ ex,SQ (uI X scope N' cl C s₀ H₀ ex) c [] none)(he:∀cl C s₀ H₀ ex,SX (uI X scope N' cl C s₀ H₀ ex) c elt pe)(G:SBT X c nn i sts ss)(t:swapsWith (.ListComp elt [⟨tg,iter,[],0⟩] scope pos) (some (.Name x b)) f.line X.env=pure true:=by rfl)(hs:∀x,foldedSetIterable iter X.env x=pure x:=by intro _;rfl)(J:X.fn x=true\/X.env.scope.names.lookup x=some .local:=by first|exact .inl rfl|exact .inr rfl|assumption):SB X c nn (.Assign [.Name x b] (.ListComp elt [⟨tg,iter,[],0⟩] scope pos) f::sts) (.Kz i ps n is one pe::ss):=by
 have h0:=Nj (tt:=GZ X.K (wN c none)) (te:=xW X.K (HH.ev c pe)) hc A m B ok hi E ht (λcl C s₀ H₀ ex=>(he cl C s₀ H₀ ex).ev) t hs J;refine λj s σ H D I q=>jf h0 G.p j s σ H D I ?_;have L:σ.length=X.N.length:=I.len;obtain⟨F,ρ,fl,u,M,e,kk⟩:=q;rw[Vb]at e;obtain⟨f1,O,a,e⟩:=aa e;rw[HH.X21]at a;obtain⟨Q,w,U,a⟩:=aa a;split at a;.rename_i k;obtain⟨rows,W,Y,a⟩:=aa a;obtain⟨Z,z,l,a⟩:=aa a;cases a;have zz:=aG l;clear l;obtain⟨l,_⟩:=zz;obtain⟨s1,h1,h2,rfl⟩:=vN l;refine(show uR n (tIt X.K (isVar ps) (HH.ev c ps)) g (GZ X.K (wN c none)) (xW X.K (HH.ev c pe)) σ H (λv H1=>j8 i v σ H1 (Zj X.K i (fO c nn ss) D))from Ka (c:=c) (ul:=bj ρ (isVar ps)) L r (λR h=>⟨F,ρ,Q,w,M,U,h⟩) k Y λq as F' H' s wq nd len row fr=>?_);exact⟨F,ρ,σ,H,F',_,q,as,rows,fl,u,NB.mk' s h1 h2 wq nd len row fr,e,λF2 y H2 s2=>kk F2 y H2 s2⟩
 .cases a
end
end HH
end
section
namespace HH
open PySem L2 PySem.Spec PyProof.Rows PySem.Calls PySem.W
variable{i:Nat}{x:Str}
section
variable{K:PySem.W.Frag}{F F1 H H1:Hp}{ρ ρ1 ρ2:List Sl}{σ σ1:L2.St}
theorem GS.adX{x:Nat}{kvs f:List (Int×D)}{a:Addr}{w:HO}(g:GS K F ρ σ H)(e:ρ[x]?=some (.cN kvs))(p:σ[x]?=some (some (.ref a)))(r:mq K F w (.v f)):az K F ρ σ H F (ρ.set x (.cN f)) σ (upd H a w):=by
 have hi:x<ρ.length:=(fM e).1;have y:aP ρ σ x a:=⟨⟨_,_,e,rfl⟩,p⟩;obtain⟨J,L,h1,M,z,N⟩:=g.own x _ _ e rfl;rw[p]at h1;cases h1;have h:∀{j:Nat}{c:Addr},aP (ρ.set x (.cN f)) σ j c->aP ρ σ j c:=λ{j c}⟨⟨t,dt,m,s⟩,q3⟩=>by
  by_cases b:j=x;.subst b;exact⟨⟨_,_,e,rfl⟩,q3⟩
  .rw[fU b]at m;exact⟨⟨t,dt,m,s⟩,q3⟩
 refine⟨⟨λc o q=>?_,by simp[g.len],λj b' d q=>?_,λj t dt q u=>?_,λj k c m s=>g.dis j k c (h m) (h s)⟩,.refl _,λc n B=>absurd n B,λc o q n=>?_,λc⟨j,q⟩=>.inl ⟨j,h q⟩,by simp,λj t q l=>⟨rfl,?_⟩⟩
 . have:c≠a:=by rintro rfl;rw[z]at q;cases q
   rw[aA this];exact g.sub c o q
 . by_cases b:j=x;.subst b;rw[getElem?_set_self hi]at q;cases q
   .rw[fU b]at q;exact g.val j b' d q
 . by_cases b:j=x;.subst b;rw[getElem?_set_self hi]at q;cases q;cases u;exact⟨a,_,p,aL,z,r⟩
   . rw[fU b]at q;obtain⟨c,C,A,E,G,I⟩:=g.own j t dt q u;have:c≠a:=by rintro rfl;exact b (g.dis j x c ⟨⟨t,dt,q,u⟩,A⟩ y)
     exact⟨c,C,A,by rw[aA this];exact E,G,I⟩
 . have:c≠a:=by rintro rfl;exact n ⟨x,y⟩
   rw[aA this];exact q
 . by_cases b:j=x;.subst b;rw[e]at q;cases q;cases l
   .exact⟨t,by rw[fU b];exact q,.refl t⟩
theorem GS.newV{kvs:List (Int×D)}{a:Addr}{z:HO}{s0:Sl}(g:GS K F ρ σ H)(e:ρ[i]?=some s0)(w:tL s0=false)(r:mq K F z (.v kvs))(p:H a=none):az K F ρ σ H F (ρ.set i (.cN kvs)) (σ.set i (some (.ref a))) (upd H a z):=by
 have hi:i<ρ.length:=(fM e).1;have s:i<σ.length:=by rw[<-g.len];exact hi
 have A:F a=none:=by cases q:F a with|none=>rfl|some o=>rw[g.sub a o q]at p;cases p
 have f:∀{j:Nat}{c:Addr},j≠i->aP (ρ.set i (.cN kvs)) (σ.set i (some (.ref a))) j c->aP ρ σ j c:=λ{j c}b⟨⟨t,ds,e1,e2⟩,e3⟩=>by rw[fU b]at e1 e3;exact⟨⟨t,ds,e1,e2⟩,e3⟩
 have new:∀{c:Addr},aP (ρ.set i (.cN kvs)) (σ.set i (some (.ref a))) i c->c=a:=λ{c}⟨_,e3⟩=>by rw[getElem?_set_self s]at e3;cases e3;rfl
 have no:∀{j:Nat},¬ aP ρ σ j a:=λ{j}⟨⟨t,ds,e1,e2⟩,e3⟩=>by obtain⟨c,o,h,m,_⟩:=g.own j t ds e1 e2;rw[e3]at h;cases h;rw[p]at m;cases m
 refine⟨⟨λc o q=>?_,by simp[g.len],λj b' d q=>?_,λj t dt q B=>?_,λj k c h m=>?_⟩,.refl _,λc n C=>absurd n C,λc o q n=>?_,λc⟨j,q⟩=>?_,by simp,λj t q l=>?_⟩
 . have:c≠a:=by rintro rfl;rw[A]at q;cases q
   rw[aA this];exact g.sub c o q
 . by_cases b:j=i;.subst b;rw[getElem?_set_self hi]at q;cases q
   .rw[fU b]at q ⊢;exact g.val j b' d q
 . by_cases b:j=i;.subst b;rw[getElem?_set_self hi]at q;cases q;cases B;exact⟨a,_,getElem?_set_self s,aL,A,r⟩
   . rw[fU b]at q ⊢;obtain⟨c,o,E,y,G,I⟩:=g.own j t dt q B;have:c≠a:=by rintro rfl;rw[p]at y;cases y
     exact⟨c,o,E,by rw[aA this];exact y,G,I⟩
 . by_cases b:j=i
   . by_cases u:k=i;.rw[b,u]
     .subst b;rw[new h]at m;exact absurd (f u m) no
   . by_cases u:k=i;.subst u;rw[new m]at h;exact absurd (f b h) no
     .exact g.dis j k c (f b h) (f u m)
 . have:c≠a:=by rintro rfl;rw[p]at q;cases q
   rw[aA this];exact q
 . by_cases b:j=i;.subst b;rw[new q];exact .inr p
   .exact .inl ⟨j,f b q⟩
 . have b:j≠i:=by rintro rfl;rw[e]at q;cases q;rw[w]at l;cases l
   exact⟨by rw[fU b],t,by rw[fU b];exact q,.refl t⟩
end
section
variable{X:Cx}{c:Call}{n:Nat}{a b e:Expr}{pa pb p:P}{pos:Pos}
theorem Di{f p2:Pos}(m:X.N.Nodup)(hi:X.N[i]?=some x)(o:Loc X.env.scope x)(hs:swapsWith (.Dict [] [] p2) (some (.Name x f)) pos.line X.env=pure false:=by rfl)(r:X.fn x=true\/X.env.scope.names.lookup x=some .local:=by first|exact .inl rfl|exact .inr rfl|assumption):SS X c n (.Assign [.Name x f] (.Dict [] [] p2) pos) (.Gh i):=by
 refine cP (oG m hi o xJ hs r) ?_;rintro D σ H⟨F,ρ,fl,h,g,e,k⟩;rw[HH.X25]at e;have go:∀s0,ρ[i]?=some s0->tL s0=false->fl=.next->h=ρ.set i (.cN [])->∀a,H a=none->D.nx (σ.set i (some (.ref a))) (upd H a (.dK [])):=λs0 q s j l a t=>by subst j l;exact k F _ _ (g.newV (kvs:=[]) q s (KR.oc .nil) t)
 split at e;.rename_i q;cases e;exact go _ q rfl rfl rfl
 .rename_i q;cases e;exact go _ q rfl rfl rfl
 .rename_i q;cases e;exact go _ q rfl rfl rfl
 .cases e
theorem p7{w f:Pos}{pk:P}(hu:X.A.units+8<cLine)(C:X.N[i]?=some x)(E:uX X.env.scope x)(G:SX X c a pk)(he:SX X c e p)(hs:swapsWith e (some (.Subscript (.Name x w) a f)) pos.line X.env=pure false:=by rfl)(hd:(x==("__debug__":Str))=false:=by decide)(m:(x==("__classdict__":Str))=false:=by decide):SS X c n (.Assign [.Subscript (.Name x w) a f] e pos) (.iz i pk p):=by
 obtain⟨ta,h1,I⟩:=G.cL;refine cP (Cv (by omega) (eX C E hd m) h1 he.ev hs) ?_;rintro D σ H⟨F,ρ,fl,J,g,e,k⟩;rw[HH.X27]at e;obtain⟨r,o,L,l⟩:=aa e;clear e;refine⟨F,ρ,r,o,g,L,λv F1 H1 s1 M=>?_⟩;obtain⟨F2,s2,_,O⟩:=s1.dB M;split at l
 . rename_i Q U;obtain⟨kd,W,Y,h⟩:=aa l;clear l;obtain⟨s,o0,t,w2,w3,w4⟩:=s2.gs.own i _ _ U rfl;refine⟨.ref s,t,I s2.gs Y λy Z H3 s3 py=>?_⟩;split at h
   . rename_i kvs j q;split at h;.rename_i hl;cases h;obtain⟨a1,o1,z,y2,y3,y4⟩:=s3.gs.own i _ _ q rfl;rw[t]at z;cases z;obtain⟨es,rfl,B⟩:=KR.Uv y4;have u:=B.put (k:=j) (O.mono s3.cZ);refine⟨s,upd H3 s (.dK (putK es (Sum.inl j:Key) v)),rfl,?_,k Z σ _ ((s2.trans s3).trans (s3.gs.adX q t u.oc))⟩;rw[py.int];exact .inl ⟨es,Sum.inl j,y2,rfl,by rw[B.len,sizeLine_eq];exact hl,rfl⟩
     .cases h
   .cases h
 .cases l
theorem zE{y:Pos}{pk:P}(hu:X.A.units+8<cLine)(z:X.N[i]?=some x)(B:uX X.env.scope x)(C:SX X c a pk)(hs:Oj a)(hd:(x==("__debug__":Str))=false:=by decide)(l:(x==("__classdict__":Str))=false:=by decide):SX X c (.Subscript (.Name x y) a pos) (.QV i pk):=by
 obtain⟨ta,h1,E⟩:=C.cL;refine⟨du (Nk (by omega) (eX z B hd l) h1 hs) ?_,λi h=>by cases h⟩;rintro σ H Q⟨F,ρ,r,G,g,e,k⟩;rw[HH.E23]at e;split at e
 . rename_i I q;obtain⟨kd,J,L,f⟩:=aa e;clear e;obtain⟨m,o0,o,w2,w3,w4⟩:=g.own i _ _ q rfl;refine⟨.ref m,o,E g L λv F1 M s1 s=>?_⟩;split at f;.rename_i kvs O;obtain⟨t,U⟩:=aG f;clear f;subst U;obtain⟨j,W,Y⟩:=bW t;clear t;obtain⟨d,Z,e6⟩:=map_some Y;subst e6;rw[cT W]at s;obtain⟨a1,o1,u,y2,y3,y4⟩:=s1.gs.own i _ _ O rfl;rw[o]at u;cases u;obtain⟨es,rfl,kr⟩:=KR.Uv y4;obtain⟨w,g1,g2⟩:=kr.get Z;rw[s.int];exact⟨m,w,rfl,.inl ⟨es,Sum.inl j,.inl y2,rfl,g1.symm⟩,k w F1 M s1 (show Rep X.K F1 _ _ from g2)⟩
   .cases f
 .cases e
theorem Va{G:Pos}{pk:P}{neg:Bool}{op:CmpOp}(t:(op=.In/\neg=false)\/(op=.NotIn/\neg=true))(hu:X.A.units+8<cLine)(w:X.N[i]?=some x)(z:uX X.env.scope x)(J:SX X c a pk)(hd:(x==("__debug__":Str))=false:=by decide)(m:(x==("__classdict__":Str))=false:=by decide):PC X op a (.Name x G) (xW X.K (HH.ev c (.QW i pk neg))):=by
 obtain⟨L,h1,M⟩:=J.cL;have l:∀{σ:L2.St}{H:Hp}{Q:VK},xW X.K (HH.ev c (.QW i pk neg)) σ H Q->L σ H λy u=>Uw i σ u λx B=>∃a o,x=.ref a/\o4 B a y o/\Q (.bl (if neg then !o.isSome else o.isSome)) B:=λ{σ H Q}⟨F,ρ,r,ρ',g,e,k⟩=>by
  rw[HH.E24]at e;obtain⟨kd,O,U,q⟩:=aa e;clear e;refine M g U λv F1 u s1 C=>?_;split at q;.rename_i kvs W;obtain⟨Y,Z⟩:=aG q;clear q;subst Z;obtain⟨j,e4,e5⟩:=map_some Y;subst e5;rw[cT e4]at C;obtain⟨E,o1,y1,y2,y3,y4⟩:=s1.gs.own i _ _ W rfl;obtain⟨es,rfl,kr⟩:=KR.Uv y4;rw[C.int];refine⟨.ref E,y1,E,_,rfl,.inl ⟨es,Sum.inl j,.inl y2,rfl,rfl⟩,?_⟩;rw[kr.has j];exact k _ F1 u s1 (show Rep X.K F1 _ _ from gH _)
  .cases q
 rcases t with⟨rfl,rfl⟩|⟨rfl,rfl⟩;.exact λf s σ H Q I h=>Uh (by omega) h1 (eX w z hd m) f s σ H Q I (l h)
 .exact λf s σ H Q I h=>Eh (by omega) h1 (eX w z hd m) f s σ H Q I (l h)
end
theorem pM{P:Program}{w:World}:∀{ks:List Int}{es:List (Key×V)}{vs:List (Key×Value)}{a:List Value},es.map (·.1)=ks.map (Sum.inl:Int->Key)->KV es vs->a.length=vs.length->(∀(j:Nat)(v:Value),a[j]?=some v->∃(k:Key)(x:Value),vs[j]?=some (k,x)/\(aW P w).is k v=true)->IntsAre a ks
 |[],es,_,a,he,r,h,_=>by cases es with
   |nil=>cases r;cases a with|nil=>exact .nil|cons _ _=>simp at h
   |cons _ _=>simp at he
 |i::ks,es,_,a,he,r,h,k=>by cases es with|nil=>simp at he|cons p es=>cases r with|@cons _ q _ _ r t=>rw[map_cons,map_cons]at he;cases a with|nil=>simp at h|cons v a=>
         obtain⟨f,x,c,g⟩:=k 0 v rfl;simp at c;have l:f=Sum.inl i:=by have z:=r.1;rw[c]at z;rw[<-(List.cons.inj he).1];exact z.symm
         subst l;obtain⟨m,tk,b,rfl⟩|⟨_,_,b,_⟩:=bB (show pC (Sum.inl i) v=true from g);.cases b;exact .cons _ tk (pM (List.cons.inj he).2 t (by simpa using h) λj v e=>k (j+1) v (by simpa using e))
         .cases b
section
variable{X:Cx}{c:Call}{n:Nat}{a b e:Expr}{pa pb p:P}{pos:Pos}
theorem XQ(hc:X.calm=true):dU X (.type "list") (Qj X.K λx=>blt .Xk [x]):=by rintro m s σ H xs Y Q I r⟨x,z,F,d,A,sm,B,he,k⟩;cases d with|dv ks Z=>
   obtain⟨C,he⟩:=aY (show(if ks.length<=16777216 then some (R.own (ks.map D.int))else none)=some A from he);subst he;obtain⟨q,E,g,rfl,G,J,L⟩:=B.dv sm;subst z;obtain⟨u,rfl,M⟩:=r.one;cases M;obtain⟨ho,hz,N,vs,t,dd⟩:=(show bw X.prog X.w H s.heap q (.dB E (.dK (ent ks g)))from I.hok q _ G);obtain⟨ep,dd⟩:=dd.dictAt;have y:=tE (ks:=ks) (vs:=g) (by rw[J.length];exact L);have l:vs.length=ks.length:=by rw[<-Paired.length t];have:=congrArg List.length y;simpa using this
   refine kdl_call (kdl_dict (knd:=aW X.prog X.w) (kvs:=vs) (ep:=ep) N) (I.ok.hd hc) dd (by rw[l,sizeLine_eq];omega) λh' tk h O kp U f=>?_;have W:IntsAre h.toList ks:=pM (P:=X.prog) (w:=X.w) y t (by rw[length_toList];exact f.1) λj v e=>f.2 j v (by rw[<-Array.getElem?_toList];exact e);refine⟨.ref s.heap.objs.size,_,I.laid (t':=tk) (o:=.lst (ks.map V.int)) (h':=h') kp (eY) ⟨by rw[length_map,sizeLine_eq];omega,h.toList,O,nD W,by rw[Array.toArray_toList];exact U⟩,rfl,?_⟩;exact Ab sm (uJ ks) (I.hok.fresh (eY)) k|_=>cases he
theorem HS{p':Pos}(f:x="list")(hc:X.calm=true)(g:Gl X x)(j:X.mg x=none)(k:SX X c a pa)(hs:starEach [a] X.env=(false,eval a X.env)::starEach [] X.env:=by rfl):SX X c (.Call (.Name x p') [a] [] pos) (.blt .Xk [pa]):=by subst f;exact sU (λh=>o6 (XQ hc) g j (by decide+kernel) h (he:=hs)) k (λρ=>rfl) rfl hs
theorem MK{neg:Bool}{op:CmpOp}(f:(op=.In/\neg=false)\/(op=.NotIn/\neg=true))(L:X.A.units+8<cLine):iH X (compareOp op) (rD X.K (xx neg)):=by rintro m s σ H x y v u Q I h t⟨F,d,e,r,sm,w,z,he,k⟩;cases d with
 |int j=>cases e with|dv ks M=>
     cases he;obtain⟨q,B,vs,rfl,C,E,G⟩:=z.dv sm;have J:=KR.zip E G;rw[w.int]at h;obtain rfl:u=Value.ref q:=t;have g:o4 H q (.int j) (jR (ent ks vs) (Sum.inl j:Key)):=.inl ⟨_,Sum.inl j,.inr ⟨B,C⟩,rfl,rfl⟩;have o:(jR (ent ks vs) (Sum.inl j:Key)).isSome=ks.contains j:=by rw[J.has j];congr 1;rw[List.map_fst_zip (by omega)]
     rcases f with⟨rfl,rfl⟩|⟨rfl,rfl⟩;.refine Yo (by omega) I g h λs3 l=>⟨.bl (jR (ent ks vs) (Sum.inl j:Key)).isSome,H,l,rfl,?_⟩;rw[o];exact cB.cY sm (gH _) k
     .refine Dv (by omega) I g h λs3 l=>⟨.bl (!(jR (ent ks vs) (Sum.inl j:Key)).isSome),H,l,rfl,?_⟩;rw[o];exact cB.cY sm (gH _) k|_=>cases he
 |_=>cases he
end
end HH
end
section
namespace PySem
section
variable{prog:Program}{w:World}{A:Around}{E:Value->Shared->Prop}{s:Shared}
theorem vG{Q:List Value->Shared->Prop}{I l:Addr}{items:Array Value}(t:A.handled=none)(f:s.heap.IsRevIter I l ((items.size:Int)-1))(n:s.heap.IsList l items)(k:l≠I)(g:items.size<=2^24)(u:∀h' tk c,(∀b o,b≠I->s.heap.get? b=some o->h'.get? b=some o)->s.heap.objs.size<h'.objs.size->ItemsOf (λi v=>items[items.size-1-i]?=some v) c items.size->Q c.toList {s with heap:=h',toks:=tk}):
 wpAny (model prog w) A (collect (.ref I)) Q E s:=by have h:I<s.heap.objs.size:=let⟨_,ho,_⟩:=f;lt_size ho;have m:l<s.heap.objs.size:=let⟨_,ho,_⟩:=n;lt_size ho;unfold collect;refine wpAny_bind (wpAny_runValue (codeAny_builtin F.entry_proto_collect ?_));rw[Around.under_plainId F.plain_proto_collect _];show wpAny _ A.in1 (newList []>>=λl=>again (.builtin "list.__iadd__" ⟨[l,.ref I],[]⟩)) _ _ s;refine wpAny_bind (wpAny_newObj_type ?_);refine wpAny_pure ⟨plainId_quiet F.plain_list_iadd _,codeAny_builtin F.entry_list_iadd ?_⟩;rw[Around.under_plainId F.plain_list_iadd _];show wpAny _ A.in1 (listExtendWith (.ref s.heap.objs.size) (.ref I) (.ref s.heap.objs.size)) _ _ _;refine m7 (A:=A) (R:=λr p=>match r with
  |.ok (.ret v)=>wpAny (model prog w) A (match v with
   |.ref a=>do let o<-load a match o.data with|.seq xs _=>pure xs.toList|_=>unsupported "internal:collect"
   |_=>unsupported "internal:collect") Q E p|.ok _=>False|.error e=>E e p) (s:={s with heap:=s.heap.push {cls:=.type "list",data:=.seq #[]}}) t (f.at λo e=>iK e) (n.at λo e=>iK e) k g s.heap.objs.size (Ne.symm (ne_of_lt h)) (Ne.symm (ne_of_lt m)) _ 0 (get?_push_size _ rfl) λh' tk c z x q j=>?_;refine wpAny_bind (wpAny_load q ?_);exact wpAny_pure (u h' tk c (λb o y e=>x b o (ne_of_lt (lt_size e)) y (iK e)) (lt_size q) j)
end
theorem kh(I l:Addr)(items:Array Value)(i:l≠I)(hsz:items.size<=2^24):Meets (Builtin.«tuple.__new__» ⟨[.type "tuple",.ref I],[]⟩) (λA R s=>A.handled=none/\s.heap.IsRevIter I l ((items.size:Int)-1)/\s.heap.IsList l items/\∀(h':Heap)(tk:Nat),(∀b o,b≠I->s.heap.get? b=some o->h'.get? b=some o)->s.heap.objs.size<h'.objs.size->∀a:Array Value,a=items.reverse->R (.ok (.ret (.ref h'.objs.size))) {s with heap:=h'.push {cls:=.type "tuple",data:=.seq a},toks:=tk}):=.of_wp λprog w A R s h=>by
  obtain⟨q,f,r,h⟩:=h;have p:=sub_tuple_self;have k:=init_tuple_lookup;have t:=madeHere_tuple;have u:Shared.TypeIs s (.ref I) "list_reverseiterator":=f.typeIs;obtain⟨o,ho,hc,hd⟩:=id f;obtain⟨B,g,d,tk,os⟩:=s;wp_walk using AutoSeq1.wpAny_loadPart' ho,wpAny_typeOf u,vG (A:=A.in1) q f r i hsz;intro h' m a x n c;show wpAny _ _ (tupleExact a.toList.toArray>>=λv=>ret v) _ _ _;have e:a.toList.toArray=a:=by simp
  have y:a=items.reverse:=by refine Array.ext (by rw[c.1,Array.size_reverse]) λj h1 C=>?_;have:=c.2 j _ (Array.getElem?_eq_getElem h1);rw[Array.getElem_reverse];have z:=Array.getElem?_eq_some_iff.mp this;exact z.2.symm
  rw[e];unfold tupleExact;refine wpAny_bind (wpAny_newObj_type ?_ (by show a.size<=sizeLine;rw[c.1,sizeLine_eq];omega));exact wpAny_pure ⟨_,rfl,h h' m x n a y⟩
section
variable{prog:Program}{w:World}{A:Around}{E:Value->Shared->Prop}{s:Shared}
theorem pQ{I l:Addr}{items:Array Value}{Q:Value->Shared->Prop}(g:A.handled=none)(a:s.heap.IsRevIter I l ((items.size:Int)-1))(i:s.heap.IsList l items)(c:l≠I)(hsz:items.size<=2^24)(h:∀(h':Heap)(tk:Nat),(∀b o,b≠I->s.heap.get? b=some o->h'.get? b=some o)->s.heap.objs.size<h'.objs.size->Q (.ref h'.objs.size) {s with heap:=h'.push {cls:=.type "tuple",data:=.seq items.reverse},toks:=tk}):wpAny (model prog w) A (call (.type "tuple") [.ref I]) Q E s:=callType_new F.called_tuple (by decide) (F.typeCall_tuple_1 _) (F.newCall_tuple_1 _) (λobj=>F.args_object_init_2 obj _) F.entry_tuple_new (kh I l items c hsz) ⟨g,a,i,λh' tk j f k e=>by subst e;exact⟨⟨_,get?_push_size _ rfl,rfl⟩,h h' tk j f⟩⟩
end
end PySem
namespace L2
open PySem PySem.Spec PyProof.Rows
section
variable{X:Cx}{pins:List (Addr×Obj)}{σ:St}{H:Hp}{s:Shared}{E:Value->Shared->Prop}
theorem zX{a:Expr}{B:TE}{p pos p2 g:Pos}(hc:X.calm=true)(n:Gl X "tuple")(t:X.mg "tuple"=none)(J:Gl X "reversed")(L:X.mg "reversed"=none)(M:PE X a B)(hs:starEach [a] X.env=[(false,eval a X.env)]:=by rfl)(i:starEach [.Call (.Name "reversed" p) [a] [] pos] X.env=[(false,eval (.Call (.Name "reversed" p) [a] [] pos) X.env)]:=by rfl):PE X (.Call (.Name "tuple" p2) [.Call (.Name "reversed" p) [a] [] pos] [] g) (λσ H Q=>B σ H λx f=>∃ad xs,x=.ref ad/\gJ X.K f ad xs/\∀l,f l=none->Q (.ref l) (upd f l (.tup xs.reverse))):=by
 intro pins s σ H Q I h;refine Call_ (mz I n t yH (PyProof.Rows.callWith_type1 ?_ i rfl));rw[i];show wpAny _ _ (spliced ((false,eval (.Call (.Name "reversed" p) [a] [] pos) X.env)::[])) _ _ _;refine Calls.spliced_cons (Call_ (mz I J L rC (PyProof.Rows.callWith_type1 (bV ((bD M dO hs) pos pins s σ H (λvs f=>match vs with|[x]=>∃ad xs,x=.ref ad/\gJ X.K f ad xs/\∀l,f l=none->Q (.ref l) (upd f l (.tup xs.reverse))|_=>False) I h) ?_) hs rfl)));rintro Y s1⟨vs,f,m,r1,v⟩;obtain⟨ad,xs,N,q,w⟩:∃ad xs,gJ X.K f ad xs/\(∀l,f l=none->Q (.ref l) (upd f l (.tup xs.reverse)))/\vs=[.ref ad]:=by cases vs with|nil=>cases v|cons x r=>cases r with|nil=>obtain⟨ad,xs,rfl,q,O⟩:=v;exact⟨ad,xs,q,O,rfl⟩|cons _ _=>cases v
 subst w;obtain⟨u,rfl,U⟩:=r1.one;cases U;obtain⟨c,C,y,hz⟩:=m.list N;have hsz:c.toArray.size=xs.length:=by rw[size_toArray,<-C.length]
 refine call_reversed_list y.isList (Calls.spliced_nil ?_);have z:ad≠s1.heap.objs.size:=ne_of_lt (let⟨_,ho,_⟩:=y.isList;lt_size ho);have A:(s1.heap.push (revObj ad ((c.toArray.size:Int)-1))).IsList ad c.toArray:=y.isList.at λo e=>iK e;refine pQ (m.ok.hd hc) (I:=s1.heap.objs.size) (l:=ad) (items:=c.toArray) ⟨_,get?_push_size _ rfl,rfl,rfl⟩ A z (by rw[hsz];exact le_trans hz (by decide)) λh' tk G j=>?_;have k:(s1.heap.push (revObj ad ((c.toArray.size:Int)-1))).objs.size=s1.heap.objs.size+1:=size_push ..;dsimp only at G j ⊢;rw[k]at j;have W:c.toArray.reverse=c.reverse.toArray:=by simp
 rw[W];refine⟨.ref h'.objs.size,_,m.laid (t':=tk) (o:=.tup xs.reverse) (h':=h'.push {cls:=.type "tuple",data:=.seq c.reverse.toArray}) (λb o e=>iK (G b o (ne_of_lt (lt_size e)) (iK e))) (by omega) ?_,rfl,q _ (m.hok.fresh (by omega))⟩;exact⟨by rw[List.length_reverse];exact hz,_,C.reverse,IsTup.new _ _⟩
end
end L2
namespace HH
open PySem L2 PySem.Spec PyProof.Rows
section
variable{X:Cx}{c:Call}{a:Expr}{pa:P}{pos:Pos}
theorem Ai{x y:Str}{p' o b:Pos}(p:y="tuple")(q:x="reversed")(hc:X.calm=true)(j:Gl X y)(m:X.mg y=none)(t:Gl X x)(u:X.mg x=none)(w:SX X c a pa)(hs:starEach [a] X.env=[(false,eval a X.env)]:=by rfl)(n:starEach [.Call (.Name x p') [a] [] pos] X.env=[(false,eval (.Call (.Name x p') [a] [] pos) X.env)]:=by rfl):SX X c (.Call (.Name y o) [.Call (.Name x p') [a] [] pos] [] b) (.blt .rvT [pa]):=by subst q p;obtain⟨Y,h1,z⟩:=w.cL;refine⟨du (zX hc j m t u h1 hs n) ?_,λi h=>by cases h⟩;rintro σ H Q⟨F,ρ,r,A,g,e,k⟩;rw[HH.E15]at e;obtain⟨d,B,C,f⟩:=aa e;have E:=aG f;clear f;obtain⟨f,G⟩:=E;subst G;cases d with|lst Z=>cases f;refine z g C ?_;rintro v F' H' s I;obtain⟨ad,xs,rfl,J,L⟩:=I.lst s.gs.sub;exact⟨ad,xs,rfl,J,λl M=>Ea s.gs.sub (aF.rev L) M λv N O U W=>k v N O (s.trans (U.stp s.gs)) (.later s (W.qU s.gs))⟩|_=>cases f
end
end HH
end
section
namespace L2
open PySem PySem.Spec PyProof.Rows PySem.Calls
section
variable{X:Cx}
theorem JQ:Zr X (ZZ X.K):=by
 intro a s σ H x y v u Q I g k h;obtain⟨p,xs,i,z,rfl,rfl,l,he,q⟩:=h;cases g;obtain⟨t,rfl⟩:=k;obtain⟨b,r,e,hz⟩:=I.list l;obtain⟨j,h1,m,C,n,o⟩:=vH he;obtain⟨w,f,A⟩:=r.get m;have B:=r.length;have E:=rR;have fin:EP X a σ Q w s:=⟨z,H,I,A,q⟩;by_cases h0:0<=i
 . have c:i.toNat=j:=by rw[seqIndex_of h0 o]at h1;exact Option.some.inj h1
   exact wpAny_getItem_list e.isList h0 (by omega) (by rw[c];simpa using f) fin
 . have c:(i+(b.toArray.size:Int)).toNat=j:=by rw[seqIndex_neg (by omega) n]at h1;rw[size_toArray,<-B];exact Option.some.inj h1
   exact wpAny_getItem_list_neg e.isList (by omega) (by rw[size_toArray]<;>omega) (by omega) (by rw[c];simpa using f) fin
end
end L2
namespace HH
open PySem L2 PySem.Spec PyProof.Rows PySem.Calls PySem.W
section
variable{X:Cx}{c:Call}{n:Nat}{a b e:Expr}{pa pb p:P}{pos:Pos}
set_option maxHeartbeats 800000 in
theorem Ce{k e:Int}{t1 t2 p1 p2 p3}:SX X c (.Dict [some (.Constant (.int k) t1 p1)] [.Constant (.int e) t2 p2] p3) (.Be k e):=by
 refine⟨?_,λi h=>by cases h⟩;intro f s σ H Q I h;obtain⟨F,ρ,r,x,g,m,kk⟩:=h;rw[HH.E25]at m;cases m;have y:oW [] [((Sum.inl k:Key),V.int e)]=ent [k] [.int e]:=rfl;have A:=Dt (X:=X) (pos:=p3) (xn (sO (i:=k) (j:=t1) (pos:=p1)) (sO (i:=e) (j:=t2) (pos:=p2)) By) rfl rfl (by simp) (by simp);refine bV (A f s σ H (λv B=>∃q,v=.ref q/\H q=none/\B=upd H q (Bl [k] [.int e])) I ?_) λu s1⟨v,H1,I1,r1,q,e1,hn,e2⟩=>?_;.intro q C;refine⟨aL,[(Sum.inl k,.int e)],rfl,by simp,q,rfl,C,?_⟩;rw[wA,y];rfl
 subst e1 e2;obtain⟨o,t⟩:=Inv.JT I1 (a:=q) (kvs:=ent [k] [.int e]) aL;rw[wA]at t;have E:F q=none:=by cases z:F q with|none=>rfl|some o=>rw[g.sub q o z]at hn;cases hn
 have sm:aJ F (upd F q (.dB o (Bl [k] [.int e]))):=aJ.cA E;refine⟨.ref q,_,t,r1,kk _ (upd F q (.dB o (Bl [k] [.int e]))) _ (Ext.stp g ⟨aJ.cA hn,sm,λb o e=>?_,λb n w=>?_⟩) ?_⟩
 . by_cases l:b=q;.subst l;rw[aL]at e ⊢;exact e
   .rw[aA l]at e ⊢;exact g.sub b o e
 . by_cases l:b=q;.subst l;exact lH hn
   .rw[aA l]at w;exact absurd n w
 .show Rep X.K _ _ (.dv [k] [.int e]);rw[Rep];exact⟨q,o,[.int e],rfl,aL,.cons (bU _) .nil,rfl⟩
theorem qe{x:Str}{k:Nat}{px m:Pos}{op:Operator}{sub:Bool}(ho:QM X op (WM λi j=>if sub then i-j else i+j))(hN:X.N[k]?=some x)(hv:uX X.env.scope x)(hi:SX X c b pb)(he:SX X c e p)(ha:∀y iv new,augStore b y iv new=(do holding [new,y,iv] (setItem y iv new);release [new,y,iv] [];pure .next):=by intros;rfl)(hd:(x==("__debug__":Str))=false:=by decide)(C:(x==("__classdict__":Str))=false:=by decide):SS X c n (.AugAssign (.Subscript (.Name x px) b m) op e pos) (.Kv k pb sub p):=by
 obtain⟨ti,E,G⟩:=hi.cL;obtain⟨te,I,J⟩:=he.cL;refine cP (Mh (eX hN hv hd C) E JQ I ho set_list ha) ?_;rintro D σ H⟨F,ρ,fl,ac,g,e,kk⟩;rw[HH.X16]at e;obtain⟨x0,ae,o,Y⟩:=aa e;clear e;obtain⟨e0,Gi⟩:=aG o;clear o;subst Gi;obtain⟨dk,L,e1,Z⟩:=aa Y;clear Y;obtain⟨l,af,f,eC⟩:=aa Z;clear Z;obtain⟨A,M⟩:=aG f;clear f;subst M;obtain⟨ra,ag,r,eD⟩:=aa eC;clear eC;obtain⟨e3,O⟩:=aG r;clear r;subst O;obtain⟨db,ah,e4,s⟩:=aa eD;clear eD;obtain⟨Q,Vb,h,_⟩:=CW g e0;refine⟨.ref Q,h,G g e1 λvi F1 H1 s1 pi=>?_⟩;split at s
 . rename_i u v bb ds kz q;split at s
   . rename_i j hj;cases s;obtain⟨B,f3,f5⟩:=bW e3;have U:B=kz:=by cases f3;rfl
     subst U;have f:pk L k=some (.lst l):=by
      unfold Gu at A;split at A;.rename_i z;cases A;exact z
      .cases A
     obtain⟨o',t,po⟩:=s1.gs.pk f;rw[h]at t;cases t;obtain⟨ad,xs,hr,hL,rs⟩:=po.lst s1.gs.sub;cases hr;obtain⟨j0,h1,h2⟩:=Im f5;obtain⟨w,h3,h4⟩:=rs.get h2;have W:Jz xs B=some w:=by unfold Jz;rw[rs.length,h1];exact h3
     have hw:w=.int u:=by rw[Rep]at h4;exact h4
     subst hw;refine⟨Q,xs,B,.int u,rfl,pi.int,hL,W,J s1.gs e4 λvb F2 H2 s2 pb=>⟨u,v,rfl,pb.int,?_⟩⟩;obtain⟨ai,zs,z1,z2,z3,z4⟩:=s2.gs.ud k _ ds q rfl;rw[h]at z1;cases z1;refine⟨Q,zs,B,j,rfl,pi.int,z2,by rw[z4.length];exact hj,?_⟩;exact kk F2 σ _ ((s1.trans s2).trans (s2.gs.mut q h (z4.set (bU _) j)))
   .cases s
 .cases s
end
section
variable{X:Cx}{c:Call}{n:Nat}{a b e:Expr}{pa pb p:P}{pos:Pos}
theorem Np{neg:Bool}{o:Op}{op:CmpOp}(h:(op=.In/\neg=false)\/(op=.NotIn/\neg=true))(j:tR o=xx neg)(l:X.A.units+8<cLine)(m:SX X c a pa)(y:SX X c b pb)(B:behindInMarks op b=false):ST X c (.Compare a [op] [b] pos) (.bin o pa pb):=by obtain⟨C,tb,h1,E,G⟩:=m.kj y;refine xq (DK (MK h l) h1 E B) λσ H Q q=>o8 (t:=TQ (rD X.K (xx neg)) C tb) (λQ z=>?_) q;obtain⟨F,ρ,r,I,g,e,k⟩:=z;rw[HH.E3]at e;obtain⟨i,J,L,f⟩:=aa e;have M:=aG f;clear f;obtain⟨f,N⟩:=M;subst N;rw[j]at f;refine G g L λv u O H' s U W=>⟨O,i.1,i.2,r,s.gs.sub,U,W,f,λw Y Z x rn=>?_⟩;exact k w Y Z (s.trans (x.stp s.gs)) (.later s (rn.qU s.gs))
theorem Ry(f:X.A.units+8<cLine)(g:SX X c a pa)(h:SX X c b pb)(i:behindInMarks .In b=false):ST X c (.Compare a [.In] [b] pos) (.bin .din pa pb):=Np (.inl ⟨rfl,rfl⟩) rfl f g h i
theorem R1{i:Nat}{x:Str}{h:Pos}{pk:P}{neg:Bool}{op:CmpOp}(f:(op=.In/\neg=false)\/(op=.NotIn/\neg=true))(j:X.A.units+8<cLine)(k:X.N[i]?=some x)(l:uX X.env.scope x)(m:SX X c a pk)(o:behindInMarks op (.Name x h)=false)(hd:(x==("__debug__":Str))=false:=by decide)(g:(x==("__classdict__":Str))=false:=by decide):ST X c (.Compare a [op] [.Name x h] pos) (.QW i pk neg):=xq (Us (Va f j k l m hd g) o) λσ H Q q=>o8 (λ_ z=>z) q
end
end HH
end
section
namespace HH
open PySem L2 PySem.Spec PyProof.Rows
section
variable{X:Cx}{c:Call}{n:Nat}{pos:Pos}
def acS(k e:Int):TE:=λ_ H Q=>∀p,H p=none->Q (.ref p) (upd H p (.dK [(Sum.inl k,.int e)]))
theorem Vm{k e:Int}{t1 t2 p1 p2 p3}:PE X (.Dict [some (.Constant (.int k) t1 p1)] [.Constant (.int e) t2 p2] p3) (acS k e):=by refine du (Dt (X:=X) (pos:=p3) (xn (sO (i:=k) (j:=t1) (pos:=p1)) (sO (i:=e) (j:=t2) (pos:=p2)) By) rfl rfl (by simp) (by simp)) ?_;intro σ H Q h q a;refine⟨aL,[(Sum.inl k,.int e)],rfl,by simp,?_⟩;rw[wA];exact h q a
set_option maxHeartbeats 1000000 in
theorem M5{i:Nat}{x:Str}{k e:Int}{t1 t2 p1 p2 p3}{b:Pos}(m:X.N.Nodup)(hi:X.N[i]?=some x)(o:Loc X.env.scope x)(hs:swapsWith (.Dict [some (.Constant (.int k) t1 p1)] [.Constant (.int e) t2 p2] p3) (some (.Name x b)) pos.line X.env=pure false:=by rfl)(p:X.fn x=true\/X.env.scope.names.lookup x=some .local:=by first|exact .inl rfl|exact .inr rfl|assumption):SS X c n (.Assign [.Name x b] (.Dict [some (.Constant (.int k) t1 p1)] [.Constant (.int e) t2 p2] p3) pos) (.O5 i k e):=by
 have h0:=oG m hi o (Vm (X:=X) (k:=k) (e:=e) (t1:=t1) (t2:=t2) (p1:=p1) (p2:=p2) (p3:=p3)) hs p;show PS X _ _;refine cP h0 ?_;rintro D σ H⟨F,ρ,fl,h,g,f,kk⟩;rw[HH.X26]at f;have go:∀s0,ρ[i]?=some s0->tL s0=false->fl=.next->h=ρ.set i (.cN [(k,.int e)])->∀a,H a=none->D.nx (σ.set i (some (.ref a))) (upd H a (.dK [(Sum.inl k,.int e)])):=λs0 q r j l a s=>by subst j l;exact kk F _ _ (g.newV (kvs:=[(k,.int e)]) q r (KR.oc (.cons (bU _) .nil)) s)
 split at f;.rename_i q;cases f;exact go _ q rfl rfl rfl
 .rename_i q;cases f;exact go _ q rfl rfl rfl
 .rename_i q;cases f;exact go _ q rfl rfl rfl
 .cases f
end
end HH
end
section
namespace L2
open PySem PySem.Spec PyProof.Rows
noncomputable def dj(X:Cx)(e:Addr)(a:Obj):Cx:={X with pn:=X.pn++[(e,a)]}
section
variable{X:Cx}{pins:List (Addr×Obj)}{σ:St}{H:Hp}{s:Shared}{e:Addr}{oe:Obj}
theorem S9:X.Ok->(dj X e oe).Ok:=λo=>⟨o.mod,o.kind,o.glob,o.blt,o.above,o.inj,o.has,o.cab,o.hd,o.frames,o.OJ,o.Vy,o.bs,o.Gb,o.ue,o.wX,o.lO,o.Ks⟩
theorem lA(o:X.Ok)(I:Inv (pF X e oe) pins σ H s):Inv (dj X e oe) pins σ H s:=⟨S9 o,I.os,I.bare,I.base,I.loc,I.cell,I.free,I.fV,I.pin,I.hok,I.len⟩
theorem qi(o:X.Ok)(I:Inv (dj X e oe) pins σ H s):Inv X pins σ H s:=⟨o,I.os,I.bare,I.base,I.loc,I.cell,I.free,I.fV,λp a=>I.pin p (by
  show p∈(X.pn++[(e,oe)])++pins;rcases mem_append.mp a with z|z;.exact mem_append_left _ (mem_append_left _ z)
  .exact mem_append_right _ z),I.hok,I.len⟩
theorem TV{D:Ends}{f:Flow}(o:X.Ok)(h:SP (dj X e oe) pins D f s):SP X pins D f s:=by cases f with|next=>obtain⟨a,b,c,d⟩:=h;exact⟨a,b,qi o c,d⟩|brk=>obtain⟨a,b,c,d⟩:=h;exact⟨a,b,qi o c,d⟩|cont=>obtain⟨a,b,c,d⟩:=h;exact⟨a,b,qi o c,d⟩|ret u=>obtain⟨a,b,c,d,y⟩:=h;exact⟨a,b,c,qi o d,y⟩
end
section
variable{X:Cx}{e C:Addr}{oe:Obj}
theorem Ko{a:List (Addr×Obj)}{σ:St}{H:Hp}{s:Shared}(b:OE oe C)(I:Inv (dj X e oe) a σ H s):PySem.W.InstAt s.heap e oe C none:=by
 have h:=(I.pin (e,oe) (mem_append_left _ (mem_append_right _ (mem_singleton.mpr rfl)))).1;refine⟨h,b.cls,?_,?_⟩;.obtain⟨vs,z⟩:=b.data;unfold PySem.W.notCls;rw[z]
 .rw[b.dict];trivial
theorem Vk{c:V}{a:Value}{b:Bool}(g:OE oe C)(Z:Ik X.K C)(hc:∀u,RelV c u->u=a)(h:kitOne X.K (.ref C) a=some b):dU (dj X e oe) (.builtin "isinstance") (λxs H Q=>xs=[.ref e,c]/\Q (.bl b) H):=by rintro f s σ H xs k Q I r⟨i,q⟩;subst i;obtain⟨u,l,rfl,j,rt⟩:=r.two;cases(show u=Value.ref e from j);cases hc _ rt;exact kia_one (yc Z) I.MP (Ko g I) h nofun λtk=>⟨.bl _,H,I.tok tk,rfl,q⟩
theorem Mj{cs:List V}{f:List Value}{b:Bool}(h:OE oe C)(Z:Ik X.K C)(hc:∀c,Vals cs c->c=f)(i:kitAny X.K (.ref C) f=some b):dU (dj X e oe) (.builtin "isinstance") (λxs H Q=>∃q,xs=[.ref e,.ref q]/\H q=some (.tup cs)/\Q (.bl b) H):=by rintro g s σ H xs c Q I r⟨q,j,l,k⟩;subst j;obtain⟨u,m,rfl,o,rt⟩:=r.two;cases(show u=Value.ref e from o);cases(show m=Value.ref q from rt);obtain⟨_,p,t,⟨⟨cls,dd,data,sl⟩,ho,a,n,hd⟩⟩:=(show bw X.prog X.w H s.heap q (.tup _)from I.hok q _ l);simp only at a hd;subst a hd;cases hc _ t;exact PySem.W.kia_tup (yc Z) I.MP (Ko h I) ho i nofun λtk=>⟨.bl _,H,I.tok tk,rfl,k⟩
end
end L2
namespace HH
open PySem L2 PySem.Spec PyProof.Rows
section
variable{X:Cx}{i:Nat}{e C:Addr}{oe:Obj}{pos:Pos}
theorem Hv{x y:Str}{p' p1:Pos}{a:Expr}{j:V}{k:Value}{b:Bool}(l:OE oe C)(Z:Ik X.K C)(m:x="isinstance")(n:Gl X x)(o:X.mg x=none)(p:X.N[i]?=some y)(r:uX X.env.scope y)(c:PE (dj X e oe) a (tC j))(hc:∀u,RelV j u->u=k)(s:kitOne X.K (.ref C) k=some b)(hs:starEach [.Name y p1,a] (dj X e oe).env=(false,eval (.Name y p1) (dj X e oe).env)::starEach [a] (dj X e oe).env:=by exact aR rfl)(f:starEach [a] (dj X e oe).env=(false,eval a (dj X e oe).env)::starEach [] (dj X e oe).env:=by exact aR rfl)(hpl:(backTo pos (starEach [a] (dj X e oe).env)).any (·.1)=false:=by rfl)(hd:(y==("__debug__":Str))=false:=by rfl)(h:(y==("__classdict__":Str))=false:=by rfl):GB (dj X e oe) i e (.Call (.Name x p') [.Name y p1,a] [] pos) b:=by subst m;refine du (dD (X:=dj X e oe) (Vk l Z hc s) n o qZ (bD (eX (X:=dj X e oe) p r hd h) (bD c dO f) hs) (he:=hs) (hpl:=hpl)) ?_;rintro σ H Q⟨g,q⟩;exact⟨_,g,rfl,q H (aJ.refl _)⟩
theorem SJ{x y:Str}{p' p1 p2:Pos}{k2}{es:List Expr}{cs:List V}{j:List Value}{b:Bool}(l:OE oe C)(Z:Ik X.K C)(m:x="isinstance")(n:Gl X x)(o:X.mg x=none)(p:X.N[i]?=some y)(r:uX X.env.scope y)(c:GC (dj X e oe) es cs)(hc:∀k,Vals cs k->k=j)(s:kitAny X.K (.ref C) j=some b)(hz:cs.length<=sizeLine:=by decide)(hs:starEach [.Name y p1,.Tuple es k2 p2] (dj X e oe).env=(false,eval (.Name y p1) (dj X e oe).env)::starEach [.Tuple es k2 p2] (dj X e oe).env:=by exact aR rfl)(f:starEach [.Tuple es k2 p2] (dj X e oe).env=(false,eval (.Tuple es k2 p2) (dj X e oe).env)::starEach [] (dj X e oe).env:=by exact aR rfl)(hpl:(backTo pos (starEach [.Tuple es k2 p2] (dj X e oe).env)).any (·.1)=false:=by rfl)(hd:(y==("__debug__":Str))=false:=by rfl)(h:(y==("__classdict__":Str))=false:=by rfl):GB (dj X e oe) i e (.Call (.Name x p') [.Name y p1,.Tuple es k2 p2] [] pos) b:=by subst m;refine du (dD (X:=dj X e oe) (Mj l Z hc s) n o qZ (bD (eX (X:=dj X e oe) p r hd h) (bD (GQ c) dO f) hs) (he:=hs) (hpl:=hpl)) ?_;rintro σ H Q⟨g,q⟩;exact⟨_,g,hz,λa t=>⟨a,rfl,aL,q _ (aJ.cA t)⟩⟩
variable{x:Expr}{b:Bool}
theorem NP(h:GT X i e x b):GW X i e (.BoolOp .Or [x] pos) b:=Gz h
theorem YB{y:Expr}{a:List Expr}{b':Bool}(h:GT X i e x b)(g:GW X i e (.BoolOp .Or (y::a) pos) b'):GW X i e (.BoolOp .Or (x::y::a) pos) (b||b'):=by intro c f s σ H Q I q;refine Qf h g c f s σ H Q I ⟨q.1,λj sm=>?_⟩;cases b with|false=>exact⟨q.1,λk s2=>q.2 k (sm.trans s2)⟩|true=>exact q.2 j sm
def RT(X:Cx)(i:Nat)(e:Addr)(sts:List Stmt)(b:Bool):Prop:=pO X sts (λD σ H=>Gd i e σ/\∀a,aJ H a->D.rt (.bl b) a)
theorem Zm{a c:List Stmt}(h:GT X i e x false)(r:RT X i e a b):RT X i e (.If x c [] pos::a) b:=by refine iy (jf (CG h (Ex (sts:=c)) qj) r) λD σ H q=>⟨q.1,λg s1=>?_⟩;exact⟨q.1,λf s2=>q.2 f (s1.trans s2)⟩
theorem UL{a:Pos}(h:GB X i e x b):RT X i e [.Return (some (.UnaryOp .Not x a)) pos] (!b):=iy (BW (vA (Jh h))) λD σ H q=>⟨q.1,λc s1=>⟨b,rfl,q.2 c s1⟩⟩
def HT(X:Cx)(cl:Nat->Addr)(kk i:Nat)(st:List Stmt)(k:Nat)(o:Option Bool):Prop:=o=none\/∃b,o=some b/\Under X.base (cl k) (cl kk)/\∀e oe,OE oe (cl k)->RT (dj X e oe) i e st b
def HTs(X:Cx)(cl:Nat->Addr)(kk i:Nat)(st:List Stmt)(k0:Nat)(l:List (Option Bool)):Prop:=∀j o,l[j]?=some o->HT X cl kk i st (k0+j) o
variable{cl:Nat->Addr}{kk:Nat}{st:List Stmt}
theorem Mf{k0:Nat}:HTs X cl kk i st k0 []:=λj a h=>by simp at h
theorem dw{k0:Nat}{a:Option Bool}{l:List (Option Bool)}(h:HT X cl kk i st k0 a)(c:HTs X cl kk i st (k0+1) l):HTs X cl kk i st k0 (a::l):=λj f q=>by cases j with|zero=>cases q;exact h|succ j=>have:=c j f (by simpa using q);rwa[show k0+(j+1)=k0+1+j by omega]
end
end HH
end
section
namespace L2
open PySem PySem.Spec PyProof.Rows
section
variable{X:Cx}{pins:List (Addr×Obj)}{σ:St}{H:Hp}{s:Shared}
theorem Ij{x y:Str}{i:Nat}{C:Addr}{bm:List Value}{L:String}{E:XK}{body k:List Stmt}{b0:Stmt}{np B pos:Pos}{tb:TS}{th:Addr->Addr->TS}{D:Ends}{Q:Flow->Shared->Prop}(hg:Gl X x)(O:OwnCls x C bm L X.mg X.base)(M:bm.contains (.type "BaseException")=true)(U:X.ex=[])(W:X.stack=X.env::X.outer/\X.env.frame=some X.env.locals)(hN:X.N.Nodup)(hi:X.N[i]?=some y)(hk:X.env.kindOf y=some .local)(hb:∀pins G,PassesOwn (model X.prog X.w) X.A X.env G->zb (vU X pins G) E->pO (vU X pins G) body tb)(hh:∀e g l,OE g l->pO (pF X e g) (b0::k) (th l e))(I:Inv X pins σ H s)(h1:tb D σ H)(hQ:∀f h,SP X pins D f h->Q f h)(h2:∀(σ':St)(e l:Addr)(m:Hp),σ'.length=X.N.length->E (.ref e) (some l) m->Under X.base l C/\∃D',th l e (Yt i D') (σ'.set i (some (.ref e))) m/\∀g f h,OE g l->SP (dj X e g) pins D' f h->Q f h)(hd:(x==("__debug__":Str))=false:=by decide):wpAny (model X.prog X.w) X.A (exec (.Try body [.ExceptHandler (some (.Name x np)) (some y) (b0::k) B] [] [] pos) X.env) Q X.xe s:=by
 refine wpAny_Try_except ?_;generalize ac:(λ(e:Value)(ae:Shared)=>wpAny (model X.prog X.w) X.A (noteFrame e X.env) (λ_ af=>wpAny (model X.prog X.w) X.A (setFlight e none) (λ_ ag=>wpAny (model X.prog X.w) X.A (handleBy e X.env [.ExceptHandler (some (.Name x np)) (some y) (b0::k) B]) Q X.xe ag) X.xe af) X.xe ae)=G;have hp:PassesOwn (model X.prog X.w) X.A X.env G:=by rw[<-ac];exact PassesOwn.looking
 have hX:zb (vU X pins G) E:=by
  intro yU σ' m h l e I' fl al q;obtain⟨un,D',ht,r⟩:=h2 σ' e l m I'.len q;obtain⟨ah,hx,Y⟩:=fl.ex;have J:Inv X pins σ' m h:=nC I';show G (.ref e) h;rw[<-ac];show wpAny (model X.prog X.w) X.A (noteFrame (.ref e) X.env) _ X.xe h;refine uw (base:=X.base) (env:=X.env) (outer:=X.outer) (by rw[J.ok.frames,W.1]) (by rw[<-W.1];exact J.stack) W.2 hx (Y.imp id λ⟨T,a,b,c,_⟩=>⟨T,a,b,c⟩) λh' t n1 n2 b x' t'=>?_;have b':pB (frs X.stack) (e::M6 ah) h.heap h':=by rw[W.1];exact b
  obtain⟨u,ok,am⟩:=uL (X:=X) (outer:=X.outer) J U W fl hx Y n1 n2 b' x' t';have nT:∀T,ah=.ref T->K4 h.heap T .none:=λT z=>by
   rcases Y with y|⟨T2,y,_,q,_⟩;.rw[y]at z;cases z
   .rw[y]at z;cases z;exact q
  have j:Inv X pins σ' m {h with heap:=h'}:=J.but b' (by rw[U];exact u) ok (λz=>by
   rcases mem_cons.mp z with z|z;.exact(hx.nl J).1 z
   .exact((nT _ (wz z)).nl J).1 rfl) (λy c hc z=>by
   rcases mem_cons.mp z with z|z;.exact(hx.nl J).2 y c hc z
   .exact((nT _ (wz z)).nl J).2 y c hc rfl) (λp hp z=>by
   have o:=al p hp;rcases mem_cons.mp z with z|z;.exact o.1 z
   .exact o.2 _ _ hx (wz z));have I3:Inv (Cq X e) pins σ' m {h with heap:=h'}:=Kf j;obtain⟨g,vs,q1,q2,q3,q4,q5⟩:=id x';obtain⟨oT,ts,z1,z2,z3⟩:=id t';refine Fp M (qy (X:=Cq X e) I3 hg O.bound ⟨rfl,O.keeps j.bk,un.keeps j.bk,⟨g,q1,q2⟩,?_⟩ hd);unfold setFlight;refine wpAny_bind (wpAny_field q1 q3 q4 ?_);rw[if_pos (show(Value.ref t !=Value.none)=true from by simp)];refine wpAny_setField z1 z2 (Array.getElem?_eq_some_iff.mp z3).1 ?_;have ap:m t=none:=J.hok.fresh n1;have ai:h.heap.get? t=none:=get?_none_of_le n1;have b2:pB (frs X.stack) [t] h' (h'.update t (Obj.mapFields (·.setIfInBounds 3 ((none:Option Addr).elim Value.none λf=>rawInt f)))):=pB.set _ _ _;have Z:∀c o,X.s₀.heap.get? c=some o->c≠t:=λc o z y=>by obtain⟨o',w⟩:=J.base.there c o z (by rw[U];simp);rw[y,ai]at w;cases w
  have I4:Inv X pins σ' m {h with heap:=h'.update t (Obj.mapFields (·.setIfInBounds 3 ((none:Option Addr).elim Value.none λf=>rawInt f)))}:=j.but b2 ⟨λc o q n nf ne=>by rw[get?_update_other _ _ (Ne.symm (Z c o q))];exact j.base.keep c o q n nf ne,λc o q n hf ne=>by rw[get?_update_other _ _ (Ne.symm (Z c o q))];exact j.base.slot c o q n hf ne,j.base.free,λc o q ne=>by rw[get?_update_other _ _ (Ne.symm (Z c o q))];exact j.base.there c o q ne,j.base.tups,j.base.pZ,j.base.tG⟩ (b2.hok j.hok j.p8 λc hc=>by rw[mem_singleton.mp hc];exact ap) (λz=>(t'.nl j).1 (mem_singleton.mp z)) (λy c hc z=>(t'.nl j).2 y c hc (mem_singleton.mp z)) (λp hp z=>by have w:=(J.pin p hp).1;rw[mem_singleton.mp z,ai]at w;cases w);have hO:OE g l:=⟨q2,q5,vs,q3⟩;have ar:e∉frs X.stack:=lL.Oo (s:={h with heap:=h'}) x' j.stack;have I5:Inv (pF X e g) pins σ' m {h with heap:=h'.update t (Obj.mapFields (·.setIfInBounds 3 ((none:Option Addr).elim Value.none λf=>rawInt f)))}:=Es I4 (by show(h'.update t _).get? e=_;rw[get?_update_other _ _ n2];exact q1) hO am.free (Ne.symm (lL.nl (X:=X) j x').1) (λz=>ar (by rw[W.1];simp only[frs,filterMap_cons,W.2];exact mem_cons_of_mem _ z));refine je (X:=pF X e g) I5 hN hi (.inl hk) (v:=.ref e) rfl (λs6 I6=>?_) (.inr hk);refine bV (hh e g l hO pins s6 _ m (Yt i D') I6 ht) λf s7 y=>?_;cases f with|next=>obtain⟨a,b,c,d⟩:=y;exact qH (X:=dj X e g) (lA J.ok c) hN hi hk λs8 I8=>r g .next s8 hO ⟨_,b,I8,d⟩|brk=>obtain⟨a,b,c,d⟩:=y;exact qH (X:=dj X e g) (lA J.ok c) hN hi hk λs8 I8=>r g .brk s8 hO ⟨_,b,I8,d⟩|cont=>obtain⟨a,b,c,d⟩:=y;exact qH (X:=dj X e g) (lA J.ok c) hN hi hk λs8 I8=>r g .cont s8 hO ⟨_,b,I8,d⟩|ret u=>obtain⟨a,b,c,d,y⟩:=y;exact qH (X:=dj X e g) (lA J.ok d) hN hi hk λs8 I8=>r g (.ret u) s8 hO ⟨a,_,c,I8,y⟩
 have w:=hb pins G hp hX [] s σ H D (MF I) h1;refine wpAny_mono w (λf s5 y=>?_) λe s5 y=>?_;.cases f with|next=>obtain⟨a,b,c,d⟩:=y;show wpAny (model X.prog X.w) X.A (execs [] X.env) _ _ s5;exact wpAny_execs_nil (hQ .next s5 ⟨a,b,nC c,d⟩)|brk=>obtain⟨a,b,c,d⟩:=y;exact hQ .brk s5 ⟨a,b,nC c,d⟩|cont=>obtain⟨a,b,c,d⟩:=y;exact hQ .cont s5 ⟨a,b,nC c,d⟩|ret u=>obtain⟨a,b,c,d,y⟩:=y;exact hQ (.ret u) s5 ⟨a,b,c,nC d,y⟩
 .exact y
end
end L2
namespace HH
open PySem L2 PySem.Spec PyProof.Rows
section
variable{X:Cx}{c:Call}{n:Nat}{i:Nat}{pos:Pos}{cl:Nat->Addr}{kk:Nat}{body rest:List Stmt}{ss:List S}
noncomputable def V0:Ends:=⟨λ_ _=>False,λ_ _=>False,λ_ _=>False,λ_ _=>False⟩
theorem Nb{x y z:Str}{j:Nat}{bm:List Value}{m:String}{np v p1 p2 p3:Pos}{bs:List (Option Bool)}(hg:Gl X x)(O:OwnCls x (cl kk) bm m X.mg X.base)(p:bm.contains (.type "BaseException")=true)(L:X.ex=[])(p6:X.stack=X.env::X.outer/\X.env.frame=some X.env.locals)(hN:X.N.Nodup)(hi:X.N[i]?=some y)(hk:X.env.kindOf y=some .local)(hj:X.N[j]?=some z)(hz:Loc X.env.scope z)(M:i≠j)(hv:uX X.env.scope y)(Q:∀a B W,PassesOwn (model X.prog X.w) X.A X.env B->zb (vU X a B) (EW cl W)->Qy (vU X a B) c n W body ss)(hh:HTs X cl kk j rest 0 bs)(hd:(x==("__debug__":Str))=false:=by rfl)(U:(y==("__debug__":Str))=false:=by rfl)(Y:(y==("__classdict__":Str))=false:=by rfl)(hs:swapsWith (.Name y p2) (some (.Name z p1)) p3.line X.env=pure false:=by rfl)(hf:X.fn z=true\/X.env.scope.names.lookup z=some .local:=by first|exact .inl rfl|exact .inr rfl|assumption):SB X c n (.Try body [.ExceptHandler (some (.Name x np)) (some y) [.Assign [.Name z p1] (.Name y p2) p3] v] [] [] pos::rest) [.Kw ss bs]:=by
 rintro a s σ H D I⟨F,ρ,fl,ap,g,e,q⟩;replace e:=NQ e;rw[HH.X20]at e;split at e
 . rename_i k Z hX;split at e
   . rename_i hu;split at e
     . rename_i b t;cases e;have ac:i<X.N.length:=(fM hi).1;have ae:j<X.N.length:=(fM hj).1;refine wpAny_execs_cons (Ij (E:=EW cl (λr C=>r=k/\∀l,aJ C l->D.rt (.bl b) l)) (tb:=tX X.K (λr C=>r=k/\∀l,aJ C l->D.rt (.bl b) l) (fP c n ss)) (D:=V0) (th:=λC' e D' σ H=>Gd i e σ/\D'.nx (σ.set j (some (.ref e))) H) hg O p L p6 hN hi hk (λa B hp hX=>Q a B _ hp hX) (λe J C' hO=>?_) I ?_ ?_ ?_ hd);.refine iy (BW (oG (X:=pF X e J) hN hj hz (eX (X:=pF X e J) hi hv U Y) hs hf)) λD' σ H⟨g1,g2⟩=>⟨_,g1,g2⟩
       .refine⟨F,ρ,k,Z,g,hX,λF' G C st=>⟨rfl,λl sm=>?_⟩⟩;have c1:=st.clear hu (σ':=G) (by rw[st.gs.len.symm,st.len]);have c2:=c1.trans (Ext.stp c1.gs ⟨sm,.refl _,c1.gs.sub.trans sm,λ_ x y=>absurd x y⟩);exact q F' G l c2 (.bl b) (show Rep X.K F' _ _ from gH _)
       .intro f s' h;cases f with|next=>obtain⟨_,_,_,h⟩:=h;exact h.elim|brk=>obtain⟨_,_,_,h⟩:=h;exact h.elim|cont=>obtain⟨_,_,_,h⟩:=h;exact h.elim|ret u=>obtain⟨_,_,_,_,_,h⟩:=h;exact h.elim
       . rintro σ' e' C' C hl⟨r,hC,rfl,af⟩;cases hC;have ag:bs[r]?=some (some b):=by rw[List.getD_eq_getElem?_getD]at t;cases hq:bs[r]?with|none=>rw[hq]at t;cases t|some o=>rw[hq]at t;simp at t;rw[t]
         have ht:=hh r _ ag;rw[zero_add]at ht;rcases ht with ht|⟨b2,ah,ai,al⟩;.cases ht
         cases ah;refine⟨ai,⟨λσ H=>Gd j e' σ/\∀l,aJ H l->D.rt (.bl b) l,λ_ _=>False,λ_ _=>False,λ_ _=>False⟩,⟨?_,?_,af⟩,λJ f s' hO h=>?_⟩;.exact getElem?_set_self (by rw[hl];exact ac)
         .show(((σ'.set i _).set j _).set i none)[j]?=_;rw[getElem?_set_ne M];exact getElem?_set_self (by simp only[length_set];rw[hl];exact ae)
         .cases f with|next=>obtain⟨am,l,I2,g1,g2⟩:=h;have w:=al e' J hO a s' am l D I2 ⟨g1,g2⟩;exact wpAny_mono w (λf s5 y=>TV I.ok y) λ_ _ y=>y|brk=>obtain⟨_,_,_,h⟩:=h;exact h.elim|cont=>obtain⟨_,_,_,h⟩:=h;exact h.elim|ret u=>obtain⟨_,_,_,_,_,h⟩:=h;exact h.elim
     .cases e
   .cases e
 .cases e
end
section
variable{X:Cx}{c:Call}{n:Nat}{W:Nat->Hp->Prop}{e:Expr}{pos:Pos}
theorem Dk{cl:Nat->Addr}{kk g np:Nat}{y:Str}{p' cpos:Pos}{es:List Expr}{ps:List P}(a:X.ex=[])(i:zb X (EW cl W))(j:iI X.prog X.w X.K X.mg X.base cl kk c g y np)(hr:iW kk X.A)(k:SG X c (e::es) ps)(l:Gl X y:=by rfl)(m:(e::es).length=np:=by rfl)(b:(y==("__debug__":Str))=false:=by rfl)(he:starEach (e::es) X.env=(false,eval e X.env)::starEach es X.env:=by exact aR rfl)(hpl:(backTo cpos (starEach es X.env)).any (·.1)=false:=by rfl)(f:ps.length=(e::es).length:=by rfl):XE X c W (.Call (.Name y p') (e::es) [] cpos) (.call g ps):=by obtain⟨te,h1,o⟩:=J7 (p':=p') (cpos:=cpos) a i j hr k l m b he hpl f;exact du h1 λσ H Q h=>o σ H Q h
theorem RJ{x:Str}{p':Pos}{f iter a:Expr}{scope:Scope}{N':List Str}{m:Nat}{g:TG}{is:List Nat}{one:Bool}{as:List P}{l:Nat}{h:P}{cpos:Pos}(o:x="sum")(hc:X.calm=true)(i:Gl X x)(p:X.mg x=none)(ok:gC X scope N' m)(hi:XE X c W iter (.call l as))(r:∀cl C s₀ H₀ ex,PG (uI X scope N' cl C s₀ H₀ ex) f g)(s:pK X.K X.N.length is one g)(ht:∀cl C s₀ H₀ ex,SQ (uI X scope N' cl C s₀ H₀ ex) c [] none)(he:∀cl C s₀ H₀ ex,SX (uI X scope N' cl C s₀ H₀ ex) c a h)(hs:∀x,foldedSetIterable iter X.env x=pure x:=by intro _;rfl)(b:starEach [.ListComp a [⟨f,iter,[],0⟩] scope cpos] X.env=(false,eval (.ListComp a [⟨f,iter,[],0⟩] scope cpos) X.env)::starEach [] X.env:=by exact aR rfl):XE X c W (.Call (.Name x p') [.ListComp a [⟨f,iter,[],0⟩] scope cpos] [] pos) (.blt .sum [.comp (.call l as) m is one none h]):=by subst o;refine du (dD (QL hc) i p boot_sum (bD (CJ (tt:=GZ X.K (wN c none)) (te:=xW X.K (HH.ev c h)) hc ok (J8 hi) r ht (λcl C s₀ H₀ ex=>(he cl C s₀ H₀ ex).ev) hs) dO b) (he:=b)) ?_;rintro σ H Q⟨F,ρ,k,j,t,u,q⟩;exact⟨F,ρ,k,j,t,u,q⟩
theorem Om{p:P}(h:XE X c W e p):U6 X c n W (.Return (some e) pos) (.ret p):=cP (vA h) λD σ H⟨F,ρ,k,ρ',g,e0,q⟩=>⟨F,ρ,k,ρ',g,(by rw[vD]at e0;exact e0),q⟩
end
end HH
end
noncomputable section
set_option maxHeartbeats 4000000
namespace T
open PySem L2 PySem.Spec PyProof.Rows HH
local macro_rules|`(term|⇑$n)=>`(P.con (.int $n))
local macro_rules|`(term|↑$n)=>`(P.var $n)
local macro_rules|`(tactic|ac_rfl)=>`(tactic|first|exact Or.inl rfl|exact Or.inr (Or.inl rfl))
set_option hygiene false
local macro_rules|`(term|↥($a,$b,$d))=>`(jh Pg w K mg base JB (k+1) f fd $a (Mu K $b (λargs=>enter c n $d args)))
local macro_rules|`(term|↥($a,$b,$d,0))=>`(bA Pg w K mg base k c $a $b $d)
set_option hygiene true
local macro_rules|`(term|⇑($x))=>`(λ_ _ _ _ _=>$x)
local macro_rules|`(term|nofun)=>`(⟨rfl,rfl,rfl,by decide+kernel,rfl,by decide+kernel,by decide+kernel⟩)
local macro_rules|`(tactic|exists$e)=>`(tactic|with_reducible refine$e)
local macro_rules|`(tactic|lia)=>`(tactic|with_reducible refine aZ ?_ ?_)
set_option hygiene false
local macro_rules|`(tactic|exists$i,$e)=>`(tactic|((with_reducible refine qI (i:=$i) ?_ ?_ ?_ ?_ ?_ ?_);exact nd;exact rfl;exact oi;rotate_left;rfl;exact oi;exact$e))
local macro_rules|`(tactic|exists$i,$e,0)=>`(tactic|((with_reducible refine wj (i:=$i) ?_ ?_ ?_ ?_ ?_ ?_ ?_ ?_ ?_);exact PassesOwn.never;exact hc;exact nd;exact rfl;exact oi;exact$e;rotate_left;(· intro _;rfl);exact oi))
local macro_rules|`(tactic|exists$a,$b,0,0)=>`(tactic|(refine Yy $a $b rfl rfl λcdv A outer s H E hr=>?_;have nd:=($b).nd))
local macro_rules|`(tactic|exists(),$e)=>`(tactic|((with_reducible refine Tw ?_);exact$e))
set_option hygiene true
local macro_rules|`(term|‹$l›)=>`((show(($l):List Str).Nodup by decide+kernel))
theorem hc:true=true:=rfl
theorem oi{b:Type}{a:b}{p:Prop}:a=a\/p:=.inl rfl
theorem aV{X:Cx}{c:Call}{a:Expr}{es:List Expr}{b:P}{ps:List P}(e:SX X c a b)(hr:SG X c es ps)(h:nst a=true):SG X c (a::es) (b::ps):=Oz e hr (aR h)
theorem cM{X:Cx}{c:Call}{a:Expr}{es:List Expr}{b:P}{ps:List P}(e:SX X c a b)(hr:SA X c es ps)(h:nst a=true):SA X c (a::es) (b::ps):=Ca e hr (aR h)
variable{Pg:Program}{w:World}{K:PySem.W.Frag}{mg:Str->Option Value}{base:Heap}{f:Addr}{fd:FuncData}{k n:Nat}{c:Call}{cl:Nat->Addr}
noncomputable def top(i:Nat):Stmt:=PySem.Challenge.pw_hourhaul_k30_bends_and_sides.main.body.getD i (.Pass ⟨0,0,0,0⟩)
abbrev s0:Stmt:=top 13
noncomputable def b0:List S:=[.asg 2 (.idx (.idx ↑0 ⇑1) (.idx ↑1 ⇑0)),.ret (.QT (.idx ↑1 ⇑1) (.tup [.idx ↑2 ⇑0,.idx ↑2 ⇑1]) (.tup [.idx ↑2 ⇑1,.idx ↑2 ⇑0]))]
def f0:Fd:=⟨2,3,b0⟩
theorem sc0:aO ["net","step","way"] ["net","step"] (ao s0):=nofun
include cl in
theorem d0(a:jy K "step_places" "step_places" s0 f fd):↥(["net","step"],2,f0):=by
 exists a,sc0,0,0;refine aZ ?_ ?_;.exists 2,aC (aC (sv 0) ak) (aC (sv 1) ak)
 lia;.exists(),my (fu (aC (sv 1) ak)) (dz (cM (aC (sv 2) ak) (cM (aC (sv 2) ak) aK rfl) rfl)) (dz (cM (aC (sv 2) ak) (cM (aC (sv 2) ak) aK rfl) rfl))
 exact aq
abbrev s1:Stmt:=top 14
noncomputable def b1:List S:=[.asg 2 (.idx (.idx (.idx ↑0 ⇑1) (.idx ↑1 ⇑0)) ⇑3),.ret (.QT (.idx ↑1 ⇑1) ↑2 (.neg ↑2))]
def f1:Fd:=⟨2,3,b1⟩
theorem sc1:aO ["net","step","hours"] ["net","step"] (ao s1):=nofun
include cl in
theorem d1(a:jy K "step_hours" "step_hours" s1 f fd):↥(["net","step"],2,f1):=by
 exists a,sc1,0,0;refine aZ ?_ ?_;.exists 2,aC (aC (aC (sv 0) ak) (aC (sv 1) ak)) ak
 lia;.exists(),my (fu (aC (sv 1) ak)) (sv 2) (rW (sv 2))
 exact aq
abbrev s2:Stmt:=top 15
noncomputable def b2:List S:=[.asg 3 (.idx ↑1 (.idx ↑2 ⇑0)),.ret (.QT (.idx ↑2 ⇑1) (.bin .sub (.idx (.idx (.idx ↑0 ⇑1) (.idx ↑2 ⇑0)) ⇑2) ↑3) ↑3)]
def f2:Fd:=⟨3,4,b2⟩
theorem sc2:aO ["net","stream","step","loads"] ["net","stream","step"] (ao s2):=nofun
include cl in
theorem d2(a:jy K "step_room" "step_room" s2 f fd):↥(["net","stream","step"],3,f2):=by
 exists a,sc2,0,0;refine aZ ?_ ?_;.exists 3,aC (sv 1) (aC (sv 2) ak)
 lia;.exists(),my (fu (aC (sv 2) ak)) (aB lJ (aC (aC (aC (sv 0) ak) (aC (sv 2) ak)) ak) (sv 3)) (sv 3)
 exact aq
abbrev s3:Stmt:=top 16
noncomputable def b3:List S:=[.ret (.blt .sum [.comp ↑1 1 [2] true none (.call 1 [↑0,↑2])])]
def f3:Fd:=⟨2,2,b3⟩
theorem sc3:aO ["net","steps"] ["net","steps"] (ao s3):=nofun
include cl in
theorem d3(a:jy K "steps_hours" "steps_hours" s3 f fd)(fc:mg "sum"=none)(b:↥(1,"step_hours",2,0)):↥(["net","steps"],2,f3):=by
 exists a,sc3,0,0;refine aZ ?_ ?_;.exists(),oZ rfl hc (by rfl) fc (dM (N':=["net","steps","step"]) hc (zZ rfl (by rfl)) (bH (sv 1)) ⇑(aD (i:=2) ‹["net","steps","step"]› rfl (Or.inl rfl) (Or.inr rfl)) (fG (eY)) ⇑(dg) ⇑((eO b hr (aV (sv 0) (aV (sv 2) au rfl) rfl))))
 exact aq
abbrev s4:Stmt:=top 17
noncomputable def b4:List S:=[.Kz 2 (.wW ⇑0 (.idx ↑0 ⇑0)) 1 [5] true (.lst []),.Gg (.wW ⇑0 (.blt .len [.idx ↑0 ⇑1])) [3] true [.Gg (.tup [.tup [↑3,.con (.bl true)],.tup [↑3,.con (.bl false)]]) [4] true [.ifs (.cmp .gt (.call 2 [↑0,↑1,↑4]) ⇑0) [.KC 2 (.idx (.call 0 [↑0,↑4]) ⇑0) ↑4] []]],.dB 2,.ret ↑2]
def f4:Fd:=⟨2,5,b4⟩
theorem sc4:aO ["net","stream","steps","number","step"] ["net","stream"] (ao s4):=nofun
include cl in
theorem d4(a:jy K "open_steps" "open_steps" s4 f fd)(dF:mg "len"=none)(bM:mg "range"=none)(b:↥(0,"step_places",2,0))(e:↥(2,"step_room",3,0)):↥(["net","stream"],2,f4):=by exists a,sc4,0,0;exact(by(refine Lq (i:=2) (N':=["net","stream","steps","number","step","place"]) (g:=j8 5) ?_ ?_ ?_ ?_ ?_ ?_ ?_ ?_ ?_ ?_ ?_ ?_ ?_ ?_);exact hc;exact nd;exact rfl;exact oi;exact zZ rfl (by rfl);exact oh rfl (by rfl) bM (aC (sv 0) ak);exact ⇑(aD (i:=5) ‹["net","stream","steps","number","step","place"]› rfl (Or.inl rfl) (Or.inr rfl));exact fG (eY);exact ⇑(dg);exact ⇑((cC aK));(· exists JC ?_ ?_;(· exists Df (g:=j8 3) ?_ ?_ ?_ ?_ ?_ ?_ ?_;exact PassesOwn.never;exact hc;(· exists Ig ?_ ?_ ?_ ?_ ?_;exact rfl;rfl;exact bM;exact ju rfl (by rfl) dF (aC (sv 0) ak);rfl);exact aD (i:=3) nd rfl oi oi;(· rw[o9];exact vY 3);(· exists tu ?_ ?_;(· exists Df (g:=j8 4) ?_ ?_ ?_ ?_ ?_ ?_ ?_;exact PassesOwn.never;exact hc;exact Mm (dz (cM (dz (cM (sv 3) (cM nZ aK rfl) rfl)) (cM (dz (cM (sv 3) (cM nZ aK rfl) rfl)) aK rfl) rfl));exact aD (i:=4) nd rfl oi oi;(· rw[o9];exact vY 4);(· exists tu ?_ ?_;(· exists Rp ?_ ?_ ?_;exact eV kI (eO e hr (aV (sv 0) (aV (sv 1) (aV (sv 4) au rfl) rfl) rfl)) ak (dN _);(· exists tu ?_ ?_;(· exists JS (k:=2) ?_ ?_ ?_ ?_ ?_ ?_ ?_ ?_ ?_ ?_ ?_ ?_;exact rfl;(· first|exact Or.inl rfl|exact Or.inr (Or.inl rfl));exact aC (eO b hr (aV (sv 0) (aV (sv 4) au rfl) rfl)) ak;exact sv 4;(· intro _ _;rfl);rfl;rfl;rfl;rfl;rfl;rfl;rfl);exact qD);exact qD);exact qD);(· intro _;rfl));exact qD);(· intro _;rfl));(· exists Oe ?_;(· lia;(· exists(),sv 2);exact aq)));rfl;(· intro _;rfl);exact oi)
abbrev s5:Stmt:=top 18
noncomputable def b5:List S:=[.asg 3 (.call 4 [↑0,↑1]),.Gh 4,.iB (.blt .keys [↑2]) [5] true [.iz 4 ↑5 (.tup [.bin .Bd ↑2 ↑5,⇑0,.con .non])],.asg 6 (.blt .Xk [↑2]),.whl (.cmp .gt (.blt .len [↑6]) ⇑0) [.Gh 7,.iB ↑6 [5] true [.iB (.idx ↑3 ↑5) [8] true [.asg 9 (.idx (.call 0 [↑0,↑8]) ⇑1),.asg 10 (.tup [.bin .add (.idx (.QV 4 ↑5) ⇑0) (.call 1 [↑0,↑8]),.bin .add (.idx (.QV 4 ↑5) ⇑1) ⇑1]),.ifs (.or (.QW 4 ↑9 true) (.cmp .lt ↑10 (.slice (.QV 4 ↑9) (.con .non) ⇑2))) [.iz 4 ↑9 (.bin .add ↑10 (.tup [↑8])),.iz 7 ↑9 (.con (.bl true))] []]],.asg 6 (.blt .Xk [.vw 7])],.ret ↑4]
def f5:Fd:=⟨3,11,b5⟩
theorem sc5:aO ["net","stream","begun","steps","come","place","row","changed","step","to","found"] ["net","stream","begun"] (ao s5):=nofun
include cl in
theorem d5(a:jy K "shortest_come" "shortest_come" s5 f fd)(dF:mg "len"=none)(fW:mg "list"=none)(b:↥(4,"open_steps",2,0))(e:↥(1,"step_hours",2,0))(g:↥(0,"step_places",2,0)):↥(["net","stream","begun"],3,f5):=by
 exists a,sc5,0,0;refine aZ ?_ ?_;.exists 3,eO b hr (aV (sv 0) (aV (sv 1) au rfl) rfl)
 lia;.exact(Di (i:=4) nd rfl oi (by rfl) (Or.inl rfl))
 lia;.exists 5,Ny (sv 2),0;(· lia;exact p7 (i:=4) (bZ hr) rfl (by ac_rfl) (sv 5) (dz (cM (qp (bZ hr) (sv 2) (sv 5) (λ_ _=>rfl)) (cM ak (cM Ax aK rfl) rfl) rfl)) (by rfl);exact aq)
 lia;.exists 6,HS rfl hc (by rfl) fW (sv 2)
 lia;.exact(Bc PassesOwn.never (eV kI (ju rfl (by rfl) dF (sv 6)) ak (dN _)) (by lia;exact Di (i:=7) nd rfl oi (by rfl) (Or.inl rfl);(· lia;(· exists 5,bH (sv 6),0;(· lia;(· exists 8,bH (aC (sv 3) (sv 5)),0;(· lia;(· exists 9,aC (eO g hr (aV (sv 0) (aV (sv 8) au rfl) rfl)) ak);(· lia;(· exists 10,dz (cM (aB bh (aC (zE (i:=4) (bZ hr) rfl (by ac_rfl) (sv 5) (λ_ _=>rfl)) ak) (eO e hr (aV (sv 0) (aV (sv 8) au rfl) rfl))) (cM (aB bh (aC (zE (i:=4) (bZ hr) rfl (by ac_rfl) (sv 5) (λ_ _=>rfl)) ak) ak) aK rfl) rfl));(· lia;(· exists j5 ?_ ?_ ?_;exact SW.st (yf (R1 (i:=4) (Or.inr ⟨rfl,rfl⟩) (bZ hr) rfl (by ac_rfl) (sv 9) (by with_unfolding_all rfl)) (sE (eV (Kd (bZ hr)) (sv 10) (ye (zE (i:=4) (bZ hr) rfl (by ac_rfl) (sv 9) (λ_ _=>rfl)) Dd (CQ ak)) (dN _))));(· lia;exact p7 (i:=4) (bZ hr) rfl (by ac_rfl) (sv 9) (aB bh (sv 10) (dz (cM (sv 8) aK rfl))) (by rfl);(· lia;exact p7 (i:=7) (bZ hr) rfl (by ac_rfl) (sv 9) nZ (by rfl);exact aq));exact aq);exact aq))));exact aq));(· lia;(· exists 6,HS rfl hc (by rfl) fW (Io (i:=7) rfl (by ac_rfl)));exact aq))))
 lia;.exists(),sv 4
 exact aq
abbrev s6:Stmt:=top 19
noncomputable def b6:List S:=[.asg 3 (.lst []),.asg 4 ↑2,.whl (.cmp .O4 (.idx (.bin .Bd ↑1 ↑4) ⇑2) (.con .non)) [.asg 5 (.idx (.bin .Bd ↑1 ↑4) ⇑2),.app 3 ↑5,.asg 4 (.idx (.call 0 [↑0,↑5]) ⇑0)],.ret (.blt .rvT [↑3])]
def f6:Fd:=⟨3,6,b6⟩
theorem sc6:aO ["net","come","place","steps","here","step"] ["net","come","place"] (ao s6):=nofun
include cl in
theorem d6(a:jy K "steps_to" "steps_to" s6 f fd)(mV:mg "reversed"=none)(gP:mg "tuple"=none)(b:↥(0,"step_places",2,0)):↥(["net","come","place"],3,f6):=by
 exists a,sc6,0,0;refine aZ ?_ ?_;.exists 3,cC aK
 lia;.exists 4,sv 2
 lia;.exact(Bc PassesOwn.never (eV Nt (aC (qp (bZ hr) (sv 1) (sv 4) (λ_ _=>rfl)) ak) Ax (dN _)) (by lia;(· exists 5,aC (qp (bZ hr) (sv 1) (sv 4) (λ_ _=>rfl)) ak);(· lia;exact cQ (k:=3) rfl (by ac_rfl) (sv 5);(· lia;(· exists 4,aC (eO b hr (aV (sv 0) (aV (sv 5) au rfl) rfl)) ak);exact aq))))
 lia;.exists(),Ai rfl rfl hc (by rfl) gP (by rfl) mV (sv 3)
 exact aq
abbrev s7:Stmt:=top 20
noncomputable def b7:List S:=[.asg 3 (.blt .list [↑0]),.iB ↑1 [4,5] false [.Kv 3 ↑4 false (.QT ↑5 ↑2 (.neg ↑2))],.ret ↑3]
def f7:Fd:=⟨3,6,b7⟩
theorem sc7:aO ["stream","steps","loads","changed","number","forth"] ["stream","steps","loads"] (ao s7):=nofun
include cl in
theorem d7(a:jy K "stream_with" "stream_with" s7 f fd)(fW:mg "list"=none):↥(["stream","steps","loads"],3,f7):=by
 exists a,sc7,0,0;refine aZ ?_ ?_;.exists 3,Bk rfl (by rfl) fW (sv 0)
 lia;.exact(jt PassesOwn.never hc (bH (sv 1)) (dC hc (aH (aD (i:=4) nd rfl oi oi) (aH (aD (i:=5) nd rfl oi oi) cu))) (gW rfl (bF _ _ (bF _ _ fC 5) 4)) (by lia;exact qe (k:=3) (sub:=false) qd rfl (by ac_rfl) (sv 4) (my (fu (sv 5)) (sv 2) (rW (sv 2)));exact aq))
 lia;.exists(),sv 3
 exact aq
include cl in
theorem dx7(a:jy K "stream_with" "stream_with" s7 f fd)(fW:mg "list"=none):jh Pg w K mg base (xg Pg w) (k+1) f fd ["stream","steps","loads"] (NZ K cl 3 (λargs=>enter c n f7 args)):=by
 refine wg a sc7 rfl rfl λcdv A outer s H E W hr b=>?_;have nd:=sc7.nd;have e:zb (lU (xg Pg w) Pg w K mg base ["stream","steps","loads","changed","number","forth"] "stream_with" (ao s7) f cdv A outer s H E) E:=nU;refine aX ?_ ?_ ?_;.exists 3,Bk rfl (by rfl) fW (sv 0)
 .exact(di (by intro _;rfl))
 exists aX ?_ ?_ ?_;.exact(jt jd hc (bH (sv 1)) (dC hc (aH (aD (i:=4) nd rfl oi oi) (aH (aD (i:=5) nd rfl oi oi) cu))) (gW rfl (bF _ _ (bF _ _ fC 5) 4)) (by lia;exact qe (k:=3) (sub:=false) qd rfl (by ac_rfl) (sv 4) (my (fu (sv 5)) (sv 2) (rW (sv 2)));exact aq))
 .exact(vV jd hc (bH (sv 1)) (dC hc (aH (aD (i:=4) nd rfl oi oi) (aH (aD (i:=5) nd rfl oi oi) cu))) (gW rfl (bF _ _ (bF _ _ fC 5) 4)) (by lia;exact qe (k:=3) (sub:=false) qd rfl (by ac_rfl) (sv 4) (my (fu (sv 5)) (sv 2) (rW (sv 2)));exact aq) (aX (qe (k:=3) (sub:=false) qd rfl (by ac_rfl) (sv 4) (my (fu (sv 5)) (sv 2) (rW (sv 2)))) di eG) (by intro _;rfl))
 exists aX ?_ ?_ ?_;.exists(),sv 3
 .exact di
 exact eG
abbrev s8:Stmt:=top 21
noncomputable def b8:List S:=[.asg 1 (.bin .sub (.idx ↑0 ⇑0) ⇑1),.asg 2 (.bin .mul (.lst [⇑0]) (.blt .len [.idx ↑0 ⇑1])),.asg 3 (.lst []),.asg 4 (.call 5 [↑0,↑2,.Be 0 0]),.whl (.bin .din ↑1 ↑4) [.asg 5 (.call 6 [↑0,↑4,↑1]),.asg 6 (.blt .Ge [.comp ↑5 1 [7] true none (.call 2 [↑0,↑2,↑7])]),.app 3 (.tup [↑5,↑6]),.asg 2 (.call 7 [↑2,↑5,↑6]),.asg 4 (.call 5 [↑0,↑2,.Be 0 0])],.ret ↑3]
def f8:Fd:=⟨1,7,b8⟩
theorem sc8:aO ["net","end","stream","chains","come","steps","loads"] ["net"] (ao s8):=nofun
include cl in
theorem d8(b:jy K "chains_to_end" "chains_to_end" s8 f fd)(dF:mg "len"=none)(cJ:mg "min"=none)(a:↥(5,"shortest_come",3,0))(e:↥(2,"step_room",3,0))(g:↥(6,"steps_to",3,0))(h:↥(7,"stream_with",3,0)):↥(["net"],1,f8):=by
 exists b,sc8,0,0;refine aZ ?_ ?_;.exists 1,aB lJ (aC (sv 0) ak) ak
 lia;.exists qI (i:=2) ?_ ?_ ?_ ?_ ?_ ?_;exact nd;exact rfl;exact Or.inr rfl;rotate_left;rfl;exact oi;exact aB dJ (cC (cM ak aK rfl)) (ju rfl (by rfl) dF (aC (sv 0) ak))
 lia;.exists 3,cC aK
 lia;.exists 4,eO a hr (aV (sv 0) (aV (sv 2) (aV Ce au rfl) rfl) rfl)
 lia;.exact(Bc PassesOwn.never (Ry (bZ hr) (sv 1) (sv 4) (by with_unfolding_all rfl)) (by lia;(· exists 5,eO g hr (aV (sv 0) (aV (sv 4) (aV (sv 1) au rfl) rfl) rfl));(· lia;(· exists 6,Dh rfl hc (by rfl) cJ (dM (N':=["net","end","stream","chains","come","steps","loads","step"]) hc (zZ rfl (by rfl)) (bH (sv 5)) ⇑(aD (i:=7) ‹["net","end","stream","chains","come","steps","loads","step"]› rfl (Or.inl rfl) (Or.inr rfl)) (fG (eY)) ⇑(dg) ⇑((eO e hr (aV (sv 0) (aV (sv 2) (aV (sv 7) au rfl) rfl) rfl)))));(· lia;exact cQ (k:=3) rfl (by ac_rfl) (dz (cM (sv 5) (cM (sv 6) aK rfl) rfl));(· lia;(· exists qI (i:=2) ?_ ?_ ?_ ?_ ?_ ?_;exact nd;exact rfl;exact Or.inr rfl;rotate_left;rfl;exact oi;exact eO h hr (aV (sv 2) (aV (sv 5) (aV (sv 6) au rfl) rfl) rfl));(· lia;(· exists 4,eO a hr (aV (sv 0) (aV (sv 2) (aV Ce au rfl) rfl) rfl));exact aq))))))
 lia;.exists(),sv 3
 exact aq
abbrev s9:Stmt:=top 22
noncomputable def b9:List S:=[.asg 2 (.lst []),.asg 3 ↑1,.iB ↑0 [4,5] false [.asg 6 (.blt .min2 [↑3,↑5]),.app 2 (.tup [↑4,↑6]),.aug 3 true ↑6],.ifs (.cmp .gt ↑3 ⇑0) [.yV 7] [],.ret ↑2]
def f9:Fd:=⟨2,7,b9⟩
theorem sc9:aO ["pairs","rate","cut","left","first","loads","taken"] ["pairs","rate"] (ao s9):=nofun
include cl in
theorem d9(a:jy K "cut_to_rate" "cut_to_rate" s9 f fd)(cJ:mg "min"=none):↥(["pairs","rate"],2,f9):=by
 exists a,sc9,0,0;refine aZ ?_ ?_;.exists 2,cC aK
 lia;.exists 3,sv 1
 lia;.exact(jt PassesOwn.never hc (bH (sv 0)) (dC hc (aH (aD (i:=4) nd rfl oi oi) (aH (aD (i:=5) nd rfl oi oi) cu))) (gW rfl (bF _ _ (bF _ _ fC 5) 4)) (by lia;(· exists 6,iM rfl hc (by rfl) cJ (cM (sv 3) (cM (sv 5) aK rfl) rfl));(· lia;exact cQ (k:=2) rfl (by ac_rfl) (dz (cM (sv 4) (cM (sv 6) aK rfl) rfl));(· lia;exact wF (i:=3) (sub:=true) qw nd rfl oi (sv 6) (Or.inl rfl);exact aq))))
 lia;.exists j5 ?_ ?_ ?_;exact eV kI (sv 3) ak (dN _);(· lia;exact wQ;exact aq);exact aq
 lia;.exists(),sv 2
 exact aq
include cl in
theorem dx9(a:jy K "cut_to_rate" "cut_to_rate" s9 f fd)(cJ:mg "min"=none)(lK:OwnCls "TooMuch" (cl 7) [.type "ValueError",.type "Exception",.type "BaseException",.type "object"] "ValueError.__new__" mg base):jh Pg w K mg base (xg Pg w) (k+1) f fd ["pairs","rate"] (NZ K cl 2 (λargs=>enter c n f9 args)):=by
 refine wg a sc9 rfl rfl λcdv A outer s H E W hr b=>?_;have nd:=sc9.nd;have e:zb (lU (xg Pg w) Pg w K mg base ["pairs","rate","cut","left","first","loads","taken"] "cut_to_rate" (ao s9) f cdv A outer s H E) E:=nU;refine aX ?_ ?_ ?_;.exists 2,cC aK
 .exact(di (by intro _;rfl))
 exists aX ?_ ?_ ?_;.exists 3,sv 1
 .exact(di (by intro _;rfl))
 exists aX ?_ ?_ ?_;.exact(jt jd hc (bH (sv 0)) (dC hc (aH (aD (i:=4) nd rfl oi oi) (aH (aD (i:=5) nd rfl oi oi) cu))) (gW rfl (bF _ _ (bF _ _ fC 5) 4)) (by lia;(· exists 6,iM rfl hc (by rfl) cJ (cM (sv 3) (cM (sv 5) aK rfl) rfl));(· lia;exact cQ (k:=2) rfl (by ac_rfl) (dz (cM (sv 4) (cM (sv 6) aK rfl) rfl));(· lia;exact wF (i:=3) (sub:=true) qw nd rfl oi (sv 6) (Or.inl rfl);exact aq))))
 .exact(vV jd hc (bH (sv 0)) (dC hc (aH (aD (i:=4) nd rfl oi oi) (aH (aD (i:=5) nd rfl oi oi) cu))) (gW rfl (bF _ _ (bF _ _ fC 5) 4)) (by lia;(· exists 6,iM rfl hc (by rfl) cJ (cM (sv 3) (cM (sv 5) aK rfl) rfl));(· lia;exact cQ (k:=2) rfl (by ac_rfl) (dz (cM (sv 4) (cM (sv 6) aK rfl) rfl));(· lia;exact wF (i:=3) (sub:=true) qw nd rfl oi (sv 6) (Or.inl rfl);exact aq))) (aX (by exists 6,iM rfl hc (by rfl) cJ (cM (sv 3) (cM (sv 5) aK rfl) rfl)) (di (by intro _;rfl)) (aX (cQ (k:=2) rfl (by ac_rfl) (dz (cM (sv 4) (cM (sv 6) aK rfl) rfl))) di (aX (wF (i:=3) (sub:=true) qw nd rfl oi (sv 6) (Or.inl rfl)) di eG))) (by intro _;rfl))
 exists aX ?_ ?_ ?_;.exists j5 ?_ ?_ ?_;exact eV kI (sv 3) ak (dN _);(· lia;exact wQ;exact aq);exact aq
 .exact(Ht (eV kI (sv 3) ak (dN _)) (aX wQ (Hu hc rfl (by rfl) lK PySem.F.excBase_ValueError e (λH z=>b 7 H z)) eG) eG)
 exists aX ?_ ?_ ?_;.exists(),sv 2
 .exact di
 exact eG
abbrev tM:Stmt:=top 24
noncomputable def b10:List S:=[.Ky 1 false,.iB (.call 8 [↑0]) [2,3] false [.asg 4 (.call 3 [↑0,↑2]),.dput 1 ↑4 (.bin .add (.Xl 1 ↑4 ⇑0) ↑3)],.ret (.blt .Ku [.vw 1])]
def f10:Fd:=⟨1,5,b10⟩
theorem acP:aO ["net","bends","steps","loads","length"] ["net"] (ao tM):=nofun
include cl in
theorem d10(a:jy K "bends_of" "bends_of" tM f fd)(tH:mg "sorted"=none)(b:↥(8,"chains_to_end",1,0))(e:↥(3,"steps_hours",2,0)):↥(["net"],1,f10):=by
 exists a,acP,0,0;refine aZ ?_ ?_;.exact(Li (i:=1) nd rfl oi (by rfl) (Or.inl rfl))
 lia;.exact(jt PassesOwn.never hc (bH (eO b hr (aV (sv 0) au rfl))) (dC hc (aH (aD (i:=2) nd rfl oi oi) (aH (aD (i:=3) nd rfl oi oi) cu))) (gW rfl (bF _ _ (bF _ _ fC 3) 2)) (by lia;(· exists 4,eO e hr (aV (sv 0) (aV (sv 2) au rfl) rfl));(· lia;exact MJ (i:=1) (bZ hr) rfl (by ac_rfl) (sv 4) (aB bh (R4 (i:=1) (bZ hr) rfl (by ac_rfl) (sv 4) ak ⟨rfl,rfl,rfl,rfl⟩) (sv 3)) (by rfl);exact aq)))
 lia;.exists(),Lg rfl hc (by rfl) tH rfl (Io (i:=1) rfl (by ac_rfl))
 exact aq
abbrev VR:Stmt:=top 25
noncomputable def b11:List S:=[.ret (.blt .sum [.comp (.call 9 [.call 10 [↑0],↑1]) 2 [2,3] false none (.bin .mul ↑2 ↑3)])]
def f11:Fd:=⟨2,2,b11⟩
theorem Vq:aO ["net","rate"] ["net","rate"] (ao VR):=nofun
include cl in
theorem d11(a:jy K "least_hours" "least_hours" VR f fd)(fc:mg "sum"=none)(b:↥(10,"bends_of",1,0))(e:↥(9,"cut_to_rate",2,0)):↥(["net","rate"],2,f11):=by
 exists a,Vq,0,0;refine aZ ?_ ?_;.exists(),oZ rfl hc (by rfl) fc (dM (N':=["net","rate","length","loads"]) hc (zZ rfl (by rfl)) (bH (eO e hr (aV (eO b hr (aV (sv 0) au rfl)) (aV (sv 1) au rfl) rfl))) ⇑(dC hc (aH (aD (i:=2) ‹["net","rate","length","loads"]› rfl (Or.inl rfl) (Or.inr rfl)) (aH (aD (i:=3) ‹["net","rate","length","loads"]› rfl (Or.inl rfl) (Or.inr rfl)) cu))) (lB rfl (cW (show 2<=2 by decide) (cW (show 2<=3 by decide) lu))) ⇑(dg) ⇑((aB dJ (sv 2) (sv 3))))
 exact aq
include cl in
theorem aej(b:jy K "least_hours" "least_hours" VR f fd)(fc:mg "sum"=none)(a:↥(10,"bends_of",1,0))(e:↥(9,"cut_to_rate",2,0))(g:iI Pg w K mg base cl k c 9 "cut_to_rate" 2):jh Pg w K mg base (xg Pg w) (k+1) f fd ["net","rate"] (NZ K cl 2 (λargs=>enter c n f11 args)):=by
 refine wg b Vq rfl rfl λcdv A outer s H E W hr h=>?_;have nd:=Vq.nd;have j:zb (lU (xg Pg w) Pg w K mg base ["net","rate"] "least_hours" (ao VR) f cdv A outer s H E) E:=nU;refine aX ?_ ?_ ?_;.exists(),oZ rfl hc (by rfl) fc (dM (N':=["net","rate","length","loads"]) hc (zZ rfl (by rfl)) (bH (eO e hr (aV (eO a hr (aV (sv 0) au rfl)) (aV (sv 1) au rfl) rfl))) ⇑(dC hc (aH (aD (i:=2) ‹["net","rate","length","loads"]› rfl (Or.inl rfl) (Or.inr rfl)) (aH (aD (i:=3) ‹["net","rate","length","loads"]› rfl (Or.inl rfl) (Or.inr rfl)) cu))) (lB rfl (cW (show 2<=2 by decide) (cW (show 2<=3 by decide) lu))) ⇑(dg) ⇑((aB dJ (sv 2) (sv 3))))
 .exact(Om (RJ (N':=["net","rate","length","loads"]) rfl hc (by rfl) fc (zZ rfl (by rfl)) (Dk rfl (Al j h) g hr (aV (eO a hr (aV (sv 0) au rfl)) (aV (sv 1) au rfl) rfl)) ⇑(dC hc (aH (aD (i:=2) ‹["net","rate","length","loads"]› rfl (Or.inl rfl) (Or.inr rfl)) (aH (aD (i:=3) ‹["net","rate","length","loads"]› rfl (Or.inl rfl) (Or.inr rfl)) cu))) (lB rfl (cW (show 2<=2 by decide) (cW (show 2<=3 by decide) lu))) ⇑(dg) ⇑((aB dJ (sv 2) (sv 3))) (by intro _;rfl)))
 exact eG
abbrev s12:Stmt:=top 27
noncomputable def b12:List S:=[.asg 2 (.blt .sum [.comp (.idx ↑0 ⇑1) 1 [6] true none (.idx ↑6 ⇑3)]),.O5 3 0 0,.iB (.wW ⇑1 (.idx ↑0 ⇑0)) [4] true [.iz 3 ↑4 ↑2],.asg 5 (.call 5 [↑0,↑1,.vw 3]),.ret (.comp (.wW ⇑0 (.idx ↑0 ⇑0)) 1 [6] true none (.idx (.bin .Bd ↑5 ↑6) ⇑0))]
def f12:Fd:=⟨2,6,b12⟩
theorem adm:aO ["net","stream","late","begun","place","come"] ["net","stream"] (ao s12):=nofun
include cl in
theorem d12(a:jy K "found_clocks" "found_clocks" s12 f fd)(bM:mg "range"=none)(fc:mg "sum"=none)(b:↥(5,"shortest_come",3,0)):↥(["net","stream"],2,f12):=by
 exists a,adm,0,0;refine aZ ?_ ?_;.exists 2,oZ rfl hc (by rfl) fc (dM (N':=["net","stream","late","begun","place","come","way"]) hc (zZ rfl (by rfl)) (bH (aC (sv 0) ak)) ⇑(aD (i:=6) ‹["net","stream","late","begun","place","come","way"]› rfl (Or.inl rfl) (Or.inr rfl)) (fG (eY)) ⇑(dg) ⇑((aC (sv 6) ak)))
 lia;.exact(M5 (i:=3) nd rfl oi (by rfl) (Or.inl rfl))
 lia;.exists 4,Bw rfl (by rfl) bM ak (aC (sv 0) ak),0;(· lia;exact p7 (i:=3) (bZ hr) rfl (by ac_rfl) (sv 4) (sv 2) (by rfl);exact aq)
 lia;.exists qI (i:=5) ?_ ?_ ?_ ?_ ?_ ?_;exact nd;exact rfl;exact Or.inr rfl;rotate_left;rfl;exact oi;exact eO b hr (aV (sv 0) (aV (sv 1) (aV (Io (i:=3) rfl (by ac_rfl)) au rfl) rfl) rfl)
 lia;.exists(),dM (N':=["net","stream","late","begun","place#4","come","place"]) hc (zZ rfl (by rfl)) (oh rfl (by rfl) bM (aC (sv 0) ak)) ⇑(aD (i:=6) ‹["net","stream","late","begun","place#4","come","place"]› rfl (Or.inl rfl) (Or.inr rfl)) (fG (eY)) ⇑(dg) ⇑((aC (qp (bZ hr) (sv 5) (sv 6) (λ_ _=>rfl)) ak))
 exact aq
abbrev Z1:Stmt:=top 28
noncomputable def b13:List S:=[.asg 2 (.bin .mul (.lst [⇑0]) (.blt .len [.idx ↑0 ⇑1])),.iB (.call 9 [.call 8 [↑0],↑1]) [3,4] false [.asg 2 (.call 7 [↑2,↑3,↑4])],.ret (.tup [↑2,.call 12 [↑0,↑2]])]
def XD:Fd:=⟨2,5,b13⟩
theorem Rb:aO ["net","rate","stream","steps","loads"] ["net","rate"] (ao Z1):=nofun
include cl in
theorem d13(a:jy K "light_stream" "light_stream" Z1 f fd)(dF:mg "len"=none)(b:↥(8,"chains_to_end",1,0))(e:↥(9,"cut_to_rate",2,0))(g:↥(12,"found_clocks",2,0))(h:↥(7,"stream_with",3,0)):↥(["net","rate"],2,XD):=by
 exists a,Rb,0,0;refine aZ ?_ ?_;.exists 2,aB dJ (cC (cM ak aK rfl)) (ju rfl (by rfl) dF (aC (sv 0) ak))
 lia;.exact(jt PassesOwn.never hc (bH (eO e hr (aV (eO b hr (aV (sv 0) au rfl)) (aV (sv 1) au rfl) rfl))) (dC hc (aH (aD (i:=3) nd rfl oi oi) (aH (aD (i:=4) nd rfl oi oi) cu))) (gW rfl (bF _ _ (bF _ _ fC 4) 3)) (by lia;(· exists 2,eO h hr (aV (sv 2) (aV (sv 3) (aV (sv 4) au rfl) rfl) rfl));exact aq))
 lia;.exists(),dz (cM (sv 2) (cM (eO g hr (aV (sv 0) (aV (sv 2) au rfl) rfl)) aK rfl) rfl)
 exact aq
include cl in
theorem adt(j:jy K "light_stream" "light_stream" Z1 f fd)(dF:mg "len"=none)(a:↥(8,"chains_to_end",1,0))(e:↥(9,"cut_to_rate",2,0))(l:↥(12,"found_clocks",2,0))(b:↥(7,"stream_with",3,0))(m:iI Pg w K mg base cl k c 9 "cut_to_rate" 2)(o:iI Pg w K mg base cl k c 7 "stream_with" 3):jh Pg w K mg base (xg Pg w) (k+1) f fd ["net","rate"] (NZ K cl 2 (λargs=>enter c n XD args)):=by
 refine wg j Rb rfl rfl λcdv A outer s H E W hr g=>?_;have nd:=Rb.nd;have h:zb (lU (xg Pg w) Pg w K mg base ["net","rate","stream","steps","loads"] "light_stream" (ao Z1) f cdv A outer s H E) E:=nU;refine aX ?_ ?_ ?_;.exists 2,aB dJ (cC (cM ak aK rfl)) (ju rfl (by rfl) dF (aC (sv 0) ak))
 .exact(di (by intro _;rfl))
 exists aX ?_ ?_ ?_;.exact(jt jd hc (bH (eO e hr (aV (eO a hr (aV (sv 0) au rfl)) (aV (sv 1) au rfl) rfl))) (dC hc (aH (aD (i:=3) nd rfl oi oi) (aH (aD (i:=4) nd rfl oi oi) cu))) (gW rfl (bF _ _ (bF _ _ fC 4) 3)) (by lia;(· exists 2,eO b hr (aV (sv 2) (aV (sv 3) (aV (sv 4) au rfl) rfl) rfl));exact aq))
 .exact(vV jd hc (bH (eO e hr (aV (eO a hr (aV (sv 0) au rfl)) (aV (sv 1) au rfl) rfl))) (dC hc (aH (aD (i:=3) nd rfl oi oi) (aH (aD (i:=4) nd rfl oi oi) cu))) (gW rfl (bF _ _ (bF _ _ fC 4) 3)) (by lia;(· exists 2,eO b hr (aV (sv 2) (aV (sv 3) (aV (sv 4) au rfl) rfl) rfl));exact aq) (aX (by exists 2,eO b hr (aV (sv 2) (aV (sv 3) (aV (sv 4) au rfl) rfl) rfl)) (vP (i:=2) rfl (Al h g) o hr nd rfl oi (aV (sv 2) (aV (sv 3) (aV (sv 4) au rfl) rfl) rfl)) eG) (by intro _;rfl) (J8 (Dk rfl (Al h g) m hr (aV (eO a hr (aV (sv 0) au rfl)) (aV (sv 1) au rfl) rfl))))
 exists aX ?_ ?_ ?_;.exists(),dz (cM (sv 2) (cM (eO l hr (aV (sv 0) (aV (sv 2) au rfl) rfl)) aK rfl) rfl)
 .exact di
 exact eG
abbrev s14:Stmt:=top 30
noncomputable def b14:List S:=[.ret (.lst [.blt .max2 [⇑0,.bin .sub ↑0 (.bin .pow ⇑10 ⇑18)],.bin .mod ↑0 (.bin .pow ⇑10 ⇑18),⇑0])]
def f14:Fd:=⟨1,1,b14⟩
theorem acV:aO ["cell"] ["cell"] (ao s14):=nofun
include cl in
theorem d14(a:jy K "_law_pool" "_law_pool" s14 f fd)(jN:mg "max"=none):↥(["cell"],1,f14):=by
 exists a,acV,0,0;refine aZ ?_ ?_;.exists(),cC (cM (qx rfl hc (by rfl) jN (cM ak (cM (aB lJ (sv 0) (aB mW ak ak)) aK rfl) rfl)) (cM (aB gk (sv 0) (aB mW ak ak)) (cM ak aK rfl) rfl) rfl)
 exact aq
abbrev s15:Stmt:=top 31
noncomputable def b15:List S:=[.ifs (.cmp .gt (.idx ↑0 ⇑0) ⇑0) [.asg 2 (.bin .mod (.idx ↑0 ⇑0) ↑1),.Gf 0 ⇑0 (.bin .fdiv (.idx ↑0 ⇑0) ↑1),.ret ↑2] [],.Gf 0 ⇑2 (.bin .add (.idx ↑0 ⇑2) ⇑1),.asg 3 (.bin .mod (.bin .add (.idx ↑0 ⇑1) (.bin .mul ⇑7919 (.idx ↑0 ⇑2))) ⇑1000000007),.asg 4 (.bin .mod (.bin .mul (.bin .add ↑3 ⇑11) (.bin .add ↑3 ⇑48271)) ⇑998244353),.ret (.bin .mod (.bin .fdiv (.bin .mod (.bin .mul ↑4 ↑4) ⇑2147483647) ⇑8) ↑1)]
def f15:Fd:=⟨2,5,b15⟩
theorem acv:aO ["pool","base","digit","near","stir"] ["pool","base"] (ao s15):=nofun
include cl in
theorem d15(a:jy K "_law_next" "_law_next" s15 f fd):↥(["pool","base"],2,f15):=by
 exists a,acv,0,0;refine aZ ?_ ?_;.exists j5 ?_ ?_ ?_;exact eV kI (aC (sv 0) ak) ak (dN _);(· lia;(· exists 2,aB gk (aC (sv 0) ak) (sv 1));(· lia;exact wO (k:=0) rfl (by ac_rfl) ak (aB xY (aC (sv 0) ak) (sv 1));(· lia;(· exists(),sv 2);exact aq)));exact aq
 lia;.exact(wO (k:=0) rfl (by ac_rfl) ak (aB bh (aC (sv 0) ak) ak))
 lia;.exists 3,aB gk (aB bh (aC (sv 0) ak) (aB dJ ak (aC (sv 0) ak))) ak
 lia;.exists 4,aB gk (aB dJ (aB bh (sv 3) ak) (aB bh (sv 3) ak)) ak
 lia;.exists(),aB gk (aB xY (aB gk (aB dJ (sv 4) (sv 4)) ak) ak) (sv 1)
 exact aq
abbrev s16:Stmt:=top 32
noncomputable def b16:List S:=[.ret (.bin .mod (.bin .add (.bin .mul (.call 15 [↑0,⇑100000]) ⇑100000) (.call 15 [↑0,⇑100000])) ↑1)]
def f16:Fd:=⟨2,2,b16⟩
theorem adP:aO ["pool","base"] ["pool","base"] (ao s16):=nofun
include cl in
theorem d16(b:jy K "_law_wide" "_law_wide" s16 f fd)(a:↥(15,"_law_next",2,0)):↥(["pool","base"],2,f16):=by
 exists b,adP,0,0;refine aZ ?_ ?_;.exists(),aB gk (aB bh (aB dJ (eO a hr (aV (sv 0) (aV ak au rfl) rfl)) ak) (eO a hr (aV (sv 0) (aV ak au rfl) rfl))) (sv 1)
 exact aq
abbrev s17:Stmt:=top 33
noncomputable def b17:List S:=[.asg 2 (.bin .add ⇑2 (.call 15 [↑0,⇑5])),.asg 3 (.idx (.lst [⇑4,⇑3,⇑8,.bin .add (.bin .pow ⇑10 ⇑9) ⇑1]) (.call 15 [↑0,⇑4])),.asg 4 (.idx (.lst [⇑3,⇑5,⇑4,.bin .pow ⇑10 ⇑6]) (.call 15 [↑0,⇑4])),.asg 5 (.lst []),.iB (.wW ⇑0 (.idx (.lst [↑1,.call 15 [↑0,.bin .add ↑1 ⇑1]]) (.call 15 [↑0,⇑2]))) [6] true [.asg 7 (.call 15 [↑0,↑2]),.asg 8 (.bin .mod (.bin .add (.bin .add ↑7 ⇑1) (.call 15 [↑0,.bin .sub ↑2 ⇑1])) ↑2),.ifs (.cmp .gt (.call 15 [↑0,⇑4]) ⇑0) [.par 7 8 (.blt .min2 [↑7,↑8]) (.blt .max2 [↑7,↑8])] [],.app 5 (.tup [↑7,↑8,.call 16 [↑0,↑3],.bin .add ⇑1 (.call 16 [↑0,↑4])])],.ret (.tup [↑2,.blt .tuple [↑5]])]
def f17:Fd:=⟨2,9,b17⟩
theorem aep:aO ["pool","most","many","rooms","hours","ways","k","one","other"] ["pool","most"] (ao s17):=nofun
include cl in
theorem d17(e:jy K "_law_net" "_law_net" s17 f fd)(jN:mg "max"=none)(cJ:mg "min"=none)(bM:mg "range"=none)(gP:mg "tuple"=none)(a:↥(15,"_law_next",2,0))(b:↥(16,"_law_wide",2,0)):↥(["pool","most"],2,f17):=by
 exists e,aep,0,0;refine aZ ?_ ?_;.exists 2,aB bh ak (eO a hr (aV (sv 0) (aV ak au rfl) rfl))
 lia;.exists 3,aC (cC (wB [4,3,8] rfl (cM (aB bh (aB mW ak ak) ak) aK rfl))) (eO a hr (aV (sv 0) (aV ak au rfl) rfl))
 lia;.exists 4,aC (cC (wB [3,5,4] rfl (cM (aB mW ak ak) aK rfl))) (eO a hr (aV (sv 0) (aV ak au rfl) rfl))
 lia;.exists 5,cC aK
 lia;.exists 6,oh rfl (by rfl) bM (aC (cC (cM (sv 1) (cM (eO a hr (aV (sv 0) (aV (aB bh (sv 1) ak) au rfl) rfl)) aK rfl) rfl)) (eO a hr (aV (sv 0) (aV ak au rfl) rfl))),0;(· lia;(· exists 7,eO a hr (aV (sv 0) (aV (sv 2) au rfl) rfl));(· lia;(· exists 8,aB gk (aB bh (aB bh (sv 7) ak) (eO a hr (aV (sv 0) (aV (aB lJ (sv 2) ak) au rfl) rfl))) (sv 2));(· lia;(· exists j5 ?_ ?_ ?_;exact eV kI (eO a hr (aV (sv 0) (aV ak au rfl) rfl)) ak (dN _);(· lia;exact R8 (i:=7) (j:=8) hc nd rfl rfl (by decide) rfl rfl (iM rfl hc (by rfl) cJ (cM (sv 7) (cM (sv 8) aK rfl) rfl)) (qx rfl hc (by rfl) jN (cM (sv 7) (cM (sv 8) aK rfl) rfl));exact aq);exact aq);(· lia;exact cQ (k:=5) rfl (by ac_rfl) (dz (cM (sv 7) (cM (sv 8) (cM (eO b hr (aV (sv 0) (aV (sv 3) au rfl) rfl)) (cM (aB bh ak (eO b hr (aV (sv 0) (aV (sv 4) au rfl) rfl))) aK rfl) rfl) rfl) rfl));exact aq))))
 lia;.exists(),dz (cM (sv 2) (cM (GJ rfl (by rfl) gP (sv 5)) aK rfl) rfl)
 exact aq
abbrev s18:Stmt:=top 34
noncomputable def b18:List S:=[.ret (.and (.inst [.int] ↑0) (.not (.inst [.bool] ↑0)))]
def f18:Fd:=⟨1,1,b18⟩
theorem aef:aO ["found"] ["found"] (ao s18):=nofun
include cl in
theorem d18(a:jy K "_law_whole" "_law_whole" s18 f fd)(Bh:mg "bool"=none)(KN:mg "int"=none)(aU:mg "isinstance"=none):↥(["found"],1,f18):=by
 exists a,aef,0,0;refine aZ ?_ ?_;.exists(),v9 (nJ .int rfl (by rfl) aU (sv 0) (by rfl) KN (by kernel_rfl) (by decide) (by rfl)) (wD (Rf (nJ .bool rfl (by rfl) aU (sv 0) (by rfl) Bh (by kernel_rfl) (by decide) (by rfl))))
 exact aq
abbrev s19:Stmt:=top 35
noncomputable def b19:List S:=[.ifs (.or (.not (.inst [.list] ↑0)) (.not (.blt .all [.comp ↑0 1 [2] true none (.and (.inst [.tuple] ↑2) (.cmp .eq (.blt .len [↑2]) ⇑2))]))) [.ret (.con (.bl false))] [],.ifs (.not (.blt .all [.comp ↑0 2 [2,3] false none (.and (.call 18 [↑2]) (.and (.call 18 [↑3]) (.cmp .gt ↑3 ⇑0)))])) [.ret (.con (.bl false))] [],.asg 1 (.bin .add (.lst [⇑0]) (.comp ↑0 2 [2,3] false none ↑2)),.ret (.blt .all [.comp (.wW ⇑0 (.blt .len [↑0])) 1 [2] true none (.cmp .lt (.idx ↑1 ↑2) (.idx ↑1 (.bin .add ↑2 ⇑1)))])]
def f19:Fd:=⟨1,2,b19⟩
theorem aeB:aO ["bends","lengths"] ["bends"] (ao s19):=nofun
include cl in
theorem d19(b:jy K "_law_bends_formed" "_law_bends_formed" s19 f fd)(yX:mg "all"=none)(aU:mg "isinstance"=none)(dF:mg "len"=none)(fW:mg "list"=none)(bM:mg "range"=none)(gP:mg "tuple"=none)(a:↥(18,"_law_whole",1,0)):↥(["bends"],1,f19):=by
 exists b,aeB,0,0;refine aZ ?_ ?_;.exists j5 ?_ ?_ ?_;exact SW.st (yf (mO (fu (nJ .list rfl (by rfl) aU (sv 0) (by rfl) fW (by kernel_rfl) (by decide) (by rfl)))) (sE (mO (fu (zG rfl hc (by rfl) yX (dM (N':=["bends","lengths","pair"]) hc (zZ rfl (by rfl)) (bH (sv 0)) ⇑(aD (i:=2) ‹["bends","lengths","pair"]› rfl (Or.inl rfl) (Or.inr rfl)) (fG (eY)) ⇑(dg) ⇑((v9 (nJ .tuple rfl (by rfl) aU (sv 2) (by rfl) gP (by kernel_rfl) (by decide) (by rfl)) (wD (zU (zO (bZ hr)) (ju rfl (by rfl) dF (sv 2)) ak (dN _)))))))))));(· lia;(· exists(),nZ);exact aq);exact aq
 lia;.exists j5 ?_ ?_ ?_;exact mO (fu (zG rfl hc (by rfl) yX (dM (N':=["bends","lengths","length","loads"]) hc (zZ rfl (by rfl)) (bH (sv 0)) ⇑(dC hc (aH (aD (i:=2) ‹["bends","lengths","length","loads"]› rfl (Or.inl rfl) (Or.inr rfl)) (aH (aD (i:=3) ‹["bends","lengths","length","loads"]› rfl (Or.inl rfl) (Or.inr rfl)) cu))) (lB rfl (cW (show 2<=2 by decide) (cW (show 2<=3 by decide) lu))) ⇑(dg) ⇑((v9 (eO a hr (aV (sv 2) au rfl)) (v9 (eO a hr (aV (sv 3) au rfl)) (wD (zU kI (sv 3) ak (dN _)))).ev)))));(· lia;(· exists(),nZ);exact aq);exact aq
 lia;.exists qI (i:=1) ?_ ?_ ?_ ?_ ?_ ?_;exact nd;exact rfl;exact Or.inr rfl;rotate_left;rfl;exact oi;exact aB bh (cC (cM ak aK rfl)) (dM (N':=["bends","lengths","length","loads"]) hc (zZ rfl (by rfl)) (bH (sv 0)) ⇑(dC hc (aH (aD (i:=2) ‹["bends","lengths","length","loads"]› rfl (Or.inl rfl) (Or.inr rfl)) (aH (aD (i:=3) ‹["bends","lengths","length","loads"]› rfl (Or.inl rfl) (Or.inr rfl)) cu))) (lB rfl (cW (show 2<=2 by decide) (cW (show 2<=3 by decide) lu))) ⇑(dg) ⇑((sv 2)))
 lia;.exists(),zG rfl hc (by rfl) yX (dM (N':=["bends","lengths","k"]) hc (zZ rfl (by rfl)) (oh rfl (by rfl) bM (ju rfl (by rfl) dF (sv 0))) ⇑(aD (i:=2) ‹["bends","lengths","k"]› rfl (Or.inl rfl) (Or.inr rfl)) (fG (eY)) ⇑(dg) ⇑((zU (Kd (bZ hr)) (aC (sv 1) (sv 2)) (aC (sv 1) (aB bh (sv 2) ak)) (dN _))))
 exact aq
abbrev s20:Stmt:=top 36
noncomputable def b20:List S:=[.asg 1 (.lst [.lst [⇑0]]),.iB (.wW ⇑1 (.bin .sub (.idx ↑0 ⇑0) ⇑1)) [2] true [.asg 1 (.bin .add ↑1 (.comp ↑1 1 [5] true none (.bin .add ↑5 (.lst [↑2]))))],.asg 3 (.lst []),.iB ↑1 [4] true [.app 3 (.blt .sum [.comp (.idx ↑0 ⇑1) 1 [5] true (some (.and (.cmp .inn (.idx ↑5 ⇑0) ↑4) (.cmp .DR (.idx ↑5 ⇑1) ↑4))) (.idx ↑5 ⇑2)])],.ret (.blt .Ge [↑3])]
def f20:Fd:=⟨1,5,b20⟩
theorem adJ:aO ["net","sides","place","found","side"] ["net"] (ao s20):=nofun
include cl in
theorem d20(a:jy K "_law_most_rate" "_law_most_rate" s20 f fd)(cJ:mg "min"=none)(bM:mg "range"=none)(fc:mg "sum"=none):↥(["net"],1,f20):=by
 exists a,adJ,0,0;refine aZ ?_ ?_;.exists 1,cC (cM (cC (cM ak aK rfl)) aK rfl)
 lia;.exists wj (i:=2) ?_ ?_ ?_ ?_ ?_ ?_ ?_ ?_ ?_;exact PassesOwn.never;exact hc;exact nd;exact rfl;exact Or.inr rfl;exact Bw rfl (by rfl) bM ak (aB lJ (aC (sv 0) ak) ak);(· lia;(· exists 1,aB bh (sv 1) (dM (N':=["net","sides","place","found","side#4","side"]) hc (zZ rfl (by rfl)) (bH (sv 1)) ⇑(aD (i:=5) ‹["net","sides","place","found","side#4","side"]› rfl (Or.inl rfl) (Or.inr rfl)) (fG (eY)) ⇑(dg) ⇑((aB bh (sv 5) (cC (cM (sv 2) aK rfl))))));exact aq);(· intro _;rfl);exact oi
 lia;.exists 3,cC aK
 lia;.exists wj (i:=4) ?_ ?_ ?_ ?_ ?_ ?_ ?_ ?_ ?_;exact PassesOwn.never;exact hc;exact nd;exact rfl;exact Or.inr rfl;exact bH (sv 1);(· lia;exact cQ (k:=3) rfl (by ac_rfl) (oZ rfl hc (by rfl) fc (dM (N':=["net","sides","place","found","side","way"]) hc (zZ rfl (by rfl)) (bH (aC (sv 0) ak)) ⇑(aD (i:=5) ‹["net","sides","place","found","side","way"]› rfl (Or.inl rfl) (Or.inr rfl)) (fG (eY)) ⇑(Ln (SW.st (Rh (eV Lh (aC (sv 5) ak) (sv 4) (by with_unfolding_all rfl)) (Mg (eV Ff (aC (sv 5) ak) (sv 4) (by with_unfolding_all rfl)))))) ⇑((aC (sv 5) ak))));exact aq);(· intro _;rfl);exact oi
 lia;.exists(),Dh rfl hc (by rfl) cJ (sv 3)
 exact aq
abbrev s21:Stmt:=top 37
noncomputable def b21:List S:=[.asg 3 (.con .non),.Kw [.ifs (.cmp .eq ↑2 ⇑0) [.asg 3 (.call 11 [↑0,↑1])] [.asg 3 (.call 13 [↑0,↑1])]] [none,none,none,none,none,none,none,some true,none,none,none]]
def f21:Fd:=⟨3,5,b21⟩
theorem acW:aO ["net","rate","way","told","e"] ["net","rate","way"] (ao s21):=nofun
include cl in
theorem d21(m:jy K "_law_too_much" "_law_too_much" s21 f fd)(jL:mg "ValueError"=none)(aU:mg "isinstance"=none)(g:↥(11,"least_hours",2,0))(h:↥(13,"light_stream",2,0))(kW:OwnCls "HaulError" (cl 0) [.type "ValueError",.type "Exception",.type "BaseException",.type "object"] "ValueError.__new__" mg base)(o:iI Pg w K mg base cl k c 11 "least_hours" 2)(p:iI Pg w K mg base cl k c 13 "light_stream" 2)(pq:Under base (cl 7) (cl 0))(ji:Ik K (cl 7))(jj:mg "BadHour"=some (.ref (cl 8)))(kY:mg "BadNet"=some (.ref (cl 1)))(iD:mg "BadTable"=some (.ref (cl 2)))(kZ:mg "NoBack"=some (.ref (cl 10)))(oA:mg "NoRow"=some (.ref (cl 9)))(lg:mg "NoText"=some (.ref (cl 3)))(lq:mg "NoWalk"=some (.ref (cl 6)))(oE:mg "NoWay"=some (.ref (cl 5)))(jk:mg "TooMany"=some (.ref (cl 4)))(aQ:mg "TooMuch"=some (.ref (cl 7)))(fJ:kitOne K (.ref (cl 7)) (.ref (cl 8))=some false)(fY:kitOne K (.ref (cl 7)) (.ref (cl 1))=some false)(eZ:kitOne K (.ref (cl 7)) (.ref (cl 2))=some false)(fZ:kitOne K (.ref (cl 7)) (.ref (cl 10))=some false)(gD:kitOne K (.ref (cl 7)) (.ref (cl 9))=some false)(gb:kitOne K (.ref (cl 7)) (.ref (cl 3))=some false)(gf:kitOne K (.ref (cl 7)) (.ref (cl 6))=some false)(gF:kitOne K (.ref (cl 7)) (.ref (cl 5))=some false)(fK:kitOne K (.ref (cl 7)) (.ref (cl 4))=some false)(fL:kitOne K (.ref (cl 7)) (.ref (cl 7))=some true)(dG:kitOne K (.ref (cl 7)) (.type "ValueError")=some true):↥(["net","rate","way"],3,f21):=by
 exists m,acW,0,0;refine aZ ?_ ?_;.exists 3,Ax
 exact(Nb (cl:=cl) (kk:=0) (i:=4) (j:=3) (by rfl) kW (by decide+kernel) rfl ⟨rfl,rfl⟩ nd rfl rfl rfl (Or.inl rfl) (by decide) (by ac_rfl) (λ_ _ W q l=>(aX (by exists j5 ?_ ?_ ?_;exact eV (zO (bZ hr)) (sv 2) ak (dN _);(· lia;(· exists 3,eO g hr (aV (sv 0) (aV (sv 1) au rfl) rfl));exact aq);(· lia;(· exists 3,eO h hr (aV (sv 0) (aV (sv 1) au rfl) rfl));exact aq)) (Ht (eV (zO (bZ hr)) (sv 2) ak (dN _)) (aX (by exists 3,eO g hr (aV (sv 0) (aV (sv 1) au rfl) rfl)) (vP (i:=3) rfl l o hr nd rfl oi (aV (sv 0) (aV (sv 1) au rfl) rfl)) eG) (aX (by exists 3,eO h hr (aV (sv 0) (aV (sv 1) au rfl) rfl)) (vP (i:=3) rfl l p hr nd rfl oi (aV (sv 0) (aV (sv 1) au rfl) rfl)) eG)) eG)) (dw (.inl rfl) (dw (.inl rfl) (dw (.inl rfl) (dw (.inl rfl) (dw (.inl rfl) (dw (.inl rfl) (dw (.inl rfl) (dw (.inr ⟨true,rfl,pq,λe r a=>(Zm (GW.gt (YB (b:=false) (b':=false) (GX (b:=true) (Ho (Hv a ji rfl (by rfl) aU rfl (by ac_rfl) (gh (v:=.ref (cl 7)) (by rfl) aQ rfl (by rfl)) gn fL))) (NP (b:=false) (GX (b:=true) (Ho (Hv a ji rfl (by rfl) aU rfl (by ac_rfl) (CV (v:=.ty "ValueError") (by rfl) jL (by kernel_rfl) rfl (by decide) (by rfl)) Tu dG)))))) (UL (b:=false) (SJ a ji rfl (by rfl) aU rfl (by ac_rfl) (gM (gh (v:=.ref (cl 8)) (by rfl) jj rfl (by rfl)) (gM (gh (v:=.ref (cl 1)) (by rfl) kY rfl (by rfl)) (gM (gh (v:=.ref (cl 2)) (by rfl) iD rfl (by rfl)) (gM (gh (v:=.ref (cl 10)) (by rfl) kZ rfl (by rfl)) (gM (gh (v:=.ref (cl 9)) (by rfl) oA rfl (by rfl)) (gM (gh (v:=.ref (cl 3)) (by rfl) lg rfl (by rfl)) (gM (gh (v:=.ref (cl 6)) (by rfl) lq rfl (by rfl)) (gM (gh (v:=.ref (cl 5)) (by rfl) oE rfl (by rfl)) (gM (gh (v:=.ref (cl 4)) (by rfl) jk rfl (by rfl)) Te))))))))) (fj gn (fj gn (fj gn (fj gn (fj gn (fj gn (fj gn (fj gn (fj gn Nu))))))))) (jG fJ (jG fY (jG eZ (jG fZ (jG gD (jG gb (jG gf (jG gF (jG fK Jd))))))))) (show 9<=sizeLine by decide))))⟩) (dw (.inl rfl) (dw (.inl rfl) (dw (.inl rfl) Mf))))))))))) (by rfl) (by rfl) (by rfl) (by rfl) (Or.inl rfl))
abbrev s22:Stmt:=top 38
noncomputable def b22:List S:=[.asg 2 ⇑0,.iB ↑0 [3,4] false [.asg 2 (.bin .add ↑2 (.bin .mul ↑3 (.blt .max2 [⇑0,.blt .min2 [↑4,↑1]]))),.asg 1 (.bin .sub ↑1 ↑4)],.ret ↑2]
def f22:Fd:=⟨2,5,b22⟩
theorem acO:aO ["bends","rate","hours","length","loads"] ["bends","rate"] (ao s22):=nofun
include cl in
theorem d22(a:jy K "_law_first" "_law_first" s22 f fd)(jN:mg "max"=none)(cJ:mg "min"=none):↥(["bends","rate"],2,f22):=by
 exists a,acO,0,0;refine aZ ?_ ?_;.exists 2,ak
 lia;.exact(jt PassesOwn.never hc (bH (sv 0)) (dC hc (aH (aD (i:=3) nd rfl oi oi) (aH (aD (i:=4) nd rfl oi oi) cu))) (gW rfl (bF _ _ (bF _ _ fC 4) 3)) (by lia;(· exists 2,aB bh (sv 2) (aB dJ (sv 3) (qx rfl hc (by rfl) jN (cM ak (cM (iM rfl hc (by rfl) cJ (cM (sv 4) (cM (sv 1) aK rfl) rfl)) aK rfl) rfl))));(· lia;(· exists 1,aB lJ (sv 1) (sv 4));exact aq)))
 lia;.exists(),sv 2
 exact aq
abbrev s23:Stmt:=top 39
noncomputable def b23:List S:=[.asg 2 (.bin .mul (.lst [⇑0]) ↑1),.iB (.wW ⇑0 (.blt .len [↑0])) [3] true [.Gf 2 (.bin .mod ↑3 ↑1) (.bin .add (.bin .mul (.idx ↑2 (.bin .mod ↑3 ↑1)) ⇑1000003) (.idx ↑0 ↑3))],.ret (.slice ↑2 (.con .non) (.blt .max2 [⇑1,.blt .min2 [.blt .len [↑0],↑1]]))]
def f23:Fd:=⟨2,4,b23⟩
theorem ad0:aO ["script","most","cells","k"] ["script","most"] (ao s23):=nofun
include cl in
theorem d23(a:jy K "_law_folded" "_law_folded" s23 f fd)(dF:mg "len"=none)(jN:mg "max"=none)(cJ:mg "min"=none)(bM:mg "range"=none):↥(["script","most"],2,f23):=by
 exists a,ad0,0,0;refine aZ ?_ ?_;.exists 2,aB dJ (cC (cM ak aK rfl)) (sv 1)
 lia;.exists 3,oh rfl (by rfl) bM (ju rfl (by rfl) dF (sv 0)),0;(· lia;exact wO (k:=2) rfl (by ac_rfl) (aB gk (sv 3) (sv 1)) (aB bh (aB dJ (aC (sv 2) (aB gk (sv 3) (sv 1))) ak) (aC (sv 0) (sv 3)));exact aq)
 lia;.exists(),ye (sv 2) Dd (CQ (qx rfl hc (by rfl) jN (cM ak (cM (iM rfl hc (by rfl) cJ (cM (ju rfl (by rfl) dF (sv 0)) (cM (sv 1) aK rfl) rfl)) aK rfl) rfl)))
 exact aq
abbrev s24:Stmt:=top 40
noncomputable def b24:List S:=[.iB (.call 23 [↑0,⇑10]) [1] true [.asg 2 (.call 14 [↑1]),.asg 3 (.call 17 [↑2,⇑12]),.asg 4 (.call 20 [↑3]),.asg 5 (.call 10 [↑3]),.ifs (.or (.not (.call 19 [↑5])) (.cmp .ne (.blt .sum [.comp ↑5 2 [9,10] false none ↑10]) ↑4)) [.ret (.con (.bl false))] [],.iB (.lst [⇑0,.blt .min2 [⇑1,↑4],.call 16 [↑2,.bin .add ↑4 ⇑1],↑4]) [6] true [.asg 7 (.call 11 [↑3,↑6]),.ifs (.or (.not (.call 18 [↑7])) (.cmp .ne ↑7 (.call 22 [↑5,↑6]))) [.ret (.con (.bl false))] []],.asg 8 (.idx (.lst [⇑1,⇑2,.bin .pow ⇑10 ⇑25]) (.call 15 [↑2,⇑3])),.ifs (.or (.not (.call 21 [↑3,.bin .add ↑4 ↑8,⇑0])) (.not (.call 21 [↑3,.bin .add ↑4 ↑8,⇑1]))) [.ret (.con (.bl false))] []],.ret (.con (.bl true))]
def f24:Fd:=⟨1,9,b24⟩
theorem acx:aO ["script","cell","pool","net","most","bends","rate","found","far"] ["script"] (ao s24):=nofun
include cl in
theorem d24(b:jy K "law" "law" s24 f fd)(cJ:mg "min"=none)(fc:mg "sum"=none)(e:↥(19,"_law_bends_formed",1,0))(g:↥(22,"_law_first",2,0))(h:↥(23,"_law_folded",2,0))(j:↥(20,"_law_most_rate",1,0))(l:↥(17,"_law_net",2,0))(m:↥(15,"_law_next",2,0))(o:↥(14,"_law_pool",1,0))(a:↥(21,"_law_too_much",3,0))(p:↥(18,"_law_whole",1,0))(q:↥(16,"_law_wide",2,0))(r:↥(10,"bends_of",1,0))(t:↥(11,"least_hours",2,0)):↥(["script"],1,f24):=by
 exists b,acx,0,0;refine aZ ?_ ?_;.exists 1,bH (eO h hr (aV (sv 0) (aV ak au rfl) rfl)),0;(· lia;(· exists 2,eO o hr (aV (sv 1) au rfl));(· lia;(· exists 3,eO l hr (aV (sv 2) (aV ak au rfl) rfl));(· lia;(· exists 4,eO j hr (aV (sv 3) au rfl));(· lia;(· exists 5,eO r hr (aV (sv 3) au rfl));(· lia;(· exists j5 ?_ ?_ ?_;exact SW.st (yf (mO (fu (eO e hr (aV (sv 5) au rfl)))) (sE (eV (Ji (bZ hr)) (oZ rfl hc (by rfl) fc (dM (N':=["script","cell","pool","net","most","bends","rate","found","far","length","loads"]) hc (zZ rfl (by rfl)) (bH (sv 5)) ⇑(dC hc (aH (aD (i:=9) ‹["script","cell","pool","net","most","bends","rate","found","far","length","loads"]› rfl (Or.inl rfl) (Or.inr rfl)) (aH (aD (i:=10) ‹["script","cell","pool","net","most","bends","rate","found","far","length","loads"]› rfl (Or.inl rfl) (Or.inr rfl)) cu))) (lB rfl (cW (show 9<=9 by decide) (cW (show 9<=10 by decide) lu))) ⇑(dg) ⇑((sv 10)))) (sv 4) (dN _))));(· lia;(· exists(),nZ);exact aq);exact aq);(· lia;(· exists 6,bH (cC (cM ak (cM (iM rfl hc (by rfl) cJ (cM ak (cM (sv 4) aK rfl) rfl)) (cM (eO q hr (aV (sv 2) (aV (aB bh (sv 4) ak) au rfl) rfl)) (cM (sv 4) aK rfl) rfl) rfl) rfl)),0;(· lia;(· exists 7,eO t hr (aV (sv 3) (aV (sv 6) au rfl) rfl));(· lia;(· exists j5 ?_ ?_ ?_;exact SW.st (yf (mO (fu (eO p hr (aV (sv 7) au rfl)))) (sE (eV (Ji (bZ hr)) (sv 7) (eO g hr (aV (sv 5) (aV (sv 6) au rfl) rfl)) (dN _))));(· lia;(· exists(),nZ);exact aq);exact aq);exact aq)));(· lia;(· exists 8,aC (cC (cM ak (cM ak (cM (aB mW ak ak) aK rfl) rfl) rfl)) (eO m hr (aV (sv 2) (aV ak au rfl) rfl)));(· lia;(· exists j5 ?_ ?_ ?_;exact SW.st (yf (mO (fu (eO a hr (aV (sv 3) (aV (aB bh (sv 4) (sv 8)) (aV ak au rfl) rfl) rfl)))) (sE (mO (fu (eO a hr (aV (sv 3) (aV (aB bh (sv 4) (sv 8)) (aV ak au rfl) rfl) rfl))))));(· lia;(· exists(),nZ);exact aq);exact aq);exact aq))))))))
 lia;.exists(),nZ
 exact aq
end T
end
noncomputable section
namespace T
open PySem L2 PySem.Spec PyProof.Rows HH
def Γ:Tab:=λi=>[f0,f1,f2,f3,f4,f5,f6,f7,f8,f9,f10,f11,f12,XD,f14,f15,f16,f17,f18,f19,f20,f21,f22,f23,f24][i]?
end T
end
noncomputable section
namespace T
open HH
variable{w n j N l:Nat}{m a b i g p k:Int}{Q:R->List Sl->Prop}{f:Bool}{ch:List Int}{F q:Int->Int}{ρ:List Sl}{kvs r:List (Int×Int)}
local macro_rules|`(tactic|symm)=>`(tactic|first|apply aj|apply FP)
abbrev big:Int:=1606938044258990275541962092341162602522202993782792835301376
theorem dq{x y z:Int}(h0:0<m)(c:m<big)(k:∀d x z:Int,0<=d->d<m->Q (.val (.int d)) [.own true [.int x,.int y,.int z],.val false (.int m)]):(run Γ w (n+1) 15 [.own true [.int x,.int y,.int z],.val false (.int m)]).sat Q:=by
 have e:m<1606938044258990275541962092341162602522202993782792835301376:=c;refine bz (d:=f15) rfl rfl (by decide) ?_;symm;simp[f15];constructor;.intro _;symm;simp[h0];apply aj;simp[h0,e,jP];apply aj;simp;exact k _ _ _ (Int.emod_nonneg _ (by omega)) (Int.emod_lt_of_pos _ h0)
 . intro _;symm;simp[jP];apply aj;simp;generalize s:(y+7919*(z+1))%1000000007=q;have t:0<=q/\q<1000000007:=by omega
   have h:-18446744073709551616<q+11/\q+11<18446744073709551616:=by omega
   symm;simp[h];generalize hs:(q+11)*(q+48271)%998244353=st;have o:-18446744073709551616<st/\st<18446744073709551616:=by omega
   symm;simp[o,h0];exact k _ _ _ (Int.emod_nonneg _ (by omega)) (Int.emod_lt_of_pos _ h0)
theorem Ha{x:Int}(k:∀a b c:Int,Q (.own [.int a,.int b,.int c]) [.val false (.int x)]):(run Γ w (n+1) 14 [.val false (.int x)]).sat Q:=by refine bz (d:=f14) rfl rfl (by decide) ?_;symm;simp[f14];exact k _ _ _
structure Wy where(s t r h:Int)
variable{ws:List Wy}{v:Wy}
def Wy.d(w:Wy):D:=.tup [.int w.s,.int w.t,.int w.r,.int w.h]
structure Wy.Ok(m:Int)(w:Wy):Prop where
 s0:0<=w.s
 s1:w.s<m
 t0:0<=w.t
 t1:w.t<m
 ne:w.s≠w.t
 r0:0<=w.r
 r1:w.r<=1000000000
 h0:1<=w.h
 h1:w.h<=1000000
theorem other(h1:0<=a)(c:a<m)(o:0<=b)(s:b<m-1):0<=(a+1+b)%m/\(a+1+b)%m<m/\(a+1+b)%m≠a:=by
 by_cases h:a+1+b<m;.rw[Int.emod_eq_of_lt (by omega) h];omega
 . have e:(a+1+b)%m=a+1+b-m:=by rw[<-Int.sub_emod_right,Int.emod_eq_of_lt (by omega) (by omega)]
   rw[e];omega
def bT(m:Int)(ws:List Wy):D:=.tup [.int m,.tup (ws.map Wy.d)]
structure m9(m:Int)(ws:List Wy):Prop where
 m0:2<=m
 m1:m<=6
 len:ws.length<=12
 ok:∀w∈ws,w.Ok m
@[simp]theorem afr{m:Int}{ws:List Wy}:Nv (bT m ws) (.int 0)=some (.val (.int m)):=rfl
@[simp]theorem afw{m:Int}{ws:List Wy}:Nv (bT m ws) (.int 1)=some (.val (.tup (ws.map Wy.d))):=rfl
theorem jD(h:a<=1000000000000000000000):a<big:=by show _<(1606938044258990275541962092341162602522202993782792835301376:Int);omega
theorem Bp{ns:List Int}{lo hi:Int}(h0:0<=i)(h1:i<(ns.length:Int))(k:∀x∈ns,lo<=x/\x<=hi):∃r,at' (ns.map D.int) i=some (.int r)/\lo<=r/\r<=hi:=by
 have c:i.toNat<ns.length:=by omega
 refine⟨ns[i.toNat],?_,k _ (getElem_mem c)⟩;rw[zA h0 (by simpa using h1)];simp[c]
theorem ir{x y z:Int}(h0:0<m)(c:m<big)(k:∀d x z:Int,0<=d->d<m->Q (.val (.int d)) [.own true [.int x,.int y,.int z],.val false (.int m)]):(run Γ w (n+2) 16 [.own true [.int x,.int y,.int z],.val false (.int m)]).sat Q:=by refine bz (d:=f16) rfl rfl (by decide) ?_;symm;simp[f16];refine dq (by decide) (by decide) λa x z e h=>?_;simp;refine dq (by decide) (by decide) λb x z b0 b1=>?_;simp[h0];exact k _ _ _ (Int.emod_nonneg _ (by omega)) (Int.emod_lt_of_pos _ h0)
theorem U3{c:Type}{xs:List c}{lo hi:Option Int}:(cut xs lo hi).length<=xs.length:=by unfold cut;simp;omega
theorem Ox{cs:List Int}{a b:Option Int}:cut (cs.map D.int) a b=(cut cs a b).map D.int:=by unfold cut;simp
theorem aco{c:List D}{b:Zb}{ps:List P}:Qi (.lst c) (part (.con .non) .non) (part (.blt b ps) (.int i))=some (.own (cut c none (some i))):=rfl
inductive ZK(y m rr hh:Int)(i:Nat)(ρ:List Sl):Prop where|mk(x z:Int)(ws:List Wy)(s6 s7 s8:Sl)(q0:ρ=[.own true [.int x,.int y,.int z],.val false (.int 12),.val false (.int m),.val false (.int rr),.val false (.int hh),.own false (ws.map Wy.d),s6,s7,s8])(q1:A3 (fr s6=true) (fr s7=true) (fr s8=true))(q2:(∀v∈ws,v.Ok m))(q3:ws.length=i)
theorem Nx{x y z:Int}(k:∀(x z m:Int)(ws:List Wy),m9 m ws->Q (.val (bT m ws)) [.own true [.int x,.int y,.int z],.val false (.int 12)]):(run Γ w (n+3) 17 [.own true [.int x,.int y,.int z],.val false (.int 12)]).sat Q:=by
 refine bz (d:=f17) rfl rfl (by decide) ?_;symm;simp[f17];refine dq (by decide) (by decide) λb x z b0 b1=>?_;obtain⟨m,L⟩:∃m,2+b=m:=⟨_,rfl⟩;simp[L];apply aj;simp;refine dq (by decide) (by decide) λe x z A B=>?_;obtain⟨p,ep,X,p1⟩:=Bp (ns:=[4,3,8,1000000001]) (lo:=1) (hi:=1000000001) A (by simpa using B) (by simp);simp only[map_cons,map_nil]at ep;simp[ep];apply aj;simp;refine dq (by decide) (by decide) λe x z A B=>?_;obtain⟨l,I,Y,Z⟩:=Bp (ns:=[3,5,4,1000000]) (lo:=1) (hi:=1000000) A (by simpa using B) (by simp);simp only[map_cons,map_nil]at I;simp[I];apply aj;simp;apply aj;simp;refine dq (by decide) (by decide) λc x z c0 c1=>?_;simp;refine dq (by decide) (by decide) λe x z A B=>?_;obtain⟨N,J,N0,N1⟩:=Bp (ns:=[12,c]) (lo:=0) (hi:=12) A (by simpa using B) (by simp;omega);simp only[map_cons,map_nil]at J;simp[J,show N<=1000000000 by omega];refine⟨by omega,?_⟩;refine nH (ZK y m p l) ?_ ?_ ⟨x,z,[],.aN,.aN,.aN,rfl,⟨rfl,rfl,rfl⟩,by simp,rfl⟩
 . rintro i _ hi⟨x,z,ws,s6,s7,s8,rfl,⟨M,O,U⟩,G,W⟩;simp[M];apply aj;simp;refine dq (by omega) (jD (by omega)) λa x z t u=>?_;simp[O];apply aj;simp;refine dq (by omega) (jD (by omega)) λb x z b0 b1=>?_;obtain⟨C,E,o2⟩:=other t u b0 b1;simp[U,show 0<m by omega];generalize(a+1+b)%m=o at*;symm;simp;refine dq (by decide) (by decide) λc x z c0 c1=>?_;have put:∀{x z a o:Int},0<=a->a<m->0<=o->o<m->a≠o->∀r h:Int,0<=r->r<p->0<=h->h<l->ZK y m p l (i+1) [.own true [.int x,.int y,.int z],.val false (.int 12),.val false (.int m),.val false (.int p),.val false (.int l),.own false (ws.map Wy.d++[.tup [.int a,.int o,.int r,.int (1+h)]]),.val false (.int i),.val false (.int a),.val false (.int o)]:=λ{x z a o}t u C E ne r h r0 r1 h0 h1=>by
    refine⟨x,z,ws++[⟨a,o,r,1+h⟩],_,_,_,by rw[map_append];rfl,⟨rfl,rfl,rfl⟩,λv hv=>?_,by simp;omega⟩;rcases mem_append.mp hv with hv|hv;.exact G v hv
    .rw[mem_singleton.mp hv];exact⟨t,u,C,E,ne,r0,by show r<=1000000000;omega,by show 1<=1+h;omega,by show 1+h<=1000000;omega⟩
   have s:ws.length<16777216:=by omega
   simp;refine⟨λ_=>?_,λ_=>?_⟩
   . symm;by_cases c:o<a
     . have H:¬ a<o:=by omega
       simp[c,H];apply aj;simp;refine ir (by omega) (jD (by omega)) λr x z r0 r1=>?_;simp;refine ir (by omega) (jD (by omega)) λh x z h0 h1=>?_;simp[s];exact put C E t u (by omega) r h r0 r1 h0 h1
     . have H:a<o:=by omega
       simp[c,H];apply aj;simp;refine ir (by omega) (jD (by omega)) λr x z r0 r1=>?_;simp;refine ir (by omega) (jD (by omega)) λh x z h0 h1=>?_;simp[s];exact put t u C E (by omega) r h r0 r1 h0 h1
   .symm;simp;refine ir (by omega) (jD (by omega)) λr x z r0 r1=>?_;simp;refine ir (by omega) (jD (by omega)) λh x z h0 h1=>?_;simp[s];exact put t u C E (by omega) r h r0 r1 h0 h1
 .rintro _⟨x,z,ws,s6,s7,s8,rfl,_,G,W⟩;symm;simp;exact k x z m ws ⟨by omega,by omega,by omega,G⟩
def gA(j:Nat)(f:Bool):D:=.tup [.int j,.bl f]
def frm(v:Wy)(f:Bool):Int:=if f then v.s else v.t
def too(v:Wy)(f:Bool):Int:=if f then v.t else v.s
theorem mJ(e:ws[j]?=some v)(k:Q (.val (.tup [.int (frm v f),.int (too v f)])) [.val false (bT m ws),.val false (gA j f)]):(run Γ w (n+1) 0 [.val false (bT m ws),.val false (gA j f)]).sat Q:=by refine bz (d:=f0) rfl rfl (by decide) ?_;symm;simp[f0,gA,iV e];apply aj;cases f with|true=>simp[Wy.d];exact k|false=>simp[Wy.d];exact k
def hsp(v:Wy)(f:Bool):Int:=if f then v.h else-v.h
theorem uC(e:ws[j]?=some v)(k:Q (.val (.int (hsp v f))) [.val false (bT m ws),.val false (gA j f)]):(run Γ w (n+1) 1 [.val false (bT m ws),.val false (gA j f)]).sat Q:=by refine bz (d:=f1) rfl rfl (by decide) ?_;symm;simp[f1,gA,iV e,Wy.d];apply aj;cases f with|true=>simp;exact k|false=>simp;exact k
def Yi(s:Sl)(fs:List Int):Prop:=s=.val false (.lst (fs.map D.int))\/∃b,s=.own b (fs.map D.int)
def pL(v:Wy)(g:Int)(f:Bool):Int:=if f then v.r-g else g
theorem u9{s:Sl}{fs:List Int}(hs:Yi s fs)(e:ws[j]?=some v)(c:fs[j]?=some g)(k:Q (.val (.int (pL v g f))) [.val false (bT m ws),s,.val false (gA j f)]):(run Γ w (n+1) 2 [.val false (bT m ws),s,.val false (gA j f)]).sat Q:=by refine bz (d:=f2) rfl rfl (by decide) ?_;symm;rcases hs with rfl|⟨b,rfl⟩;all_goals simp[f2,gA,iV c];apply aj;cases f with|true=>simp[iV e,Wy.d];exact k|false=>simp;exact k
@[simp]theorem aaD{c:Call}{n x k:Nat}{src o:P}{is:List Nat}{one:Bool}{ρ:List Sl}:ex c n (.Kz x src k is one o) ρ=(srcOf (isVar src) (ev c src) ρ).bind λu e=>if u.length<=lim then(gY is one (ev c o) u [] (e++replicate k .aN)).bind λs h=>(lift (put (bj ρ (isVar src) (h.take e.length)) x (.hold s)) ρ).bind λt _=>.ok .next t else .stuck:=(rfl)
@[simp]theorem abL{c:Call}{n:Nat}{src:P}{is:List Nat}{one:Bool}{body:List S}{ρ:List Sl}:ex c n (.Gg src is one body) ρ=(ev c src ρ).bind λr e=>(lift (items r.d) e).bind λh e=>jq is one (fO c n body) h e:=(rfl)
@[simp]theorem acT{c:Call}{n x:Nat}{ρ:List Sl}:ex c n (.dB x) ρ=match ρ[x]?with|some (.hold e)=>.ok .next (ρ.set x (.val false (.lst (e.map D.lst))))|_=>.stuck:=(rfl)
@[simp]theorem aaT{c:Call}{n x:Nat}{i e:P}{ρ:List Sl}:ex c n (.KC x i e) ρ=(cL (isVar i) (ev c i) ρ).bind λk ρ=>(lift (vQ ρ x k) ρ).bind λ_ ρ=>(ev c e ρ).bind λr ρ=>Ew ρ x ((jM ρ x).bind λh=>(jb k).bind λk=>km h k λrow=>if row.length<lim then some (row++[r.d])else none):=(rfl)
@[simp]theorem aa0{a:Sl}{l:List Sl}{x:Nat}:jM (a::l) x=match(a::l)[x]?with|some (.hold c)=>some c|_=>none:=rfl
@[simp]theorem Wj{ρ:List Sl}{x:Nat}{c:List (List D)}:Ew ρ x (some c)=.ok .next (ρ.set x (.hold c)):=rfl
@[simp]theorem acF{a:Sl}{l:List Sl}{x:Nat}{k:Int}:vQ (a::l) x (.int k)=match(a::l)[x]?with|some (.hold c)=>rowAt c k|_=>none:=by unfold vQ jM;cases h:(a::l)[x]?with|none=>rfl|some s=>cases s<;>rfl
theorem sJ{is:List Nat}{one:Bool}{s:Ev}(J:List Sl->Prop)(g:D->List D){Q:List (List D)->List Sl->Prop}:∀{u:List D}{c:List (List D)}{ρ:List Sl},J ρ->(∀d,d∈u->∀ρ,J ρ->∃o,cj ρ is one d=some o/\(s o).sat λr t=>r=.own (g d)/\J t)->(∀ρ,J ρ->Q (c++u.map g) ρ)->(gY is one s u c ρ).sat Q|[],c,ρ,j,h,k=>by rw[JG];simpa using k ρ j|d::r,c,ρ,j,h,k=>by obtain⟨o,e,h1⟩:=h d (by simp) ρ j;rw[Hl,e];show((s o).bind _).sat Q;rw[cz];refine h1.imp λx t⟨A,j3⟩=>?_;subst A;exact sJ J g j3 (λd' y=>h d' (by simp[y])) λz B=>by simpa using k z B
@[simp]theorem acL{c:Call}{x:Nat}{k:P}{ρ:List Sl}:ev c (.QV x k) ρ=match ρ[x]?with
 |some (.cN _)=>(cL (isVar k) (ev c k) ρ).bind λe ρ=>match ρ[x]?with|some (.cN kvs)=>lift ((jb e).bind λk=>(mR kvs k).map .val) ρ|_=>.stuck
 |_=>.stuck:=(rfl)
def qt(kvs:List (Int×D))(k:Int):Bool:=(kvs.map (·.1)).contains k
def K9(kvs:List (Int×D)):List Int:=kvs.map (·.1)
def dsV(kvs:List (Int×D)):List D:=kvs.map (·.2)
@[simp]theorem ack{c:Call}{x:Nat}{k:P}{neg:Bool}{ρ:List Sl}:ev c (.QW x k neg) ρ=(cL (isVar k) (ev c k) ρ).bind λe ρ=>match ρ[x]?with|some (.cN kvs)=>lift ((jb e).map λk=>.val (.bl (if neg then !qt kvs k else qt kvs k))) ρ|_=>.stuck:=(rfl)
@[simp]theorem aay{c:Call}{k e:Int}{ρ:List Sl}:ev c (.Be k e) ρ=.ok (.val (.dv [k] [.int e])) ρ:=(rfl)
@[simp]theorem afs{c:Call}{x:Nat}{ρ:List Sl}:ev c (.vw x) ρ=match ρ[x]?with|some (.iG m)=>.ok (.val (.dH m)) (ρ.set x (.val false (.dH m)))|some (.cN kvs)=>.ok (.val (.dv (K9 kvs) (dsV kvs))) (ρ.set x (.val false (.dv (K9 kvs) (dsV kvs))))|some (.own b e)=>.ok (.val (.lst e)) (ρ.set x (.val b (.lst e)))|some (.val _ d)=>.ok (.val d) ρ|_=>.stuck:=(rfl)
@[simp]theorem aaF{c:Call}{n x:Nat}{ρ:List Sl}:ex c n (.Gh x) ρ=match ρ[x]?with|some .aN=>.ok .next (ρ.set x (.cN []))|some (.cN _)=>.ok .next (ρ.set x (.cN []))|some (.val false _)=>.ok .next (ρ.set x (.cN []))|_=>.stuck:=(rfl)
@[simp]theorem aaV{c:Call}{n x:Nat}{k e:P}{ρ:List Sl}:ex c n (.iz x k e) ρ=(ev c e ρ).bind λr ρ=>match ρ[x]?with
 |some (.cN _)=>(cL (isVar k) (ev c k) ρ).bind λh ρ=>match ρ[x]?,h with|some (.cN kvs),.int k=>if kvs.length<lim then .ok .next (ρ.set x (.cN (iz kvs k r.d)))else .stuck|_,_=>.stuck
 |_=>.stuck:=(rfl)
@[simp]theorem abd{c:Call}{n x:Nat}{i e:P}{sub:Bool}{ρ:List Sl}:ex c n (.Kv x i sub e) ρ=(lift (Gu ρ x) ρ).bind λ_ ρ=>(cL (isVar i) (ev c i) ρ).bind λk ρ=>(lift (Gu ρ x) ρ).bind λl ρ=>(lift ((jb k).bind λi=>at' l i) ρ).bind λa ρ=>(cL (isVar e) (ev c e) ρ).bind λb ρ=>match a,b,ρ[x]?,k with
 |.int u,.int v,some (.own o h),.int k=>match jP h.length k with|some j=>.ok .next (ρ.set x (.own o (h.set j (.int (if sub then u-v else u+v)))))|none=>.stuck
 |_,_,_,_=>.stuck:=(rfl)
@[simp]theorem V6{x:Nat}{k:P}:isVar (.QV x k)=none:=rfl
@[simp]theorem Wz{x:Nat}{k:P}{b:Bool}:isVar (.QW x k b)=none:=rfl
@[simp]theorem Yn{x:Nat}:isVar (.vw x)=none:=rfl
@[simp]theorem Uu{k e:Int}:isVar (.Be k e)=none:=rfl
@[simp]theorem acG{kvs:List (Int×D)}:fr (.cN kvs)=false:=rfl
@[simp]theorem aaB{r:List (List D)}:fr (.hold r)=false:=rfl
@[simp]theorem Yq:tR .Bd=Dj:=rfl
@[simp]theorem aa5:tR .din=xx false:=rfl
@[simp]theorem Zo{ks:List Int}{c:List D}{k:Int}:Dj (.dv ks c) (.int k)=(mR (ks.zip c) k).map .val:=rfl
@[simp]theorem aaK{ks:List Int}{c:List D}{k:Int}:xx false (.int k) (.dv ks c)=some (.val (.bl (ks.contains k))):=rfl
@[simp]theorem WQ{ks:List Int}{c:List D}:blt .keys [.dv ks c]=some (.val (.tup (ks.map D.int))):=rfl
@[simp]theorem abk{ks:List Int}{c:List D}:blt .Xk [.dv ks c]=if ks.length<=16777216 then some (.own (ks.map D.int))else none:=rfl
@[simp]theorem aaS{c:List D}:blt .rvT [.lst c]=some (.val (.tup c.reverse)):=rfl
@[simp]theorem Wv{kvs:List (Int×D)}{x:Option Sl}:dh (.cN kvs) x=.cN kvs:=by cases x<;>rfl
@[simp]theorem Um{r:List (List D)}{x:Option Sl}:dh (.hold r) x=.hold r:=by cases x<;>rfl
structure HN(m:Int)(ws:List Wy):Prop where
 m0:2<=m
 m1:m<=6
 len:ws.length<=12
 ok:∀w∈ws,(0<=w.s/\w.s<m)/\(0<=w.t/\w.t<m)/\0<=w.h
theorem HN.of(h:m9 m ws):HN m ws:=⟨h.m0,h.m1,h.len,λw c=>by have:=h.ok w c;exact⟨⟨this.s0,this.s1⟩,⟨this.t0,this.t1⟩,by have:=this.h0;omega⟩⟩
abbrev az:=Nat×Bool
variable{s:az}{x:Nat×(Option az×Int)}{o:Option az×Int}{c:List az}{cs:List (List az×Int)}
def sD(s:az):D:=gA s.1 s.2
def lC(ws:List Wy)(fs:List Int)(p:Int)(s:az):Bool:=match ws[s.1]?,fs[s.1]?with|some v,some g=>decide (frm v s.2=p)&&decide (0<pL v g s.2)|_,_=>false
theorem mU{fs:List Int}(e:ws[s.1]?=some v)(h:fs[s.1]?=some g):lC ws fs p s=(decide (frm v s.2=p)&&decide (0<pL v g s.2)):=by unfold lC;rw[e,h]
def jU(ws:List Wy)(fs:List Int)(M:Nat)(l:List az):List (List az):=(List.range M).map λ(p:Nat)=>l.filter (lC ws fs (p:Int))
def rD(l:List (List az)):List (List D):=l.map λr=>r.map sD
def iR(N:Nat):List az:=(List.range N).flatMap λj=>[(j,true),(j,false)]
theorem uz:iR (N+1)=(iR N++[(N,true)])++[(N,false)]:=by simp[iR,List.range_succ]
theorem xu:(iR N).length=2*N:=by induction N with|zero=>rfl|succ N e=>rw[uz];simp[e];omega
theorem S5(h:HN m ws)(e:ws[j]?=some v)(f:Bool):0<=frm v f/\frm v f<m:=by have:=h.ok v (mem_of_getElem? e);cases f<;>simp only[frm]<;>simp<;>omega
theorem Hb(h:HN m ws)(e:ws[j]?=some v)(f:Bool):0<=too v f/\too v f<m:=by have:=h.ok v (mem_of_getElem? e);cases f<;>simp only[too]<;>simp<;>omega
theorem Hn{fs:List Int}{M:Nat}{l:List az}(e:ws[s.1]?=some v)(t:fs[s.1]?=some g)(h:¬ 0<pL v g s.2):jU ws fs M (l++[s])=jU ws fs M l:=by unfold jU;refine map_congr_left λp _=>?_;rw[List.filter_append];simp[mU e t,h]
theorem Nm{fs:List Int}{l:List az}(e:ws[s.1]?=some v)(u:fs[s.1]?=some g)(h:0<pL v g s.2)(y:0<=frm v s.2/\frm v s.2<m)(C:l.length<1000):(∃row,rowAt (rD (jU ws fs m.toNat l)) (frm v s.2)=some row)/\km (rD (jU ws fs m.toNat l)) (frm v s.2) (λrow=>if row.length<lim then some (row++[sD s])else none)=some (rD (jU ws fs m.toNat (l++[s]))):=by
 have t:(rD (jU ws fs m.toNat l)).length=m.toNat:=by simp[rD,jU]
 have z:jP (rD (jU ws fs m.toNat l)).length (frm v s.2)=some (frm v s.2).toNat:=by unfold jP;rw[t,if_pos y.1,if_pos (by omega)]
 have A:(rD (jU ws fs m.toNat l))[(frm v s.2).toNat]?=some ((l.filter (lC ws fs (frm v s.2))).map sD):=by simp[rD,jU,show(frm v s.2).toNat<m.toNat by omega,Int.toNat_of_nonneg y.1]
 refine⟨⟨_,by unfold rowAt;rw[z];exact A⟩,?_⟩;unfold km;rw[z];show((rD (jU ws fs m.toNat l))[(frm v s.2).toNat]?).bind _=_;rw[A];have B:((l.filter (lC ws fs (frm v s.2))).map sD).length<lim:=by have:=List.length_filter_le (lC ws fs (frm v s.2)) l;rw[length_map];show _<16777216;omega
 show Option.map _ (if _ then _ else _)=_;rw[if_pos B];show some _=some _;congr 1;refine ext_getElem (by simp[rD,jU]) λi E G=>?_;rw[List.getElem_set];by_cases c:(frm v s.2).toNat=i
 . rw[if_pos c];have:(i:Int)=frm v s.2:=by omega
   simp[rD,jU,this,List.filter_append,mU e u,h]
 . rw[if_neg c];have:¬ frm v s.2=(i:Int):=by omega
   simp[rD,jU,List.filter_append,mU e u,this]
inductive JOp(m:Int)(ws:List Wy)(fs:List Int)(s:Sl)(i:Nat)(ρ:List Sl):Prop where|mk(s3 s4:Sl)(q0:ρ=[.val false (bT m ws),s,.hold (rD (jU ws fs m.toNat (iR i))),s3,s4])(q1:fr s3=true)(q2:fr s4=true)
inductive JOq(m:Int)(ws:List Wy)(fs:List Int)(s:Sl)(i:Nat)(r:List D)(ρ:List Sl):Prop where|mk(l us:List az)(s4:Sl)(q0:ρ=[.val false (bT m ws),s,.hold (rD (jU ws fs m.toNat l)),.val false (.int i),s4])(q1:fr s4=true)(q2:r=us.map sD)(q3:l++us=iR (i+1))(q4:∀u∈us,u.1=i)
inductive F1n(a b c d e:Sl)(ρ:List Sl):Prop where|mk(s:Sl)(q0:ρ=[a,b,c,d,e,s])(q1:fr s=true)
theorem JN{s:Sl}{fs:List Int}(hs:Yi s fs)(h:HN m ws)(W:fs.length=ws.length)(k:Q (.val (.lst ((rD (jU ws fs m.toNat (iR ws.length))).map D.lst))) [.val false (bT m ws),s]):(run Γ w (n+2) 4 [.val false (bT m ws),s]).sat Q:=by
 have X:=h.len;have m0:=h.m0;have m1:=h.m1;refine bz (d:=f4) rfl rfl (by decide) ?_;refine jF (λρ=>ρ=[.val false (bT m ws),s,.hold (rD (jU ws fs m.toNat (iR 0))),.aN,.aN]) ?_ ?_
 . simp[f4,show m<=1000000000 by omega,show-1000000000<=m by omega];refine⟨λ_=>?_,by omega⟩;rw[cz];refine sJ (F1n _ _ _ _ _) (λ_=>[]) ⟨.aN,rfl,rfl⟩ ?_ ?_;.rintro d hd _⟨L,rfl,y⟩;simp[y];exact⟨_,rfl,rfl⟩
   .rintro _⟨L,rfl,y⟩;simp[rD,jU,iR]
 rintro _ rfl;refine jF (JOp m ws fs s ws.length) ?_ ?_
 . simp[show(ws.length:Int)<=1000000000 by omega];refine nH (JOp m ws fs s) ?_ ?_ ⟨.aN,.aN,rfl,rfl,rfl⟩
   . rintro i _ hi⟨s3,s4,rfl,C,t⟩;have G:i<fs.length:=by omega
     have z:ws[i]?=some ws[i]:=by simp[hi]
     have H:fs[i]?=some fs[i]:=by simp[G]
     generalize ws[i]=v at*;generalize fs[i]=g at*;simp[C];apply aj;simp;refine bR (JOq m ws fs s i) ?_ ?_ ⟨iR i,[(i,true),(i,false)],s4,rfl,t,rfl,by rw[uz];simp,by simp⟩;.rintro d r _⟨l,e,s4,rfl,t,hr,A,E⟩;cases e with|nil=>cases hr|cons u e=>
         obtain⟨rfl,rfl⟩:d=sD u/\r=e.map sD:=by simpa using hr
         obtain rfl:=E u (by simp);have B:(l++[u])++e=iR (u.1+1):=by rw[append_assoc];exact A
         have I:l.length<1000:=by have:=congrArg List.length A;rw[xu]at this;simp at this;omega
         simp[t];apply aj;rcases hs with rfl|⟨b,rfl⟩;all_goals
          simp[sD];refine u9 (by first|exact .inl rfl|exact .inr ⟨_,rfl⟩) z H ?_;simp;refine⟨λho=>?_,λho=>?_⟩;.obtain⟨⟨row,M⟩,O⟩:=Nm (ws:=ws) (fs:=fs) (l:=l) z H ho (S5 h z u.2) I;symm;simp;refine mJ z ?_;simp[M];have U:km (rD (jU ws fs m.toNat l)) (frm v u.2) (λrow=>if row.length<lim then some (row++[gA u.1 u.2])else none)=_:=O;rw[U];simp;exact⟨l++[u],e,_,rfl,rfl,rfl,B,λx J=>E x (by simp[J])⟩
          .exact⟨l++[u],e,_,by rw[Hn z H (by omega)],rfl,rfl,B,λx J=>E x (by simp[J])⟩
     . rintro _⟨l,e,s4,rfl,t,hr,A,E⟩;have:e=[]:=by cases e with|nil=>rfl|cons _ _=>cases hr
       subst this;rw[append_nil]at A;subst A;simp;exact⟨_,_,rfl,rfl,t⟩
   .rintro _⟨s3,s4,rfl,C,t⟩;exact⟨rfl,_,_,rfl,C,t⟩
 rintro _⟨s3,s4,rfl,C,t⟩;symm;simp;apply aj;simp;exact k
abbrev En:=Int×Nat×(Option az×Int)
variable{es vm:List En}
def oS:Option az->D|none=>.non|some s=>sD s
def Dr(e:En):D:=.tup [.int e.2.2.2,.int (e.2.1:Int),oS e.2.2.1]
def en(e:En):Int×D:=(e.1,Dr e)
def mX(es:List En):D:=.dv (es.map (·.1)) (es.map Dr)
def zB(p:Int):Int×D:=(p,.bl true)
@[simp]theorem Td{l:List Int}:K9 (l.map zB)=l:=by simp[K9,zB,Function.comp_def]
theorem zF{l:List En}:K9 (l.map en)=l.map (·.1):=by simp[K9,en,Function.comp_def]
theorem Ah{l:List En}:qt (l.map en) p=true↔∃n o,(p,n,o)∈l:=by show(K9 (l.map en)).contains p=true↔_;rw[zF];simp
theorem kin_no{l:List En}(h:¬ ∃n o,(p,n,o)∈l):qt (l.map en) p=false:=by cases e:qt (l.map en) p with|false=>rfl|true=>exact absurd (Ah.mp e) h
theorem wU{u:Type}{p:Int}{x y:u}:∀{l:List (Int×u)},(l.map (·.1)).Nodup->(p,x)∈l->(p,y)∈l->x=y
 |[],_,h,_=>by cases h|e::l,t,h1,h2=>by
   rw[map_cons,nodup_cons]at t;rcases mem_cons.mp h1 with h1|h1<;>rcases mem_cons.mp h2 with h2|h2;.rw[<-h2]at h1;cases h1;rfl
   .exact absurd (mem_map.mpr ⟨_,h2,by rw[<-h1]⟩) t.1
   .exact absurd (mem_map.mpr ⟨_,h1,by rw[<-h2]⟩) t.1
   .exact wU t.2 h1 h2
theorem qg{p:Int}{x:Nat×(Option az×Int)}:∀{l:List En},(l.map (·.1)).Nodup->(p,x)∈l->mR (l.map en) p=some (Dr (p,x))
 |[],_,h=>by cases h|e::l,t,h=>by
   have u:=t;rw[map_cons,nodup_cons]at t;unfold mR;rw[map_cons,find?_cons];by_cases c:e.1=p;.obtain⟨q,y⟩:=e;cases c;have:=wU u h (by simp:(q,y)∈(q,y)::l);subst this;simp[en]
   . have h':(p,x)∈l:=by
      rcases mem_cons.mp h with h|h;.exact absurd (by rw[<-h]) c
      .exact h
     simp[en,c];have:=qg t.2 h';unfold mR at this;simpa[en]using this
theorem sy{kvs:List (Int×D)}{d:D}(h:qt kvs p=false):iz kvs p d=kvs++[(p,d)]:=by
 unfold iz;rw[if_neg];intro t;obtain⟨x,u,e⟩:=any_eq_true.mp t;have:qt kvs p=true:=by show(kvs.map (·.1)).contains p=true;rw[contains_iff_mem];exact mem_map.mpr ⟨x,u,by simpa using e⟩
 rw[this]at h;cases h
theorem yg{kvs:List (Int×D)}{d:D}(h:qt kvs p=true):iz kvs p d=kvs.map λe=>if e.1=p then(p,d)else e:=by
 unfold iz;rw[if_pos]
 . refine map_congr_left λe _=>?_;by_cases c:e.1=p;.simp[c]
   .simp[c]
 .have h':(kvs.map (·.1)).contains p=true:=h;rw[contains_iff_mem]at h';obtain⟨x,t,e⟩:=mem_map.mp h';exact any_eq_true.mpr ⟨x,t,by simpa using e⟩
def yN(p:Int)(x:Nat×(Option az×Int))(e:En):En:=if e.1=p then(p,x)else e
def pR(es:List En)(p:Int)(x:Nat×(Option az×Int)):List En:=if p∈es.map (·.1)then es.map (yN p x)else es++[(p,x)]
def qY(ch:List Int)(p:Int):List Int:=if p∈ch then ch else ch++[p]
theorem Lk:iz (es.map en) p (Dr (p,x))=(pR es p x).map en:=by
 have h:qt (es.map en) p=true↔p∈es.map (·.1):=by show(K9 (es.map en)).contains p=true↔_;rw[zF,contains_iff_mem]
 unfold pR;by_cases c:p∈es.map (·.1)
 . rw[if_pos c,yg (h.mpr c),map_map,map_map];refine map_congr_left λe _=>?_;show(if e.1=p then _ else _)=en (yN p x e);unfold yN;by_cases z:e.1=p;.rw[if_pos z,if_pos z];rfl
   .rw[if_neg z,if_neg z]
 .rw[if_neg c,sy (by cases e:qt (es.map en) p with|false=>rfl|true=>exact absurd (h.mp e) c)];simp[en]
theorem Od:iz (ch.map zB) p (.bl true)=(qY ch p).map zB:=by
 have h:qt (ch.map zB) p=true↔p∈ch:=by show(K9 (ch.map zB)).contains p=true↔_;rw[Td,contains_iff_mem]
 unfold qY;by_cases c:p∈ch
 . rw[if_pos c,yg (h.mpr c),map_map];refine map_congr_left λe _=>?_;show(if e=p then _ else _)=zB e;by_cases z:e=p;.rw[if_pos z,z];rfl
   .rw[if_neg z]
 .rw[if_neg c,sy (by cases e:qt (ch.map zB) p with|false=>rfl|true=>exact absurd (h.mp e) c)];simp[zB]
theorem yp{q:Int}:q∈qY ch p↔q∈ch\/q=p:=by
 unfold qY;split;.exact⟨.inl,λh=>h.elim id λe=>by rw[e];assumption⟩
 .simp
theorem CN(h:ch.Nodup):(qY ch p).Nodup:=by
 unfold qY;split;.exact h
 .rename_i t;rw[nodup_append];exact⟨h,by simp,λa u b y e=>t (by rw[<-mem_singleton.mp y,<-e];exact u)⟩
theorem Ey:(pR es p x).map (·.1)=qY (es.map (·.1)) p:=by
 unfold pR qY;split
 . rw[map_map];refine map_congr_left λe _=>?_;show(yN p x e).1=e.1;unfold yN;split;.rename_i h;exact h.symm
   .rfl
 .simp
theorem iu{q:Int}{y:Nat×(Option az×Int)}:(q,y)∈pR es p x↔(q=p/\y=x)\/(q≠p/\(q,y)∈es):=by
 unfold pR;split
 . rename_i t;obtain⟨C,u,z⟩:=mem_map.mp t;rw[mem_map];constructor
   . rintro⟨e,he,h⟩;unfold yN at h;split at h;.cases h;exact .inl ⟨rfl,rfl⟩
     .rename_i A;subst h;exact .inr ⟨A,he⟩
   . rintro(⟨rfl,rfl⟩|⟨h1,B⟩);.exact⟨C,u,by unfold yN;rw[if_pos z]⟩
     .exact⟨_,B,by unfold yN;rw[if_neg h1]⟩
 . rename_i t;rw[mem_append,mem_singleton];constructor
   . rintro(h|h);.refine .inr ⟨λe=>t ?_,h⟩;rw[<-e];exact mem_map.mpr ⟨_,h,rfl⟩
     .cases h;exact .inl ⟨rfl,rfl⟩
   . rintro(⟨rfl,rfl⟩|⟨_,B⟩);.exact .inr rfl
     .exact .inl B
theorem nP{h:Type}[BEq h][LawfulBEq h]:∀{l l2:List h},l.Nodup->(∀a∈l,a∈l2)->l.length<=l2.length
 |[],_,_,_=>uy|a::l,l2,z,hs=>by
   have u:=hs a (by simp);have e:=nodup_cons.mp z;have:=nP (l:=l) (l2:=l2.erase a) e.2 λb y=>by
    have t:b≠a:=by rintro rfl;exact e.1 y
    exact(List.mem_erase_of_ne t).mpr (hs b (by simp[y]))
   rw[List.length_erase_of_mem u]at this;have:=List.length_pos_of_mem u;simp only[length_cons];omega
theorem six{l:List Int}(m1:m<=6)(e:l.Nodup)(h:∀p∈l,0<=p/\p<m):l.length<=6:=by
 have:=nP (l2:=[0,1,2,3,4,5]) e λq t=>by
  have:=h q t;have:q=0\/q=1\/q=2\/q=3\/q=4\/q=5:=by omega
  simpa using this
 simpa using this
theorem qP{fs:List Int}(h:lC ws fs p s=true):∃v g,ws[s.1]?=some v/\fs[s.1]?=some g/\frm v s.2=p/\0<pL v g s.2:=by
 unfold lC at h;split at h;.rename_i v g e t;simp at h;exact⟨v,g,e,t,h.1,h.2⟩
 .cases h
theorem yo(h:s.1<N):s∈iR N:=by unfold iR;rw[List.mem_flatMap];refine⟨s.1,by simp[h],?_⟩;obtain⟨j,f⟩:=s;cases f<;>simp
def jo(ws:List Wy)(b:Int):List az->Int->Prop|[],a=>a=b|s::c,a=>∃v,ws[s.1]?=some v/\frm v s.2=a/\jo ws b c (too v s.2)
def hst(ws:List Wy)(s:az):Int:=match ws[s.1]?with|some v=>hsp v s.2|none=>0
theorem iT(e:ws[s.1]?=some v):hst ws s=hsp v s.2:=by unfold hst;rw[e]
def cg(ws:List Wy):List az->Int|[]=>0|s::c=>hst ws s+cg ws c
theorem lz{ws:List Wy}{c2:List az}:∀{c1:List az},cg ws (c1++c2)=cg ws c1+cg ws c2|[]=>by simp[cg]|s::c=>by rw[cons_append,cg,lz,cg];omega
def uF(ws:List Wy)(fs:List Int)(c:List az):Prop:=∀s∈c,∃v,ws[s.1]?=some v/\lC ws fs (frm v s.2) s=true
theorem jo.app{ws:List Wy}{b q:Int}{c2:List az}(t:jo ws b c2 q):∀{c1:List az}{a:Int},jo ws q c1 a->jo ws b (c1++c2) a|[],a,h=>by have:a=q:=h;rw[this];exact t|s::c,a,⟨v,e,u,h⟩=>⟨v,e,u,jo.app t h⟩
theorem Cz{ws:List Wy}{b:Int}{c2:List az}:∀{c1:List az}{a:Int},jo ws b (c1++c2) a->∃q,jo ws q c1 a/\jo ws b c2 q|[],a,h=>⟨a,rfl,h⟩|s::c,a,⟨v,e,t,h⟩=>by obtain⟨q,h1,u⟩:=Cz (c1:=c) h;exact⟨q,⟨v,e,t,h1⟩,u⟩
def Pt(ws:List Wy)(fs:List Int)(F:Int->Int):Prop:=∀(s:az)(v:Wy),ws[s.1]?=some v->lC ws fs (frm v s.2) s=true->F (too v s.2)<=F (frm v s.2)+hsp v s.2
theorem oM{ws:List Wy}{fs:List Int}{F:Int->Int}(h:Pt ws fs F){b:Int}:∀{c:List az}{a:Int},jo ws b c a->uF ws fs c->F b<=F a+cg ws c|[],a,t,_=>by have:a=b:=t;rw[this,cg];omega|s::c,a,⟨v,e,z,t⟩,ho=>by have h1:=oM h t λu A=>ho u (mem_cons_of_mem _ A);obtain⟨C,y,o⟩:=ho s (by simp);rw[e]at y;cases y;have B:=h s v e o;rw[z]at B;rw[cg,iT e];omega
def zL(ws:List Wy)(s:az):Int:=match ws[s.1]?with|some v=>too v s.2|none=>0
def xK(ws:List Wy):List az->Int->List Int|[],a=>[a]|s::c,a=>a::xK ws c (zL ws s)
theorem CK{ws:List Wy}:∀{c:List az}{a:Int},(xK ws c a).length=c.length+1|[],_=>rfl|s::c,a=>by rw[xK,length_cons,CK];rfl
theorem Hw{m:Int}{ws:List Wy}{b:Int}(t:HN m ws):∀{c:List az}{a:Int},jo ws b c a->0<=a/\a<m->∀q∈xK ws c a,0<=q/\q<m
 |[],a,_,h,q,hq=>by rw[xK,mem_singleton]at hq;rw[hq];exact h|s::c,a,⟨v,e,y,u⟩,h,q,hq=>by
   rw[xK,mem_cons]at hq;rcases hq with rfl|hq;.exact h
   . have:zL ws s=too v s.2:=by unfold zL;rw[e]
     rw[this]at hq;exact Hw t u (Hb t e s.2) q hq
theorem Bt{ws:List Wy}{b q:Int}:∀{c:List az}{a:Int},jo ws b c a->q∈xK ws c a->∃c1 c2,c=c1++c2/\jo ws q c1 a/\jo ws b c2 q
 |[],a,h,hq=>by rw[xK,mem_singleton]at hq;exact⟨[],[],rfl,hq.symm,by rw[hq];exact h⟩|s::c,a,h,hq=>by
   rw[xK,mem_cons]at hq;rcases hq with rfl|hq;.exact⟨[],s::c,rfl,rfl,h⟩
   . obtain⟨v,e,t,u⟩:=h;have:zL ws s=too v s.2:=by unfold zL;rw[e]
     rw[this]at hq;obtain⟨c1,c2,rfl,h1,y⟩:=Bt u hq;exact⟨s::c1,c2,rfl,⟨v,e,t,h1⟩,y⟩
theorem BV{ws:List Wy}{b:Int}:∀{c:List az}{a:Int},jo ws b c a->¬(xK ws c a).Nodup->∃c1 c2 c3 q,c=c1++(c2++c3)/\0<c2.length/\jo ws q c1 a/\jo ws q c2 q/\jo ws b c3 q
 |[],a,_,h=>absurd (by simp[xK]) h|s::c,a,⟨v,e,u,y⟩,h=>by
   have B:zL ws s=too v s.2:=by unfold zL;rw[e]
   rw[xK,B,nodup_cons]at h;by_cases A:a∈xK ws c (too v s.2);.obtain⟨c1,c2,rfl,h1,t⟩:=Bt y A;exact⟨[],s::c1,c2,a,rfl,by simp,rfl,⟨v,e,u,h1⟩,t⟩
   .obtain⟨c1,c2,c3,q,rfl,h0,h1,t,C⟩:=BV y λz=>h ⟨A,z⟩;exact⟨s::c1,c2,c3,q,rfl,h0,⟨v,e,u,h1⟩,t,C⟩
def Le(h:Int)(n:Nat)(h':Int)(e:Nat):Prop:=h<h'\/(h=h'/\n<=e)
theorem Le.refl{h:Int}:Le h n h n:=.inr ⟨rfl,eY⟩
theorem Le.trans{c:Int}{k:Nat}(h1:Le a k b l)(e:Le b l c n):Le a k c n:=by unfold Le at*;omega
theorem Le.add{k:Nat}(x:Int)(h1:Le a k b l):Le (a+x) (k+1) (b+x) (l+1):=by unfold Le at*;omega
theorem short{fs:List Int}(z:HN m ws)(h:Pt ws fs F)(A:0<=a/\a<m):∀(n:Nat){c:List az},c.length<=n->jo ws b c a->uF ws fs c->∃e,jo ws b e a/\uF ws fs e/\e.length<=5/\Le (cg ws e) e.length (cg ws c) c.length/\(xK ws e a).Nodup:=by
 intro n;have done:∀{c:List az},jo ws b c a->(xK ws c a).Nodup->c.length<=5:=λt u=>by have:=six z.m1 u (Hw z t A);rw[CK]at this;omega
 induction n with|zero=>intro c hc t ho;have:c=[]:=List.eq_nil_of_length_eq_zero (by omega);subst this;exact⟨[],t,ho,by simp,.refl,by simp[xK]⟩|succ n B=>
   intro c hc t ho;by_cases u:(xK ws c a).Nodup;.exact⟨c,t,ho,done t u,.refl,u⟩
   .obtain⟨c1,c2,c3,q,rfl,h0,h1,C,E⟩:=BV t u;have y:uF ws fs c2:=λs hs=>ho s (by simp[hs]);have hr:=oM h C y;simp only[length_append]at hc;obtain⟨e,G,H,I,J,L⟩:=B (c:=c1++c3) (by simp only[length_append];omega) (jo.app E h1) λs hs=>ho s (by rcases mem_append.mp hs with hs|hs<;>simp[hs]);refine⟨e,G,H,I,J.trans ?_,L⟩;rw[lz,lz,lz];simp only[length_append];unfold Le;omega
structure Ed(m:Int)(ws:List Wy)(fs:List Int)(bs:List (Int×Int))(es:List En):Prop where
 nd:(es.map (·.1)).Nodup
 inm:∀p l o,(p,l,o)∈es->0<=p/\p<m
 z:(0,0,(none,0))∈es
 wk:∀p l o,(p,l,o)∈es->∃a b c,(a,b)∈bs/\jo ws p c a/\uF ws fs c/\c.length=l/\b+cg ws c=o.2
 stp:∀p l o,(p,l,o)∈es->(o.1=none/\(p,o.2)∈bs/\l=0)\/∃(s:az)(v:Wy)(l':Nat)(o':Option az×Int),o.1=some s/\ws[s.1]?=some v/\too v s.2=p/\lC ws fs (frm v s.2) s=true/\(frm v s.2,l',o')∈es/\Le (o'.2+hsp v s.2) (l'+1) o.2 l
theorem Ed.len{fs:List Int}{bs:List (Int×Int)}(h:Ed m ws fs bs es)(m1:m<=6):es.length<=6:=by
 have:=six m1 h.nd λp e=>by obtain⟨⟨p,l,o⟩,he,rfl⟩:=mem_map.mp e;exact h.inm p l o he
 simpa using this
theorem jW{l:List En}{a b:Nat}{u:Option az×Int}(e:(l.map (·.1)).Nodup)(h1:(p,a,o)∈l)(h:(p,b,u)∈l):a=b/\o=u:=by have:=wU e h1 h;cases this;exact⟨rfl,rfl⟩
def At(es:List En)(p h:Int)(n:Nat):Prop:=∃l o,(p,l,o)∈es/\Le o.2 l h n
theorem At.le{h h':Int}{e:Nat}(a:At es p h n)(z:Le h n h' e):At es p h' e:=by obtain⟨l,o,h1,t⟩:=a;exact⟨l,o,h1,t.trans z⟩
structure Wh(m:Int)(ws:List Wy)(fs:List Int)(bs:List (Int×Int))(n:Nat)(R:List Int)(es:List En):Prop where
 cm:Ed m ws fs bs es
 row:∀p∈R,∃l o,(p,l,o)∈es
 nr:R.Nodup
 wl:∀a b c p,(a,b)∈bs->jo ws p c a->uF ws fs c->c.length<=n->At es p (b+cg ws c) c.length
 cl:∀l o(s:az)v,ws[s.1]?=some v->frm v s.2∉R->(frm v s.2,l,o)∈es->lC ws fs (frm v s.2) s=true->At es (too v s.2) (o.2+hsp v s.2) (l+1)few:6<=n->R=[]
structure In(m:Int)(ws:List Wy)(fs:List Int)(bs:List (Int×Int))(n:Nat)(R:List Int)(vm:List En)(K:az->Prop)(es:List En)(ch:List Int):Prop where
 wh:Wh m ws fs bs n R vm
 cm:Ed m ws fs bs es
 le:∀p l o,(p,l,o)∈vm->At es p o.2 l
 out:∀p l o,p∉ch->(p,l,o)∈es->(p,l,o)∈vm
 chg:∀p∈ch,∃l o,(p,l,o)∈es
 nc:ch.Nodup
 dn:∀s,K s->∀v,ws[s.1]?=some v->∀l o,(frm v s.2,l,o)∈vm->At es (too v s.2) (o.2+hsp v s.2) (l+1)few:5<=n->ch=[]
theorem In.row{m:Int}{ws:List Wy}{fs:List Int}{bs:List (Int×Int)}{n:Nat}{R:List Int}{vm:List En}{K:az->Prop}{es:List En}{ch:List Int}(h:In m ws fs bs n R vm K es ch){p:Int}(e:p∈R):∃l o,(p,l,o)∈es:=by obtain⟨l,o,z⟩:=h.wh.row p e;obtain⟨l,o,z,_⟩:=h.le _ _ _ z;exact⟨l,o,z⟩
theorem In.keep{fs:List Int}{bs:List (Int×Int)}{R:List Int}{K:az->Prop}(h:In m ws fs bs n R vm K es ch)(e:ws[s.1]?=some v)(z:(frm v s.2,l,o)∈es)(A:At es (too v s.2) (o.2+hsp v s.2) (l+1)):In m ws fs bs n R vm (λu=>K u\/u=s) es ch:=by
 refine⟨h.wh,h.cm,h.le,h.out,h.chg,h.nc,λu t=>?_,h.few⟩;rcases t with t|rfl;.exact h.dn u t
 .intro E y G H h0;rw[e]at y;cases y;obtain⟨I,J,B,C⟩:=h.le _ _ _ h0;obtain⟨rfl,rfl⟩:=jW h.cm.nd z B;exact A.le (C.add _)
theorem In.put{fs:List Int}{bs:List (Int×Int)}{R:List Int}{K:az->Prop}(h:In m ws fs bs n R vm K es ch)(J:HN m ws)(hF:Pt ws fs F)(hb:∀a b,(a,b)∈bs->0<=a/\a<m)(hZ:∀a b c,(a,b)∈bs->jo ws 0 c a->uF ws fs c->0<=b+cg ws c)(e:ws[s.1]?=some v)(L:(frm v s.2,l,o)∈es)(ho:lC ws fs (frm v s.2) s=true)(M:¬ At es (too v s.2) (o.2+hsp v s.2) (l+1)):In m ws fs bs n R vm (λu=>K u\/u=s) (pR es (too v s.2) (l+1,(some s,o.2+hsp v s.2))) (qY ch (too v s.2)):=by
 have m0:=J.m0;obtain⟨C,b0,c,c0,c1,c2,c3,c4⟩:=h.cm.wk _ _ _ L;have G:jo ws (too v s.2) (c++[s]) C:=jo.app (c2:=[s]) ⟨v,e,rfl,rfl⟩ c1;have O:uF ws fs (c++[s]):=λu hu=>by
  rcases mem_append.mp hu with hu|hu;.exact c2 u hu
  .rw[mem_singleton.mp hu];exact⟨v,e,ho⟩
 have Z:(c++[s]).length=l+1:=by simp[c3]
 have U:b0+cg ws (c++[s])=o.2+hsp v s.2:=by rw[lz,<-c4,cg,cg,iT e];omega
 have new:(too v s.2,l+1,(some s,o.2+hsp v s.2))∈pR es (too v s.2) (l+1,(some s,o.2+hsp v s.2)):=iu.mpr (.inl ⟨rfl,rfl⟩);have mono:∀{q l2 t},(q,l2,t)∈es->At (pR es (too v s.2) (l+1,(some s,o.2+hsp v s.2))) q t.2 l2:=λ{q l2 t}z=>by
  by_cases c:q=too v s.2;.subst c;refine⟨_,_,new,?_⟩;have:¬ Le t.2 l2 (o.2+hsp v s.2) (l+1):=λy=>M ⟨_,_,z,y⟩;unfold Le at this ⊢;simp only;omega
  .exact⟨l2,t,iu.mpr (.inr ⟨c,z⟩),.refl⟩
 have Q5:∀{q h n},At es q h n->At (pR es (too v s.2) (l+1,(some s,o.2+hsp v s.2))) q h n:=λ⟨l2,t,E,W⟩=>(mono E).le W;refine⟨h.wh,⟨by rw[Ey];exact CN h.cm.nd,λp l o z=>?_,?_,λp l2 t z=>?_,λp l2 t z=>?_⟩,λp l o z=>Q5 (h.le p l o z),λp l o hc z=>?_,λp hc=>?_,CN h.nc,λu hu=>?_,λh5=>?_⟩
 . rcases iu.mp z with⟨rfl,_⟩|⟨_,z⟩;.exact Hb J e s.2
   .exact h.cm.inm p l o z
 .refine iu.mpr (.inr ⟨λz=>M ?_,h.cm.z⟩);have:=hZ C b0 _ c0 (by rw[<-z]at G;exact G) O;rw[U]at this;rw[<-z];exact⟨_,_,h.cm.z,by unfold Le;simp only;omega⟩
 . rcases iu.mp z with⟨rfl,y⟩|⟨_,z⟩;.cases y;exact⟨C,b0,_,c0,G,O,Z,U⟩
   .exact h.cm.wk p l2 t z
 . rcases iu.mp z with⟨rfl,y⟩|⟨_,z⟩;.cases y;obtain⟨l',o',A,B⟩:=mono L;exact .inr ⟨s,v,l',o',rfl,e,rfl,ho,A,B.add _⟩
   . rcases h.cm.stp p l2 t z with z|⟨s',H,l',o',E,z3,z4,z5,z6,z7⟩;.exact .inl z
     .obtain⟨X,Y,A,B⟩:=mono z6;exact .inr ⟨s',H,X,Y,E,z3,z4,z5,A,(B.add _).trans z7⟩
 . rw[yp,not_or]at hc;rcases iu.mp z with⟨rfl,_⟩|⟨_,z⟩;.exact absurd rfl hc.2
   .exact h.out p l o hc.1 z
 . rcases yp.mp hc with hc|rfl;.obtain⟨l2,t,z⟩:=h.chg p hc;obtain⟨X,Y,z,_⟩:=mono z;exact⟨X,Y,z⟩
   .exact⟨_,_,new⟩
 . rcases hu with hu|rfl;.exact λH I l0 o0 h0=>Q5 (h.dn u hu H I l0 o0 h0)
   .intro H I l0 o0 h0;rw[e]at I;cases I;obtain⟨l1,o1,A,B⟩:=h.le _ _ _ h0;obtain⟨rfl,rfl⟩:=jW h.cm.nd L A;exact⟨_,_,new,B.add _⟩
 .obtain⟨c',A,B,q3,q4,_⟩:=short J hF (hb C b0 c0) _ (eY) G O;obtain⟨l1,o1,E,W⟩:=h.wh.wl C b0 c' _ c0 A B (by omega);rw[Z]at q4;refine absurd ((h.le _ _ _ E).le (W.trans ?_)) M;rw[<-U];unfold Le at q4 ⊢;omega
def bE(p:Int×Int):En:=(p.1,0,(none,p.2))
theorem Wh.start{fs:List Int}{bs:List (Int×Int)}(A:∀a b,(a,b)∈bs->0<=a/\a<m)(h0:(0,0)∈bs)(y:(bs.map (·.1)).Nodup):Wh m ws fs bs 0 (bs.map (·.1)) (bs.map bE):=by
 have B:(bs.map bE).map (·.1)=bs.map (·.1):=by rw[map_map];rfl
 have un:∀{p l o},(p,l,o)∈bs.map bE->l=0/\o.1=none/\(p,o.2)∈bs:=λ{p l o}z=>by obtain⟨⟨a,b⟩,h1,e⟩:=mem_map.mp z;cases e;exact⟨rfl,rfl,h1⟩
 have to:∀{a b},(a,b)∈bs->(a,0,(none,b))∈bs.map bE:=λh=>mem_map.mpr ⟨_,h,rfl⟩;refine⟨⟨by rw[B];exact y,λp l o z=>A _ _ (un z).2.2,to h0,λp l o z=>?_,λp l o z=>.inl ⟨(un z).2.1,(un z).2.2,(un z).1⟩⟩,λp t=>?_,y,λa b c p u t _ hc=>?_,λl o s v _ C z=>?_,λh=>by omega⟩;.exact⟨p,o.2,[],(un z).2.2,rfl,λs hs=>(by cases hs),(un z).1.symm,by rw[cg];omega⟩
 .obtain⟨⟨a,b⟩,h1,rfl⟩:=mem_map.mp t;exact⟨_,_,to h1⟩
 .cases c with|nil=>have:a=p:=t;subst this;exact⟨0,(none,b),to u,by unfold Le cg;simp⟩|cons _ _=>simp at hc
 .exact absurd (mem_map.mpr ⟨_,(un z).2.2,rfl⟩) C
theorem Wh.to{fs:List Int}{bs:List (Int×Int)}{R:List Int}(h:Wh m ws fs bs n R es):In m ws fs bs n R es (λ_=>False) es []:=⟨h,h.cm,λp l o z=>⟨l,o,z,.refl⟩,λp l o _ z=>z,λp e=>(by cases e),.nil,λs hs=>hs.elim,λ_=>rfl⟩
theorem In.out'{fs:List Int}{bs:List (Int×Int)}{R:List Int}(h:In m ws fs bs n R vm (λs=>∃p∈R,lC ws fs p s=true) es ch):Wh m ws fs bs (n+1) ch es:=by
 have t:∀{p h' k},At vm p h' k->At es p h' k:=λ⟨l,o,A,B⟩=>(h.le _ _ _ A).le B;have G:∀(s:az)v l o,ws[s.1]?=some v->(frm v s.2,l,o)∈vm->lC ws fs (frm v s.2) s=true->At es (too v s.2) (o.2+hsp v s.2) (l+1):=λs v l o e z ho=>by
  by_cases c:frm v s.2∈R;.exact h.dn s ⟨_,c,ho⟩ v e l o z
  .exact t (h.wh.cl l o s v e c z ho)
 refine⟨h.cm,h.chg,h.nc,λa b c p y H ho hc=>?_,λl o s v e hc z hs=>G s v l o e (h.out _ _ _ hc z) hs,λO=>h.few (by omega)⟩;rcases List.eq_nil_or_concat c with rfl|⟨C,s,rfl⟩;.exact t (h.wh.wl a b [] p y H ho (uy))
 . rw[List.concat_eq_append]at*;obtain⟨q,h1,v,e,rfl,E⟩:=Cz H;have E:too v s.2=p:=E;subst E;obtain⟨U,I,J⟩:=ho s (by simp);rw[e]at I;cases I;simp only[length_append,length_cons,length_nil]at hc;obtain⟨l,o,A,B⟩:=h.wh.wl a b C _ y h1 (λu L=>ho u (by simp[L])) (by omega);refine(G s v l o e A J).le ?_;have:=B.add (hsp v s.2);have M:cg ws (C++[s])=cg ws C+hsp v s.2:=by rw[lz,cg,cg,iT e];omega
   rw[M,<-Int.add_assoc];simpa using this
structure GP(m:Int)(ws:List Wy)(fs:List Int)(bs:List (Int×Int))(es:List En):Prop where
 cm:Ed m ws fs bs es
 cl:∀l o(s:az)v,ws[s.1]?=some v->(frm v s.2,l,o)∈es->lC ws fs (frm v s.2) s=true->At es (too v s.2) (o.2+hsp v s.2) (l+1)bg:∀a b,(a,b)∈bs->At es a b 0
theorem Wh.fin{fs:List Int}{bs:List (Int×Int)}(h:Wh m ws fs bs n [] es):GP m ws fs bs es:=⟨h.cm,λl o s v e z ho=>h.cl l o s v e (by simp) z ho,λa b t=>by have:=h.wl a b [] a t rfl (λs hs=>by cases hs) (uy);simpa[cg]using this⟩
abbrev Cme(m:Int)(ws:List Wy)(fs:List Int)(es:List En):Prop:=Ed m ws fs [(0,0)] es
abbrev jC(m:Int)(ws:List Wy)(fs:List Int)(es:List En):Prop:=GP m ws fs [(0,0)] es
theorem In.imp{fs:List Int}{bs:List (Int×Int)}{R:List Int}{K e:az->Prop}(h:In m ws fs bs n R vm K es ch)(z:∀s,e s->K s):In m ws fs bs n R vm e es ch:=⟨h.wh,h.cm,h.le,h.out,h.chg,h.nc,λs hs=>h.dn s (z s hs),h.few⟩
theorem T7{fs:List Int}{l:List az}(e:0<=p/\p<m):at' ((rD (jU ws fs m.toNat l)).map D.lst) p=some (.lst ((l.filter (lC ws fs p)).map sD)):=by rw[zA e.1 (by simp[rD,jU];omega)];simp[rD,jU,show p.toNat<m.toNat by omega,Int.toNat_of_nonneg e.1]
@[simp]theorem cut3{a b c:D}:Qi (.tup [a,b,c]) (part (.con .non) .non) (part (.con (.int 2)) (.int 2))=some (.val (.tup [a,b])):=rfl
theorem RZ{j:Int}:cm .lt (.tup [.int a,.int i]) (.tup [.int b,.int j])=some (bu [a,i] [b,j]):=rfl
theorem lex_lt{i:Nat}:bu [a,(i:Int)] [b,(j:Int)]=true↔¬ Le b j a i:=by unfold Le;simp[bu];omega
def za(bs:List (Int×Int)):Sl:=.val false (.dv (bs.map (·.1)) (bs.map λp=>.int p.2))
abbrev bg:Sl:=za [(0,0)]
inductive JC2(m:Int)(ws:List Wy)(fs:List Int)(bs:List (Int×Int))(a0 a1 a2 a3 a6:Sl)(n:Nat)(R:List Int)(vm:List En)(pre:List Int)(p:Int)(r:List D)(ρ:List Sl):Prop where|mk(es:List En)(ch:List Int)(cH us:List az)(s8 s9 tM:Sl)(q0:ρ=[a0,a1,a2,a3,.cN (es.map en),.val false (.int p),a6,.cN (ch.map zB),s8,s9,tM])(q1:A3 (fr s8=true) (fr s9=true) (fr tM=true))(q2:r=us.map sD)(q3:cH++us=(iR ws.length).filter (lC ws fs p))(q4:In m ws fs bs n R vm (λs=>(∃q∈pre,lC ws fs q s=true)\/s∈cH) es ch)
inductive JC1(m:Int)(ws:List Wy)(fs:List Int)(bs:List (Int×Int))(a0 a1 a2 a3 a6:Sl)(n:Nat)(R:List Int)(vm:List En)(r:List D)(ρ:List Sl):Prop where|mk(es:List En)(ch pre qs:List Int)(s5 s8 s9 tM:Sl)(q0:ρ=[a0,a1,a2,a3,.cN (es.map en),s5,a6,.cN (ch.map zB),s8,s9,tM])(q1:A4 (fr s5=true) (fr s8=true) (fr s9=true) (fr tM=true))(q2:r=qs.map D.int)(q3:pre++qs=R)(q4:In m ws fs bs n R vm (λs=>∃q∈pre,lC ws fs q s=true) es ch)
inductive JCw(m:Int)(ws:List Wy)(fs:List Int)(bs:List (Int×Int))(a0 a1 a2 a3:Sl)(M:Nat)(ρ:List Sl):Prop where|mk(n:Nat)(R:List Int)(es:List En)(s5 s7 s8 s9 tM:Sl)(q0:ρ=[a0,a1,a2,a3,.cN (es.map en),s5,.own false (R.map D.int),s7,s8,s9,tM])(q1:A4 (fr s5=true) (fr s8=true) (fr s9=true) (fr tM=true))(q2:(s7=.aN\/∃d,s7=.val false d))(q3:Wh m ws fs bs n R es)(q4:7<=n+M)
inductive JC0(a0 a1 a2 a3:Sl)(bs:List (Int×Int))(r:List D)(ρ:List Sl):Prop where|mk(cH us:List (Int×Int))(s5:Sl)(q0:ρ=[a0,a1,a2,a3,.cN ((cH.map bE).map en),s5,.aN,.aN,.aN,.aN,.aN])(q1:fr s5=true)(q2:r=(us.map (·.1)).map D.int)(q3:cH++us=bs)
theorem Du{a b:Int}:∀{bs:List (Int×Int)},(bs.map (·.1)).Nodup->(a,b)∈bs->mR ((bs.map (·.1)).zip (bs.map λp=>D.int p.2)) a=some (.int b)
 |[],_,h=>by cases h|p::bs,e,h=>by
   rw[map_cons,nodup_cons]at e;unfold mR;rw[map_cons,map_cons,List.zip_cons_cons,find?_cons];rcases mem_cons.mp h with h|h;.subst h;simp
   .have t:p.1≠a:=λz=>e.1 (by rw[z];exact mem_map.mpr ⟨_,h,rfl⟩);have:=Du e.2 h;unfold mR at this;simpa[t]using this
theorem Ef{s:Sl}{fs:List Int}{bs:List (Int×Int)}(hw:100<=w)(hF:Pt ws fs F)(hb:∀a b,(a,b)∈bs->0<=a/\a<m)(h0:(0,0)∈bs)(J:(bs.map (·.1)).Nodup)(hZ:∀a b c,(a,b)∈bs->jo ws 0 c a->uF ws fs c->0<=b+cg ws c)(hs:Yi s fs)(h:HN m ws)(hf:fs.length=ws.length)(k:∀es,GP m ws fs bs es->Q (.val (mX es)) [.val false (bT m ws),s,za bs]):(run Γ w (n+3) 5 [.val false (bT m ws),s,za bs]).sat Q:=by
 have hn:=h.len;have m0:=h.m0;have m1:=h.m1;refine bz (d:=f5) rfl rfl (by decide) ?_;refine jF (λρ=>ρ=[.val false (bT m ws),s,za bs,.val false (.lst ((rD (jU ws fs m.toNat (iR ws.length))).map D.lst)),.aN,.aN,.aN,.aN,.aN,.aN,.aN]) ?_ ?_;.have aw:=hs;rcases hs with rfl|⟨b,rfl⟩;all_goals simp[f5,za];refine JN (by first|exact .inl rfl|exact .inr ⟨_,rfl⟩) h hf ?_;simp
 rintro _ rfl;generalize hA:((rD (jU ws fs m.toNat (iR ws.length))).map D.lst)=A;have ax:bs.length<=6:=by
  have:=six m1 J λp hp=>by obtain⟨⟨a,b⟩,h1,rfl⟩:=mem_map.mp hp;exact hb a b h1
  simpa using this
 apply aj;simp;apply aj;simp[za];refine bR (JC0 (.val false (bT m ws)) s (za bs) (.val false (.lst A)) bs) ?_ ?_ ⟨[],bs,.aN,rfl,rfl,by rw[map_map],rfl⟩;.rintro d r _⟨G,C,s5,rfl,U,hr,hd⟩;cases C with|nil=>cases hr|cons u C=>
     obtain⟨rfl,rfl⟩:d=.int u.1/\r=(C.map (·.1)).map D.int:=by simpa using hr
     have al:(G++[u])++C=bs:=by rw[append_assoc];exact hd
     have hg:=Du (a:=u.1) (b:=u.2) J (by rw[<-hd];simp);have hk:qt ((G.map bE).map en) u.1=false:=kin_no λ⟨l,o,z⟩=>by obtain⟨⟨a,b⟩,h1,e⟩:=mem_map.mp z;cases e;rw[<-hd,map_append,nodup_append]at J;exact J.2.2 u.1 (mem_map.mpr ⟨_,h1,rfl⟩) u.1 (by simp) rfl
     have hp:iz ((G.map bE).map en) u.1 (.tup [.int u.2,.int 0,.non])=((G++[u]).map bE).map en:=by rw[sy hk,map_append,map_append];rfl
     have ay:G.length<=bs.length:=by rw[<-hd];simp
     simp[U];apply aj;rw[map_map]at hp;simp[za,hg];refine⟨λ_=>⟨G++[u],C,.val false (.int u.1),by rw[hp],rfl,(map_map ..).symm,al⟩,by show _<16777216;omega⟩
 rintro _⟨G,C,s5,rfl,U,hr,hd⟩;have:C=[]:=by cases C with|nil=>rfl|cons _ _=>cases hr
 subst this;rw[append_nil]at hd;obtain rfl:bs=G:=hd.symm;simp;apply aj;simp[za,show bs.length<=16777216 by omega];apply aj;simp;rw[show map (en ∘ bE) bs=(bs.map bE).map en from(map_map ..).symm,show map (D.int ∘ λx=>x.1) bs=(bs.map (·.1)).map D.int from(map_map ..).symm];refine j4 (JCw m ws fs bs _ _ _ _) ?_ (k:=w) (m:=50) (by omega) ⟨0,bs.map (·.1),bs.map bE,s5,.aN,.aN,.aN,.aN,rfl,⟨U,rfl,rfl,rfl⟩,.inl rfl,Wh.start hb h0 J,by omega⟩;rintro M _⟨n',R,es,s5,s7,s8,s9,tM,rfl,⟨U,W,X,E⟩,h7,hW,hM⟩;by_cases hR:R=[];.subst hR;simp;apply aj;simp;have:=k es hW.fin;simp[Function.comp_def,en];exact this
 . have am:0<R.length:=by cases R with|nil=>exact absurd rfl hR|cons _ _=>simp
   simp[am];refine jF (λρ=>ρ=[.val false (bT m ws),s,za bs,.val false (.lst A),.cN (es.map en),s5,.own false (R.map D.int),.cN [],s8,s9,tM]) ?_ ?_
   . rcases h7 with rfl|⟨d,rfl⟩;.simp[za]
     .simp[za]
   rintro _ rfl;symm;simp;refine bR (JC1 m ws fs bs _ _ _ _ _ n' R es) ?_ ?_ ⟨es,[],[],R,s5,s8,s9,tM,rfl,⟨U,W,X,E⟩,rfl,rfl,hW.to.imp λs hs=>by obtain⟨q,hq,_⟩:=hs;cases hq⟩;.rintro d r _⟨t,ch,pre,qs,s5,s8,s9,tM,rfl,⟨U,W,X,E⟩,hr,L,B⟩;cases qs with|nil=>cases hr|cons p qs=>
       obtain⟨rfl,rfl⟩:d=.int p/\r=qs.map D.int:=by simpa using hr
       have af:p∈R:=by rw[<-L];simp
       have ap:0<=p/\p<m:=by obtain⟨l,o,ho⟩:=B.row af;exact B.cm.inm _ _ _ ho
       have Z:=T7 (ws:=ws) (fs:=fs) (l:=iR ws.length) ap;rw[hA]at Z;simp[U];apply aj;simp[Z];refine bR (JC2 m ws fs bs _ _ _ _ _ n' R es pre p) ?_ ?_ ⟨t,ch,[],_,s8,s9,tM,rfl,⟨W,X,E⟩,rfl,rfl,B.imp λs hs=>by rcases hs with hs|hs;exact hs;cases hs⟩;.rintro d r _⟨t,ch,G,C,s8,s9,tM,rfl,⟨W,X,E⟩,hr,O,B⟩;cases C with|nil=>cases hr|cons u C=>
           obtain⟨rfl,rfl⟩:d=sD u/\r=C.map sD:=by simpa using hr
           have hu:lC ws fs p u=true:=by
            have:u∈(iR ws.length).filter (lC ws fs p):=by rw[<-O];simp
            exact(List.mem_filter.mp this).2
           obtain⟨v,g,e1,e2,e3,e4⟩:=qP hu;have ag:(G++[u])++C=(iR ws.length).filter (lC ws fs p):=by rw[append_assoc];exact O
           obtain⟨I,op,ac⟩:=B.row af;subst e3;have gp:=qg B.cm.nd ac;have av:=B.cm.len m1;have ar:ch.length<=6:=six m1 B.nc λq hq=>by obtain⟨l,o,z⟩:=B.chg q hq;exact B.cm.inm _ _ _ z
           have ah:∀s,((∃q∈pre,lC ws fs q s=true)\/s∈G++[u])->((∃q∈pre,lC ws fs q s=true)\/s∈G)\/s=u:=λs hs=>by
            rcases hs with hs|hs;.exact .inl (.inl hs)
            . rcases mem_append.mp hs with hs|hs;.exact .inl (.inr hs)
              .exact .inr (by simpa using hs)
           simp[W];apply aj;simp[sD];refine mJ e1 ?_;simp[X];apply aj;simp[gp,Dr];refine uC e1 ?_;simp[gp,Dr,E];apply aj;have keep:At t (too v u.2) (op.2+hsp v u.2) (I+1)->JC2 m ws fs bs (.val false (bT m ws)) s (za bs) (.val false (.lst A)) (.lent (R.map D.int)) n' R es pre (frm v u.2) (C.map sD) [.val false (bT m ws),s,za bs,.val false (.lst A),.cN (t.map en),.val false (.int (frm v u.2)),.lent (R.map D.int),.cN (ch.map zB),.val false (gA u.1 u.2),.val false (.int (too v u.2)),.val false (.tup [.int (op.2+hsp v u.2),.int ((I:Int)+1)])]:=λH=>⟨t,ch,G++[u],C,_,_,_,rfl,⟨rfl,rfl,rfl⟩,rfl,ag,(B.keep e1 ac H).imp ah⟩;have ai:¬ At t (too v u.2) (op.2+hsp v u.2) (I+1)->JC2 m ws fs bs (.val false (bT m ws)) s (za bs) (.val false (.lst A)) (.lent (R.map D.int)) n' R es pre (frm v u.2) (C.map sD) [.val false (bT m ws),s,za bs,.val false (.lst A),.cN ((pR t (too v u.2) (I+1,(some u,op.2+hsp v u.2))).map en),.val false (.int (frm v u.2)),.lent (R.map D.int),.cN ((qY ch (too v u.2)).map zB),.val false (gA u.1 u.2),.val false (.int (too v u.2)),.val false (.tup [.int (op.2+hsp v u.2),.int ((I:Int)+1)])]:=λH=>⟨_,_,G++[u],C,_,_,_,rfl,⟨rfl,rfl,rfl⟩,rfl,ag,(B.put h hF hb hZ e1 ac hu H).imp ah⟩;have p1:iz (t.map en) (too v u.2) (.tup [.int (op.2+hsp v u.2),.int ((I:Int)+1),gA u.1 u.2])=(pR t (too v u.2) (I+1,(some u,op.2+hsp v u.2))).map en:=by rw[<-Lk];simp[Dr,oS,sD]
           have p2:iz (ch.map zB) (too v u.2) (.bl true)=(qY ch (too v u.2)).map zB:=Od;by_cases hq:∃l o,(too v u.2,l,o)∈t
           . obtain⟨l,o,Y⟩:=hq;have gt:=qg B.cm.nd Y;have kt:qt (t.map en) (too v u.2)=true:=Ah.mpr ⟨l,o,Y⟩;have ae:=lex_lt (a:=op.2+hsp v u.2) (i:=I+1) (b:=o.2) (j:=l);rw[show((I+1:Nat):Int)=(I:Int)+1 by omega]at ae;simp[kt,gt,Dr,RZ];refine⟨λz=>?_,λz=>?_⟩
             . have H:¬ At t (too v u.2) (op.2+hsp v u.2) (I+1):=λ⟨l2,o2,y1,y2⟩=>by obtain⟨rfl,rfl⟩:=jW B.cm.nd Y y1;exact ae.mp z y2
               symm;simp[p1];refine⟨by decide,λ_=>?_,by show _<16777216;omega⟩;symm;simp[p2];refine⟨λ_=>ai H,by show _<16777216;omega⟩
             . have H:At t (too v u.2) (op.2+hsp v u.2) (I+1):=by
                refine⟨l,o,Y,?_⟩;by_cases y:Le o.2 l (op.2+hsp v u.2) (I+1);.exact y
                .rw[ae.mpr y]at z;cases z
               exact keep H
           .have kt:qt (t.map en) (too v u.2)=false:=kin_no hq;simp[kt];apply aj;simp[p1];refine⟨by decide,λ_=>?_,by show _<16777216;omega⟩;symm;simp[p2];exact⟨λ_=>ai λ⟨l2,o2,y1,_⟩=>hq ⟨l2,o2,y1⟩,by show _<16777216;omega⟩
       . rintro _⟨t,ch,G,C,s8,s9,tM,rfl,⟨W,X,E⟩,hr,O,B⟩;have:C=[]:=by cases C with|nil=>rfl|cons _ _=>cases hr
         subst this;rw[append_nil]at O;simp;refine⟨t,ch,pre++[p],qs,_,_,_,_,rfl,⟨rfl,W,X,E⟩,rfl,by rw[append_assoc];exact L,B.imp λs hs=>?_⟩;obtain⟨q,hq,hs⟩:=hs;rcases mem_append.mp hq with hq|hq;.exact .inl ⟨q,hq,hs⟩
         . obtain rfl:q=p:=by simpa using hq
           refine .inr ?_;rw[O];obtain⟨v,g,e1,_⟩:=qP hs;exact List.mem_filter.mpr ⟨yo (fM e1).1,hs⟩
   . rintro _⟨t,ch,pre,qs,s5,s8,s9,tM,rfl,⟨U,W,X,E⟩,hr,L,B⟩;have:qs=[]:=by cases qs with|nil=>rfl|cons _ _=>cases hr
     subst this;rw[append_nil]at L;subst L;have ar:ch.length<=6:=six m1 B.nc λq hq=>by obtain⟨l,o,z⟩:=B.chg q hq;exact B.cm.inm _ _ _ z
     have hO:=B.out';have aE:n'<6:=by
      by_cases c:6<=n';.exact absurd (hW.few c) hR
      .omega
     simp;apply aj;simp[show ch.length<=16777216 by omega];exact⟨M-1,by omega,n'+1,ch,t,_,_,_,_,_,rfl,⟨U,W,X,E⟩,.inr ⟨_,rfl⟩,hO,by omega⟩
theorem ym{s:Sl}{fs:List Int}(u:100<=w)(t:Pt ws fs F)(hs:Yi s fs)(h:HN m ws)(y:fs.length=ws.length)(k:∀es,jC m ws fs es->Q (.val (mX es)) [.val false (bT m ws),s,bg]):(run Γ w (n+3) 5 [.val false (bT m ws),s,bg]).sat Q:=by
 have m0:=h.m0;have one:∀{a b:Int},(a,b)∈[((0:Int),(0:Int))]->a=0/\b=0:=λe=>by have:=mem_singleton.mp e;cases this;exact⟨rfl,rfl⟩
 refine Ef u t (λa b e=>by obtain⟨rfl,rfl⟩:=one e;omega) (by simp) (by simp) (λa b c e z ho=>?_) hs h y k;obtain⟨rfl,rfl⟩:=one e;have:=oM t z ho;omega
theorem jC.all{m:Int}{ws:List Wy}{fs:List Int}{es:List En}(h:jC m ws fs es){b:Int}:∀{c:List az}{a:Int}{l:Nat}{o:Option az×Int},jo ws b c a->uF ws fs c->(a,l,o)∈es->At es b (o.2+cg ws c) (l+c.length)|[],a,l,o,t,_,z=>by have:a=b:=t;subst this;exact⟨l,o,z,by unfold Le cg;simp⟩|s::c,a,l,o,⟨v,e,A,t⟩,ho,z=>by subst A;obtain⟨J,y,B⟩:=ho s (by simp);rw[e]at y;cases y;obtain⟨L,M,C,O⟩:=h.cl l o s v e z B;obtain⟨l2,E,G,H⟩:=jC.all h t (λu I=>ho u (mem_cons_of_mem _ I)) C;refine⟨l2,E,G,H.trans ?_⟩;rw[cg,iT e,length_cons];unfold Le at*;omega
theorem jC.l5{fs:List Int}(h:jC m ws fs es)(t:HN m ws)(u:Pt ws fs F)(z:(p,l,o)∈es):l<=5:=by
 have m0:=t.m0;obtain⟨a,b,c,e,c1,c2,c3,c4⟩:=h.cm.wk p l o z;obtain⟨rfl,rfl⟩:a=0/\b=0:=by have:=mem_singleton.mp e;cases this;exact⟨rfl,rfl⟩
 obtain⟨G,y,A,H,B,_⟩:=short t u ⟨by omega,by omega⟩ _ (eY) c1 c2;obtain⟨l2,I,C,E⟩:=h.all y A h.cm.z;obtain⟨rfl,rfl⟩:=jW h.cm.nd z C;rw[Int.zero_add]at c4;rw[c3,c4]at B;unfold Le at*;simp only at E;omega
theorem jC.on{fs:List Int}(h:jC m ws fs es)(z:(p,l,o)∈es):(o=(none,0)/\p=0/\l=0)\/∃(s:az)(v:Wy)(t:Nat)(e:Option az×Int),o=(some s,e.2+hsp v s.2)/\l=t+1/\ws[s.1]?=some v/\too v s.2=p/\lC ws fs (frm v s.2) s=true/\(frm v s.2,t,e)∈es:=by
 rcases h.cm.stp p l o z with⟨h1,u,rfl⟩|⟨s,v,t,e,h1,y,rfl,A,B,E⟩
 . obtain⟨rfl,_⟩:p=0/\o.2=0:=by have:=mem_singleton.mp u;exact⟨congrArg Prod.fst this,congrArg Prod.snd this⟩
   exact .inl ⟨(jW h.cm.nd z h.cm.z).2,rfl,rfl⟩
 . obtain⟨l2,G,C,H⟩:=h.cl t e s v y B A;obtain⟨rfl,rfl⟩:=jW h.cm.nd z C;refine .inr ⟨s,v,t,e,?_,?_,y,rfl,A,B⟩;.exact Prod.ext_iff.mpr ⟨h1,by show _=e.2+hsp v s.2;unfold Le at*;omega⟩
   .unfold Le at*;omega
structure Ql(ws:List Wy)(fs:List Int)(es:List En)(p:Int)(L:Nat)(H:Int)(a:Int)(l:Nat)(h:Int)(c:List az):Prop where
 KQ:jo ws p c a
 jU:uF ws fs c
 nd:(c.map (·.1)).Nodup
 lv:∀s∈c,∀v,ws[s.1]?=some v->∃l1 o1 o2,(frm v s.2,l1,o1)∈es/\(too v s.2,l1+1,o2)∈es/\l<=l1
 len:c.length+l=L
 hrs:cg ws c+h=H
theorem nG{g:Bool}(h:g≠f):frm v g=too v f/\too v g=frm v f:=by cases f<;>cases g<;>first|exact absurd rfl h|exact⟨rfl,rfl⟩
theorem Ql.cons{m:Int}{ws:List Wy}{fs:List Int}{es:List En}{p:Int}{L l:Nat}{H x:Int}{c:List az}{s:az}{v:Wy}{o I:Option az×Int}(hc:Cme m ws fs es)(h:Ql ws fs es p L H (too v s.2) (l+1) (x+hsp v s.2) c)(e:ws[s.1]?=some v)(h1:(too v s.2,l+1,o)∈es)(B:(frm v s.2,l,I)∈es)(ho:lC ws fs (frm v s.2) s=true):Ql ws fs es p L H (frm v s.2) l x (s::c):=by
 refine⟨⟨v,e,rfl,h.KQ⟩,λu hu=>?_,?_,λu hu x ex=>?_,by have:=h.len;simp only[length_cons];omega,by have:=h.hrs;rw[cg,iT e];omega⟩
 . rcases mem_cons.mp hu with rfl|hu;.exact⟨v,e,ho⟩
   .exact h.jU u hu
 . rw[map_cons,nodup_cons];refine⟨λJ=>?_,h.nd⟩;obtain⟨t,ht,M⟩:=mem_map.mp J;obtain⟨C,E,G,y,A,O⟩:=h.lv t ht v (by rw[M];exact e);by_cases z:t.2=s.2;.rw[z]at y;have:=(jW hc.nd y B).1;omega
   .rw[(nG z).2]at A;have:=(jW hc.nd A B).1;omega
 . rcases mem_cons.mp hu with rfl|hu;.rw[e]at ex;cases ex;exact⟨l,_,_,B,h1,eY⟩
   .obtain⟨C,E,G,y,A,O⟩:=h.lv u hu x ex;exact⟨C,E,G,y,A,by omega⟩
theorem G8(e:(es.map (·.1)).Nodup)(h:(p,x)∈es):mR ((es.map (·.1)).zip (es.map Dr)) p=some (Dr (p,x)):=by
 have:(es.map (·.1)).zip (es.map Dr)=es.map en:=by rw[List.zip_map'];rfl
 rw[this];exact qg e h
inductive JSt(m:Int)(ws:List Wy)(fs:List Int)(es:List En)(p:Int)(L:Nat)(H:Int)(a0 a1 a2:Sl)(M:Nat)(ρ:List Sl):Prop where|mk(a:Int)(l:Nat)(o:Option az×Int)(c:List az)(s5:Sl)(q0:ρ=[a0,a1,a2,.own false (c.reverse.map sD),.val false (.int a),s5])(q1:fr s5=true)(q2:(a,l,o)∈es)(q3:Ql ws fs es p L H a l o.2 c)(q4:l<=M)
theorem Ft{L:Nat}{fs:List Int}(G:100<=w)(h:jC m ws fs es)(H:L<=5)(B:(p,L,o)∈es)(k:∀c,Ql ws fs es p L o.2 0 0 0 c->Q (.val (.tup (c.map sD))) [.val false (bT m ws),.val false (mX es),.val false (.int p)]):(run Γ w (n+2) 6 [.val false (bT m ws),.val false (mX es),.val false (.int p)]).sat Q:=by
 refine bz (d:=f6) rfl rfl (by decide) ?_;symm;simp[f6];apply aj;simp;apply aj;simp;refine j4 (JSt m ws fs es p L o.2 _ _ _) ?_ (k:=w) (m:=L) (by omega) ⟨p,L,o,[],.aN,rfl,rfl,B,⟨rfl,λs hs=>(by cases hs),by simp,by simp,by simp,by rw[cg];omega⟩,eY⟩;rintro M _⟨a,l,I,c,s5,rfl,C,t,hc,J⟩;have u:=G8 h.cm.nd t;rcases h.on t with⟨rfl,rfl,rfl⟩|⟨s,v,z,E,rfl,rfl,e,rfl,ho,A⟩;.simp[mX,u,Dr,oS];symm;simp;exact k c hc
 . simp[mX,u,Dr,oS,sD,gA];symm;simp[u,Dr,oS,C];apply aj;have y:c.length<16777216:=by have:=hc.len;omega
   simp[y];apply aj;simp[sD];refine mJ e ?_;simp;exact⟨z,by omega,frm v s.2,z,E,s::c,.val false (gA s.1 s.2),by simp[mX,sD],rfl,A,hc.cons h.cm e t A ho,eY⟩
def sg(x:Int)(f:Bool):Int:=if f then x else-x
def m8(x:Int)(fs:List Int)(s:az):List Int:=fs.set s.1 ((fs[s.1]?.getD 0)+sg x s.2)
def aug(x:Int)(fs:List Int)(c:List az):List Int:=c.foldl (m8 x) fs
@[simp]theorem yD{x:Int}{fs:List Int}{s:az}:(m8 x fs s).length=fs.length:=by simp[m8]
theorem vy{x:Int}:∀{c:List az}{fs:List Int},(aug x fs c).length=fs.length|[],_=>rfl|s::c,fs=>by show(aug x (m8 x fs s) c).length=_;rw[vy,yD]
theorem qm{x:Int}{j:Nat}:∀{c:List az}{fs:List Int},j∉c.map (·.1)->(aug x fs c)[j]?=fs[j]?|[],_,_=>rfl|s::c,fs,h=>by rw[map_cons,mem_cons,not_or]at h;show(aug x (m8 x fs s) c)[j]?=_;rw[qm h.2];unfold m8;rw[getElem?_set_ne (λz=>h.1 z.symm)]
theorem Af{x:Int}:∀{c:List az}{fs:List Int}{s:az}{g:Int},(c.map (·.1)).Nodup->s∈c->fs[s.1]?=some g->(aug x fs c)[s.1]?=some (g+sg x s.2)
 |[],_,_,_,_,h,_=>by cases h|t::c,fs,s,g,u,h,e=>by
   rw[map_cons,nodup_cons]at u;show(aug x (m8 x fs t) c)[s.1]?=_;have y:=(fM e).1;rcases mem_cons.mp h with rfl|h;.rw[qm u.1];unfold m8;rw[getElem?_set_self y,e];rfl
   .refine Af u.2 h ?_;unfold m8;rw[getElem?_set_ne (λz=>u.1 (by rw[z];exact mem_map.mpr ⟨s,h,rfl⟩))];exact e
inductive JWt(x:Int)(fs:List Int)(c:List az)(a0 a1 a2:Sl)(r:List D)(ρ:List Sl):Prop where|mk(cH us:List az)(s4 s5:Sl)(q0:ρ=[a0,a1,a2,.own false ((aug x fs cH).map D.int),s4,s5])(q1:fr s4=true)(q2:fr s5=true)(q3:r=us.map sD)(q4:cH++us=c)
theorem Hg{s:Sl}{x:Int}{fs:List Int}(hs:Yi s fs)(hc:∀s∈c,s.1<fs.length)(k:Q (.own ((aug x fs c).map D.int)) [s,.val false (.tup (c.map sD)),.val false (.int x)]):(run Γ w (n+1) 7 [s,.val false (.tup (c.map sD)),.val false (.int x)]).sat Q:=by
 refine bz (d:=f7) rfl rfl (by decide) ?_;refine jF (λρ=>ρ=[s,.val false (.tup (c.map sD)),.val false (.int x),.own false (fs.map D.int),.aN,.aN]) ?_ ?_;.rcases hs with rfl|⟨b,rfl⟩;all_goals simp[f7]
 rintro _ rfl;symm;simp;refine bR (JWt x fs c _ _ _) ?_ ?_ ⟨[],c,.aN,.aN,rfl,rfl,rfl,rfl,rfl⟩;.rintro d r _⟨e,h,s4,s5,rfl,z,A,hr,hd⟩;cases h with|nil=>cases hr|cons u h=>
     obtain⟨rfl,rfl⟩:d=sD u/\r=h.map sD:=by simpa using hr
     have C:u.1<(aug x fs e).length:=by rw[vy];exact hc u (by rw[<-hd];simp)
     have y:(aug x fs e)[u.1]?=some (aug x fs e)[u.1]:=by simp[C]
     have B:jP (aug x fs e).length (u.1:Int)=some u.1:=by unfold jP;rw[if_pos (by omega),if_pos (by omega)];simp
     have he:aug x fs (e++[u])=(aug x fs e).set u.1 ((aug x fs e)[u.1]+sg x u.2):=by unfold aug;rw[List.foldl_append];show m8 x (aug x fs e) u=_;unfold m8;rw[y];rfl
     have t:(e++[u])++h=c:=by rw[append_assoc];exact hd
     generalize(aug x fs e)[u.1]=g at*;simp[sD,gA,z,A];apply aj;obtain⟨j,f⟩:=u;cases f with|true=>simp[iV y,B];exact⟨e++[(j,true)],h,_,_,by rw[he,map_set];rfl,rfl,rfl,rfl,t⟩|false=>simp[iV y,B];exact⟨e++[(j,false)],h,_,_,by rw[he,map_set];rfl,rfl,rfl,rfl,t⟩
 . rintro _⟨e,h,s4,s5,rfl,z,A,hr,hd⟩;have:h=[]:=by cases h with|nil=>rfl|cons _ _=>cases hr
   subst this;rw[append_nil]at hd;subst hd;simp;apply aj;simp;exact k
def Gr(F:Int->Int)(D:Int):List En->Int->Int|[],p=>F p+D|e::es,p=>if e.1=p then e.2.2.2 else Gr F D es p
theorem jm{F:Int->Int}{D p:Int}{l:Nat}{o:Option az×Int}:∀{es:List En},(es.map (·.1)).Nodup->(p,l,o)∈es->Gr F D es p=o.2
 |[],_,h=>by cases h|e::es,t,h=>by
   rw[map_cons,nodup_cons]at t;rw[Gr];rcases mem_cons.mp h with rfl|h;.rw[if_pos rfl]
   .rw[if_neg (λz=>t.1 (by rw[z];exact mem_map.mpr ⟨_,h,rfl⟩))];exact jm t.2 h
theorem qF{F:Int->Int}{D p:Int}:∀{es:List En},(¬ ∃l o,(p,l,o)∈es)->Gr F D es p=F p+D|[],_=>rfl|e::es,h=>by rw[Gr,if_neg (λz=>h ⟨e.2.1,e.2.2,by rw[<-z];simp⟩)];exact qF λ⟨l,o,z⟩=>h ⟨l,o,mem_cons_of_mem _ z⟩
theorem Bv(F:Int->Int):∀(es:List En),∃D,∀p l o,(p,l,o)∈es->o.2<=F p+D
 |[]=>⟨0,λ_ _ _ h=>by cases h⟩|e::es=>by
   obtain⟨D,h⟩:=Bv F es;refine⟨max D (e.2.2.2-F e.1),λp l o z=>?_⟩;rcases mem_cons.mp z with rfl|z;.simp only;omega
   .have:=h p l o z;omega
theorem jC.pt{fs:List Int}{D:Int}(h:jC m ws fs es)(t:Pt ws fs F)(u:∀p l o,(p,l,o)∈es->o.2<=F p+D):Pt ws fs (Gr F D es):=λs v e ho=>by
 by_cases c:∃l o,(frm v s.2,l,o)∈es;.obtain⟨l,o,c⟩:=c;obtain⟨l2,y,c2,c3⟩:=h.cl l o s v e c ho;rw[jm h.cm.nd c,jm h.cm.nd c2];unfold Le at c3;omega
 . rw[qF c];have h1:=t s v e ho;by_cases c2:∃l o,(too v s.2,l,o)∈es;.obtain⟨l2,y,c2⟩:=c2;rw[jm h.cm.nd c2];have:=u _ _ _ c2;omega
   .rw[qF c2];omega
theorem HQ{fs:List Int}{G:Int->Int}(d:Int)(h:Pt ws fs F)(t:Pt ws fs G):Pt ws fs (λp=>min (F p) (G p+d)):=λs v e ho=>by have h1:=h s v e ho;have u:=t s v e ho;simp only;omega
theorem uo{ws:List Wy}{fs:List Int}{F:Int->Int}(h:Pt ws fs F){b:Int}:∀{c:List az}{a:Int},jo ws b c a->uF ws fs c->F b=F a+cg ws c->∀s∈c,∀v,ws[s.1]?=some v->F (too v s.2)=F (frm v s.2)+hsp v s.2
 |[],_,_,_,_,s,hs,_,_=>by cases hs|s::c,a,⟨v,e,y,z⟩,ho,he,u,hu,x,ex=>by
   have t:uF ws fs c:=λu hu=>ho u (mem_cons_of_mem _ hu);have h1:=oM h z t;obtain⟨C,A,o⟩:=ho s (by simp);rw[e]at A;cases A;have B:=h s v e o;rw[y]at B;rw[cg,iT e]at he;rcases mem_cons.mp hu with rfl|hu;.rw[e]at ex;cases ex;rw[y];omega
   .exact uo h z t (by omega) u hu x ex
theorem rO{fs:List Int}{x:Int}{t:az}(hc:uF ws fs c)(e:ws[t.1]?=some v)(h:lC ws (aug x fs c) (frm v t.2) t=true):lC ws fs (frm v t.2) t=true\/∃s∈c,s.1=t.1/\t.2≠s.2:=by
 by_cases z:t.1∈c.map (·.1)
 . obtain⟨s,hs,es⟩:=mem_map.mp z;by_cases q:t.2=s.2;.have:t=s:=Prod.ext_iff.mpr ⟨es.symm,q⟩;subst this;obtain⟨y,u,o⟩:=hc t hs;rw[e]at u;cases u;exact .inl o
   .exact .inr ⟨s,hs,es,q⟩
 .refine .inl ?_;unfold lC at h ⊢;rwa[qm z]at h
theorem Pt.aug{ws:List Wy}{fs:List Int}{F:Int->Int}(h:Pt ws fs F){a b x:Int}{c:List az}(y:jo ws b c a)(ho:uF ws fs c)(he:F b=F a+cg ws c):Pt ws (aug x fs c) F:=λt v e o=>by
 rcases rO ho e o with o|⟨u,z,A,ne⟩;.exact h t v e o
 . have:=uo h y ho he u z v (by rw[A];exact e);rw[(nG ne).1,(nG ne).2];have:hsp v t.2=-hsp v u.2:=by cases h1:t.2<;>cases h2:u.2<;>simp[hsp]<;>(rw[h1,h2]at ne;exact absurd rfl ne)
   omega
def gK(G:Wy->Int):List Wy->List Int->Int|v::ws,g::fs=>G v*g+gK G ws fs|_,_=>0
def yh(H:Wy->Int):List Wy->Int|[]=>0|v::ws=>H v+yh H ws
theorem Ay{G H:Wy->Int}:∀{ws:List Wy}{fs:List Int},fs.length=ws.length->(∀(j:Nat)v g,ws[j]?=some v->fs[j]?=some g->G v*g<=H v)->gK G ws fs<=yh H ws|[],[],_,_=>Int.le_refl _|[],_::_,h,_=>by simp at h|_::_,[],h,_=>by simp at h|v::ws,g::fs,h,k=>by have h1:=k 0 v g rfl rfl;have u:=Ay (G:=G) (H:=H) (ws:=ws) (fs:=fs) (by simpa using h) λj v g e t=>k (j+1) v g (by simpa using e) (by simpa using t);rw[gK,yh];omega
theorem zx{G H:Wy->Int}:∀{ws:List Wy}{fs:List Int},fs.length=ws.length->(∀(j:Nat)v g,ws[j]?=some v->fs[j]?=some g->H v<=G v*g)->yh H ws<=gK G ws fs|[],[],_,_=>Int.le_refl _|[],_::_,h,_=>by simp at h|_::_,[],h,_=>by simp at h|v::ws,g::fs,h,k=>by have h1:=k 0 v g rfl rfl;have u:=zx (G:=G) (H:=H) (ws:=ws) (fs:=fs) (by simpa using h) λj v g e t=>k (j+1) v g (by simpa using e) (by simpa using t);rw[gK,yh];omega
theorem Ck{G:Wy->Int}{v:Wy}{g y:Int}:∀{j:Nat}{ws:List Wy}{fs:List Int},ws[j]?=some v->fs[j]?=some g->gK G ws (fs.set j (g+y))=gK G ws fs+G v*y|_,[],_,e,_=>by simp at e|_,_::_,[],_,e=>by simp at e|0,u::ws,f::fs,h,t=>by simp at h t;subst h t;rw[List.set_cons_zero,gK,gK,mul_add];omega|j+1,u::ws,f::fs,h,t=>by rw[List.set_cons_succ,gK,gK,Ck (j:=j) (by simpa using h) (by simpa using t)];omega
def gap(k:Int)(q:Int->Int)(v:Wy):Int:=q v.t-q v.s-k*v.h
theorem Gx{x:Int}:gap k q v*sg x f=x*(q (too v f)-q (frm v f)-k*hsp v f):=by cases f with|true=>show(q v.t-q v.s-k*v.h)*x=x*(q v.t-q v.s-k*v.h);exact mul_comm _ _|false=>show(q v.t-q v.s-k*v.h)*(-x)=x*(q v.s-q v.t-k*(-v.h));rw[mul_neg,mul_neg k,show q v.s-q v.t- -(k*v.h)=-(q v.t-q v.s-k*v.h)by omega,mul_neg,mul_comm]
theorem Bs{k x:Int}{q:Int->Int}{ws:List Wy}{b:Int}:∀{c:List az}{fs:List Int}{a:Int},fs.length=ws.length->jo ws b c a->gK (gap k q) ws (aug x fs c)=gK (gap k q) ws fs+x*(q b-q a-k*cg ws c)
 |[],fs,a,_,h=>by have:a=b:=h;subst this;show _=_+x*(q a-q a-k*0);simp;rfl|s::c,fs,a,u,⟨v,e,z,A⟩=>by
   show gK (gap k q) ws (aug x (m8 x fs s) c)=_;have t:s.1<fs.length:=by rw[u];exact(fM e).1
   have y:fs[s.1]?=some fs[s.1]:=by simp[t]
   rw[Bs (by rw[yD];exact u) A];have:m8 x fs s=fs.set s.1 (fs[s.1]+sg x s.2):=by unfold m8;rw[y];rfl
   rw[this,Ck e y,Gx,z,Int.add_assoc,<-mul_add,cg,iT e,mul_add k];congr 2;omega
structure QC(ws:List Wy)(fs:List Int):Prop where
 len:fs.length=ws.length
 ok:∀(j:Nat)v g,ws[j]?=some v->fs[j]?=some g->0<=g/\g<=v.r
theorem QC.aug{ws:List Wy}{fs:List Int}{c:List az}{x:Int}(h:QC ws fs)(B:(c.map (·.1)).Nodup)(C:0<x)(hc:∀s∈c,∃v g,ws[s.1]?=some v/\fs[s.1]?=some g/\x<=pL v g s.2):QC ws (aug x fs c):=by
 refine⟨by rw[vy];exact h.len,λj v g t e=>?_⟩;by_cases z:j∈c.map (·.1);.obtain⟨s,hs,rfl⟩:=mem_map.mp z;obtain⟨E,g',u,y,A⟩:=hc s hs;rw[t]at u;cases u;rw[Af B hs y]at e;cases e;have:=h.ok _ _ _ t y;cases hf:s.2<;>rw[hf]at A<;>simp[pL,sg]at A ⊢<;>omega
 .rw[qm z]at e;exact h.ok _ _ _ t e
def Hy(q:Int->Int)(v:Wy):Int:=v.r*max 0 (q v.t-q v.s-v.h)
def Ni(q:Int->Int)(ws:List Wy):Int:=yh (Hy q) ws
theorem YS:gap 1 q v=q v.t-q v.s-v.h:=by unfold gap;omega
theorem Br{fs:List Int}(h:QC ws fs):gK (gap 1 q) ws fs<=Ni q ws:=Ay h.len λj v g e u=>by
 have:=h.ok _ _ _ e u;rw[YS];unfold Hy;generalize q v.t-q v.s-v.h=y;by_cases c:0<=y;.rw[Int.max_eq_right c,mul_comm];exact Int.mul_le_mul_of_nonneg_right this.2 c
 .rw[Int.max_eq_left (by omega),mul_zero];exact Int.mul_nonpos_of_nonpos_of_nonneg (by omega) this.1
theorem Ou{fs:List Int}(h:QC ws fs)(A:Pt ws fs q):Ni q ws=gK (gap 1 q) ws fs:=by
 refine Int.le_antisymm (zx h.len λj v g e u=>?_) (Br h);have E:=h.ok _ _ _ e u;have C:0<v.r-g->q v.t<=q v.s+v.h:=λz=>A (j,true) v e (by rw[mU (s:=(j,true)) e u];simp[frm,pL];omega);have B:0<g->q v.s<=q v.t+-v.h:=λz=>A (j,false) v e (by rw[mU (s:=(j,false)) e u];simp[frm,pL];omega);rw[YS];unfold Hy;generalize G:q v.t-q v.s-v.h=y;by_cases c:g=v.r
 . subst c;by_cases c0:0<v.r;.have:=B c0;rw[Int.max_eq_right (by omega),mul_comm];exact Int.le_refl _
   . have:v.r=0:=by omega
     rw[this];simp
 . have:=C (by omega);rw[Int.max_eq_left (by omega),mul_zero];by_cases c0:0<g;.have:=B c0;rw[show y=0 by omega];simp
   .rw[show g=0 by omega];simp
def Yc(fs:List Int)(x:List az×Int):List Int:=aug x.2 fs x.1
def flow(N:Nat)(cs:List (List az×Int)):List Int:=cs.foldl Yc (replicate N 0)
theorem J1{x:List az×Int}:flow N (cs++[x])=aug x.2 (flow N cs) x.1:=by unfold flow;rw[List.foldl_append];rfl
def dX(H:List az×Int->Int):List (List az×Int)->Int|[]=>0|x::cs=>H x+dX H cs
theorem m6{H:List az×Int->Int}{x:List az×Int}:∀{cs:List (List az×Int)},dX H (cs++[x])=dX H cs+H x|[]=>by simp[dX]|y::cs=>by rw[cons_append,dX,dX,m6];omega
theorem ni{H K:List az×Int->Int}:∀{cs:List (List az×Int)},(∀x∈cs,H x=K x)->dX H cs=dX K cs|[],_=>rfl|x::cs,h=>by rw[dX,dX,h x (by simp),ni λy e=>h y (by simp[e])]
theorem JR{H:List az×Int->Int}:∀{cs:List (List az×Int)},(∀x∈cs,1<=H x)->(cs.length:Int)<=dX H cs|[],_=>by simp[dX]|x::cs,h=>by have h1:=h x (by simp);have t:=JR (H:=H) (cs:=cs) λy e=>h y (by simp[e]);rw[dX,length_cons];omega
def Z2(ws:List Wy)(T:Int)(x:List az×Int):Int:=if cg ws x.1<=T then x.2*(T-cg ws x.1+1)else 0
def val(ws:List Wy)(T:Int)(cs:List (List az×Int)):Int:=dX (Z2 ws T) cs
structure pJ(m:Int)(ws:List Wy)(T v:Int):Prop where
 ex:∃q:Int->Int,q 0=0/\q (m-1)=T+1/\Ni q ws=v
 le:∀q:Int->Int,q 0=0->q (m-1)=T+1->v<=Ni q ws
theorem yu{T:Int}{fs:List Int}{G:Int->Int}(fit:QC ws fs)(dt:∀k q,gK (gap k q) ws fs=dX (λx=>x.2*(q (m-1)-q 0-k*cg ws x.1)) cs)(z:∀x∈cs,cg ws x.1<=T+1)(A:Pt ws fs G)(t:G 0=0)(u:G (m-1)=T+1):pJ m ws T (val ws T cs):=by
 have y:∀q:Int->Int,q 0=0->q (m-1)=T+1->gK (gap 1 q) ws fs=val ws T cs:=λq e h=>by
  rw[dt,e,h];refine ni λx B=>?_;have:=z x B;unfold Z2;split;.congr 1;omega
  .rw[show T+1-0-1*cg ws x.1=0 by omega,mul_zero]
 exact⟨⟨G,t,u,by rw[Ou fit A,y G t u]⟩,λq e h=>by rw[<-y q e h];exact Br fit⟩
structure zm(m:Int)(ws:List Wy)(cs:List (List az×Int))(fs:List Int)(F:Int->Int)(d:Int):Prop where
 fit:QC ws fs
 pt:Pt ws fs F
 z:F 0=0
 e:F (m-1)=d
 d0:0<=d
 nn:(∀v∈ws,1<=v.h)->1<=d/\∀x∈cs,1<=cg ws x.1
 ch:∀x∈cs,cg ws x.1<=d/\0<x.2/\∀s∈x.1,s.1<ws.length
 dt:∀k q,gK (gap k q) ws fs=dX (λx=>x.2*(q (m-1)-q 0-k*cg ws x.1)) cs
 lst:∀T,0<=T->T+1<=d->pJ m ws T (val ws T cs)
theorem yd{G:Wy->Int}:∀{ws:List Wy}{n:Nat},gK G ws (replicate n 0)=0|[],n=>by unfold gK;rfl|v::ws,0=>rfl|v::ws,n+1=>by rw[replicate_succ,gK,yd];simp
theorem Ba(h:(replicate n (0:Int))[j]?=some g):g=0:=(List.mem_replicate.mp (mem_of_getElem? h)).2
def F01(b p:Int):Int:=if p=0 then 0 else b
theorem zm.zero(m0:2<=m)(A:∀v∈ws,0<=v.h)(hr:∀v∈ws,0<=v.r):∃b,zm m ws [] (replicate ws.length 0) (F01 b) b:=by
 have fit:QC ws (replicate ws.length 0):=⟨by simp,λj v g t u=>by rw[Ba u];exact⟨Int.le_refl _,hr v (mem_of_getElem? t)⟩⟩;have pt:∀b:Int,0<=b->(∀v∈ws,b<=v.h)->Pt ws (replicate ws.length 0) (F01 b):=λb b0 B s v e ho=>by obtain⟨E,g,t,u,_,y⟩:=qP ho;rw[e]at t;cases t;have:=Ba u;subst this;have:=B v (mem_of_getElem? e);cases hf:s.2<;>rw[hf]at y<;>simp[pL,hsp,F01]at y ⊢;split<;>split<;>omega
 have dt:∀k q,gK (gap k q) ws (replicate ws.length 0)=dX (λx=>x.2*(q (m-1)-q 0-k*cg ws x.1)) []:=λk q=>by rw[yd];rfl
 have t:∀b,F01 b (m-1)=b:=λb=>by unfold F01;rw[if_neg (by omega)]
 by_cases c:∀v∈ws,1<=v.h;.exact⟨1,fit,pt 1 (by omega) c,rfl,t 1,by omega,λ_=>⟨Int.le_refl _,by simp⟩,by simp,dt,λT h1 C=>yu fit dt (by simp) (pt 1 (by omega) c) rfl (by rw[t];omega)⟩
 .exact⟨0,fit,pt 0 (by omega) A,rfl,t 0,by omega,λz=>absurd z c,by simp,dt,λT h1 C=>by omega⟩
theorem zm.at{d T:Int}{fs:List Int}{G:Int->Int}(h:zm m ws cs fs F d)(e:d<=T+1)(t:Pt ws fs G)(u:G 0=0)(y:G (m-1)=T+1):pJ m ws T (val ws T cs):=yu h.fit h.dt (λx z=>Int.le_trans (h.ch x z).1 e) t u y
theorem zm.more{d:Int}{fs:List Int}{x:Int}(h:zm m ws cs fs F d)(t:jC m ws fs es)(u:(m-1,l,o)∈es)(hc:Ql ws fs es (m-1) l o.2 0 0 0 c)(A:0<x)(hr:∀s∈c,∃v g,ws[s.1]?=some v/\fs[s.1]?=some g/\x<=pL v g s.2):∃G,zm m ws (cs++[(c,x)]) (aug x fs c) G o.2:=by
 obtain⟨D,H⟩:=Bv F es;have B:=t.pt h.pt H;have J:cg ws c=o.2:=by have:=hc.hrs;omega
 have C:Gr F D es 0=0:=jm t.cm.nd t.cm.z;have E:Gr F D es (m-1)=o.2:=jm t.cm.nd u;have hd:d<=o.2:=by have:=oM h.pt hc.KQ hc.jU;rw[h.e,h.z]at this;omega
 refine⟨Gr F D es,h.fit.aug hc.nd A hr,B.aug hc.KQ hc.jU (by rw[C,E];omega),C,E,by have:=h.d0;omega,λz=>⟨by have:=(h.nn z).1;omega,λy hy=>?_⟩,λy hy=>?_,λk q=>?_,λT h0 h1=>?_⟩
 . rcases mem_append.mp hy with hy|hy;.exact(h.nn z).2 y hy
   .rw[mem_singleton.mp hy];show 1<=cg ws c;have:=(h.nn z).1;omega
 . rcases mem_append.mp hy with hy|hy;.have:=h.ch y hy;exact⟨by omega,this.2⟩
   .rw[mem_singleton.mp hy];refine⟨by show cg ws c<=_;omega,A,λs hs=>?_⟩;obtain⟨v,g,e,_⟩:=hr s hs;exact(fM e).1
 .rw[Bs h.fit.len hc.KQ,m6,h.dt]
 . have I:val ws T (cs++[(c,x)])=val ws T cs:=by unfold val;rw[m6];show _+(if cg ws c<=T then _ else 0)=_;rw[if_neg (by omega)];omega
   rw[I];by_cases q:T+1<=d;.exact h.lst T h0 q
   . refine h.at (by omega) (HQ (T+1-d) B h.pt) ?_ ?_;.have:=h.z;omega
     .have:=h.e;omega
theorem zm.least{d T:Int}{fs:List Int}(h:zm m ws cs fs F d)(t:jC m ws fs es)(u:¬ ∃l o,(m-1,l,o)∈es)(h0:0<=T):pJ m ws T (val ws T cs):=by
 by_cases q:T+1<=d;.exact h.lst T h0 q
 . obtain⟨D,y⟩:=Bv F es;have A:=t.pt (D:=max D (T+1-d)) h.pt λp l o z=>by have:=y p l o z;omega
   have B:Gr F (max D (T+1-d)) es 0=0:=jm t.cm.nd t.cm.z;have C:Gr F (max D (T+1-d)) es (m-1)=F (m-1)+max D (T+1-d):=qF u;refine h.at (by omega) (HQ (T+1-d) A h.pt) ?_ ?_;.have:=h.z;omega
   .have:=h.e;omega
def Gp(v:Wy)(f:Bool):Int:=7*hsp v f+1
def Qe(ws:List Wy)(fs:List Int)(P:Int->Int):Prop:=∀(s:az)(v:Wy),ws[s.1]?=some v->lC ws fs (frm v s.2) s=true->P (too v s.2)<=P (frm v s.2)+Gp v s.2
def zf(ws:List Wy)(c:List az):Int:=7*cg ws c+c.length
theorem rG(e:ws[s.1]?=some v):zf ws (s::c)=Gp v s.2+zf ws c:=by unfold zf Gp;rw[cg,iT e,length_cons];omega
theorem zV{ws:List Wy}{fs:List Int}{P:Int->Int}(h:Qe ws fs P){b:Int}:∀{c:List az}{a:Int},jo ws b c a->uF ws fs c->P b<=P a+zf ws c|[],a,t,_=>by have:a=b:=t;rw[this];simp[zf,cg]|s::c,a,⟨v,e,z,t⟩,ho=>by have h1:=zV h t λu A=>ho u (mem_cons_of_mem _ A);obtain⟨C,y,o⟩:=ho s (by simp);rw[e]at y;cases y;have B:=h s v e o;rw[z]at B;rw[rG e];omega
theorem uq{ws:List Wy}{fs:List Int}{P:Int->Int}(h:Qe ws fs P){b:Int}:∀{c:List az}{a:Int},jo ws b c a->uF ws fs c->P b=P a+zf ws c->∀s∈c,∀v,ws[s.1]?=some v->P (too v s.2)=P (frm v s.2)+Gp v s.2
 |[],_,_,_,_,s,hs,_,_=>by cases hs|s::c,a,⟨v,e,y,z⟩,ho,he,u,hu,x,ex=>by
   have t:uF ws fs c:=λu hu=>ho u (mem_cons_of_mem _ hu);have h1:=zV h z t;obtain⟨C,A,o⟩:=ho s (by simp);rw[e]at A;cases A;have B:=h s v e o;rw[y]at B;rw[rG e]at he;rcases mem_cons.mp hu with rfl|hu;.rw[e]at ex;cases ex;rw[y];omega
   .exact uq h z t (by omega) u hu x ex
def tgt(ws:List Wy)(fs:List Int)(P:Int->Int)(s:az):Bool:=match ws[s.1]?with|some v=>lC ws fs (frm v s.2) s&&decide (P (too v s.2)=P (frm v s.2)+Gp v s.2)|none=>false
theorem GK{fs:List Int}{P:Int->Int}(e:ws[s.1]?=some v):tgt ws fs P s=(lC ws fs (frm v s.2) s&&decide (P (too v s.2)=P (frm v s.2)+Gp v s.2)):=by unfold tgt;rw[e]
def Jx(ws:List Wy)(fs:List Int)(P:Int->Int):Nat:=((iR ws.length).filter (tgt ws fs P)).length
theorem Ci{fs:List Int}{P:Int->Int}(h:ws.length<=12):Jx ws fs P<=24:=by have:=List.length_filter_le (tgt ws fs P) (iR ws.length);rw[xu]at this;unfold Jx;omega
theorem Iw{p q:az->Bool}(h:∀t,q t=true->p t=true):∀(l:List az),(l.filter q).length<=(l.filter p).length|[]=>eY|t::l=>by have e:=Iw h l;cases hq:q t with|true=>simp[hq,h t hq,e]|false=>cases hp:p t with|true=>simp[hq,hp];omega|false=>simp[hq,hp,e]
theorem Jr{p q:az->Bool}{s:az}(h:∀t,q t=true->p t=true)(e:p s=true)(u:q s=false):∀{l:List az},s∈l->(l.filter q).length<(l.filter p).length
 |[],hs=>by cases hs|t::l,hs=>by
   have le:=Iw h l;rcases mem_cons.mp hs with rfl|hs;.simp[e,u];omega
   .have y:=Jr h e u hs;cases hq2:q t with|true=>simp[hq2,h t hq2,y]|false=>cases hp2:p t with|true=>simp[hq2,hp2];omega|false=>simp[hq2,hp2,y]
theorem J5{fs:List Int}(h:(c.map (·.1)).Nodup)(hs:s∈c)(e:ws[s.1]?=some v)(t:fs[s.1]?=some g):lC ws (aug (pL v g s.2) fs c) p s=false:=by
 rw[mU e (Af h hs t)];have:pL v (g+sg (pL v g s.2) s.2) s.2=0:=by cases s.2<;>simp[pL,sg]<;>omega
 rw[this];simp
theorem Qe.aug{ws:List Wy}{fs:List Int}{P:Int->Int}(h:Qe ws fs P){a b:Int}{c:List az}{s:az}{v:Wy}{g:Int}(E:jo ws b c a)(ho:uF ws fs c)(G:(c.map (·.1)).Nodup)(he:P b=P a+zf ws c)(hs:s∈c)(e:ws[s.1]?=some v)(H:fs[s.1]?=some g):Qe ws (aug (pL v g s.2) fs c) P/\Jx ws (aug (pL v g s.2) fs c) P<Jx ws fs P:=by
 have A:=uq h E ho he;have back:∀(t u:az)(x:Wy),u∈c->u.1=t.1->t.2≠u.2->ws[t.1]?=some x->P (too x t.2)<P (frm x t.2)+Gp x t.2:=λt u x y z ne ex=>by
  have h1:=A u y x (by rw[z];exact ex);rw[(nG ne).1,(nG ne).2];have B:hsp x t.2=-hsp x u.2:=by cases h1:t.2<;>cases B:u.2<;>simp[hsp]<;>(rw[h1,B]at ne;exact absurd rfl ne)
  unfold Gp at*;omega
 refine⟨λt x ex o=>?_,?_⟩
 . rcases rO ho ex o with o|⟨u,y,z,ne⟩;.exact h t x ex o
   .have:=back t u x y z ne ex;omega
 . obtain⟨I,C,o⟩:=ho s hs;rw[e]at C;cases C;refine Jr (s:=s) (λt ht=>?_) (by rw[GK e,o,A s hs v e];simp) (by rw[GK e,J5 G hs e H];rfl) (yo (fM e).1);unfold tgt at ht ⊢;split at ht
   . rename_i x ex;simp only[and_eq_true,decide_eq_true_eq]at ht ⊢;refine⟨?_,ht.2⟩;rcases rO ho ex ht.1 with o|⟨u,y,z,ne⟩;.exact o
     .have:=back t u x y z ne ex;omega
   .cases ht
abbrev PQ:=List (Option Bool)
def lN:List Wy->PQ->Int|v::ws,some f::es=>Gp v f+lN ws es|_::ws,none::es=>lN ws es|_,_=>0
def Fv(N:Nat):List az->PQ|[]=>replicate N none|s::c=>(Fv N c).set s.1 (some s.2)
theorem wC{N:Nat}:∀{c:List az},(Fv N c).length=N|[]=>by simp[Fv]|s::c=>by rw[Fv,length_set,wC]
theorem Cy{N j:Nat}:∀{c:List az},j<N->j∉c.map (·.1)->(Fv N c)[j]?=some none|[],h,_=>by simp[Fv,h]|s::c,h,e=>by rw[map_cons,mem_cons,not_or]at e;rw[Fv,getElem?_set_ne (λz=>e.1 z.symm)];exact Cy h e.2
theorem yG{v:Wy}{f:Bool}:∀{j:Nat}{ws:List Wy}{es:PQ},ws[j]?=some v->es[j]?=some none->lN ws (es.set j (some f))=lN ws es+Gp v f|_,[],_,e,_=>by simp at e|_,_::_,[],_,e=>by simp at e|0,u::ws,x::es,h,t=>by simp at h t;subst h t;rw[List.set_cons_zero,lN,lN];omega|j+1,u::ws,x::es,h,t=>by have y:=yG (f:=f) (j:=j) (ws:=ws) (es:=es) (by simpa using h) (by simpa using t);rw[List.set_cons_succ];cases x with|none=>rw[lN,lN,y]|some g=>rw[lN,lN,y];omega
theorem vd:∀{ws:List Wy}{n:Nat},lN ws (replicate n none)=0|[],n=>by unfold lN;rfl|v::ws,0=>rfl|v::ws,n+1=>by rw[replicate_succ,lN,vd]
theorem vW{ws:List Wy}{b:Int}:∀{c:List az}{a:Int},jo ws b c a->(c.map (·.1)).Nodup->lN ws (Fv ws.length c)=zf ws c|[],_,_,_=>by rw[Fv,vd];simp[zf,cg]|s::c,a,⟨v,e,_,t⟩,h=>by rw[map_cons,nodup_cons]at h;rw[Fv,yG e (Cy (fM e).1 h.1),vW t h.2,rG e];omega
def tU:Nat->List PQ|0=>[[]]|n+1=>(tU n).map (none::·)++((tU n).map (some true::·)++(tU n).map (some false::·))
theorem qJ:∀{n:Nat},(tU n).length=3^n|0=>rfl|n+1=>by rw[tU,length_append,length_append,length_map,length_map,length_map,qJ,Nat.pow_succ];omega
theorem qW:∀{e:PQ},e∈tU e.length|[]=>by simp[tU]|x::e=>by have h:=qW (e:=e);rw[length_cons,tU,mem_append,mem_append];cases x with|none=>exact .inl (mem_map.mpr ⟨e,h,rfl⟩)|some f=>cases f with|true=>exact .inr (.inl (mem_map.mpr ⟨e,h,rfl⟩))|false=>exact .inr (.inr (mem_map.mpr ⟨e,h,rfl⟩))
structure M7(m:Int)(ws:List Wy)(k:Nat)(fs:List Int)(P:Int->Int)(lam:Int)(seen:List PQ):Prop where
 pt:Qe ws fs P
 z:P 0=0
 e:P (m-1)=lam
 nd:seen.Nodup
 sl:∀e∈seen,e.length=ws.length/\lN ws e<=lam
 cnt:k+Jx ws fs P<=25*(seen.length+1)
theorem M7.few{t:Int}{k:Nat}{fs:List Int}{P:Int->Int}{seen:List PQ}(h:M7 m ws k fs P t seen)(u:ws.length<=12):k<=13286050:=by
 have h1:=nP (l2:=tU ws.length) h.nd λe he=>by rw[<-(h.sl e he).1];exact qW
 rw[qJ]at h1;have y:3^ws.length<=3^12:=Nat.pow_le_pow_right (by decide) u;have z:(3:Nat)^12=531441:=by decide
 have:=h.cnt;omega
theorem M7.zero(y:ws.length<=12)(z:∀v∈ws,0<=v.h):M7 m ws 0 (replicate ws.length 0) (λ_=>0) 0 []:=by refine⟨λs v e ho=>?_,rfl,rfl,.nil,by simp,by have:=Ci (fs:=replicate ws.length 0) (P:=λ_=>0) y;simp;omega⟩;obtain⟨B,g,t,A,_,u⟩:=qP ho;rw[e]at t;cases t;have:=Ba A;subst this;have:=z v (mem_of_getElem? e);cases hf:s.2<;>rw[hf]at u<;>simp[pL,Gp,hsp]at u ⊢;omega
def K3(F:Int->Int)(D:Int):List En->Int->Int|[],p=>F p+D|e::es,p=>if e.1=p then 7*e.2.2.2+(e.2.1:Int)else K3 F D es p
theorem oX{F:Int->Int}{D p:Int}{l:Nat}{o:Option az×Int}:∀{es:List En},(es.map (·.1)).Nodup->(p,l,o)∈es->K3 F D es p=7*o.2+l
 |[],_,h=>by cases h|e::es,t,h=>by
   rw[map_cons,nodup_cons]at t;rw[K3];rcases mem_cons.mp h with rfl|h;.rw[if_pos rfl]
   .rw[if_neg (λz=>t.1 (by rw[z];exact mem_map.mpr ⟨_,h,rfl⟩))];exact oX t.2 h
theorem vK{F:Int->Int}{D p:Int}:∀{es:List En},(¬ ∃l o,(p,l,o)∈es)->K3 F D es p=F p+D|[],_=>rfl|e::es,h=>by rw[K3,if_neg (λz=>h ⟨e.2.1,e.2.2,by rw[<-z];simp⟩)];exact vK λ⟨l,o,z⟩=>h ⟨l,o,mem_cons_of_mem _ z⟩
theorem Ia(F:Int->Int):∀(es:List En),∃D,∀p l o,(p,l,o)∈es->7*o.2+(l:Int)<=F p+D
 |[]=>⟨0,λ_ _ _ h=>by cases h⟩|e::es=>by
   obtain⟨D,h⟩:=Ia F es;refine⟨max D (7*e.2.2.2+(e.2.1:Int)-F e.1),λp l o z=>?_⟩;rcases mem_cons.mp z with rfl|z;.simp only;omega
   .have:=h p l o z;omega
theorem jC.pts{fs:List Int}{P:Int->Int}{D:Int}(h:jC m ws fs es)(t:HN m ws)(u:Pt ws fs F)(y:Qe ws fs P)(z:∀p l o,(p,l,o)∈es->7*o.2+(l:Int)<=P p+D):Qe ws fs (K3 P D es):=λs v e ho=>by
 by_cases c:∃l o,(frm v s.2,l,o)∈es;.obtain⟨l,o,c⟩:=c;obtain⟨l2,A,c2,c3⟩:=h.cl l o s v e c ho;rw[oX h.cm.nd c,oX h.cm.nd c2];have:=h.l5 t u c2;unfold Le at c3;unfold Gp;omega
 . rw[vK c];have h1:=y s v e ho;by_cases c2:∃l o,(too v s.2,l,o)∈es;.obtain⟨l2,A,c2⟩:=c2;rw[oX h.cm.nd c2];have:=z _ _ _ c2;omega
   .rw[vK c2];omega
theorem M7.more{t:Int}{k:Nat}{fs:List Int}{P:Int->Int}{seen:List PQ}(h:M7 m ws k fs P t seen)(B:HN m ws)(I:Pt ws fs F)(u:jC m ws fs es)(y:(m-1,l,o)∈es)(hc:Ql ws fs es (m-1) l o.2 0 0 0 c)(hs:s∈c)(e:ws[s.1]?=some v)(C:fs[s.1]?=some g):∃J L M,M7 m ws (k+1) (aug (pL v g s.2) fs c) J L M:=by
 have O:cg ws c=o.2:=by have:=hc.hrs;omega
 have U:c.length=l:=by have:=hc.len;omega
 have W:zf ws c=7*o.2+l:=by unfold zf;rw[O,U]
 have X:t<=zf ws c:=by have:=zV h.pt hc.KQ hc.jU;rw[h.e,h.z]at this;omega
 by_cases q:t=zf ws c;.have A:=h.pt.aug hc.KQ hc.jU hc.nd (by rw[h.e,h.z];omega) hs e C;exact⟨P,t,seen,A.1,h.z,h.e,h.nd,h.sl,by have:=h.cnt;omega⟩
 . obtain⟨D,Y⟩:=Ia P es;have Z:=u.pts B I h.pt Y;have E:K3 P D es 0=0:=by rw[oX u.cm.nd u.cm.z];rfl
   have G:K3 P D es (m-1)=zf ws c:=by rw[oX u.cm.nd y,W]
   have A:=Z.aug hc.KQ hc.jU hc.nd (by rw[E,G];omega) hs e C;have H:=vW hc.KQ hc.nd;refine⟨K3 P D es,zf ws c,seen++[Fv ws.length c],A.1,E,G,?_,λx hx=>?_,?_⟩;.rw[nodup_append];refine⟨h.nd,by simp,λa ha b hb ab=>?_⟩;have:=(h.sl a ha).2;rw[ab,mem_singleton.mp hb,H]at this;omega
   . rcases mem_append.mp hx with hx|hx;.have:=h.sl x hx;exact⟨this.1,by omega⟩
     .rw[mem_singleton.mp hx];exact⟨wC,by rw[H];exact Int.le_refl _⟩
   .have h1:=Ci (fs:=fs) (P:=K3 P D es) B.len;have h2:=h.cnt;rw[length_append,List.length_singleton];omega
def cD(x:List az×Int):D:=.tup [.tup (x.1.map sD),.int x.2]
theorem Hz{ns:List Int}(h:ns≠[]):∃i,ns.min?=some i/\i∈ns/\∀j∈ns,i<=j:=by cases e:ns.min? with|none=>rw[List.min?_eq_none_iff]at e;exact absurd e h|some i=>have:=List.min?_eq_some_iff.mp e;exact⟨i,rfl,this.1,this.2⟩
def Z0:D->az|.tup [.int j,.bl f]=>(j.toNat,f)|_=>(0,true)
@[simp]theorem JD{s:az}:Z0 (sD s)=s:=rfl
def Pq(ws:List Wy)(fs:List Int)(s:az):Int:=match ws[s.1]?,fs[s.1]?with|some v,some g=>pL v g s.2|_,_=>0
def rmD(ws:List Wy)(fs:List Int)(d:D):D:=.int (Pq ws fs (Z0 d))
@[simp]theorem Za{es:List En}{p:Int}:xx false (.int p) (mX es)=some (.val (.bl (qt (es.map en) p))):=by show some (R.val (.bl ((es.map (·.1)).contains p)))=some (R.val (.bl ((K9 (es.map en)).contains p)));rw[zF]
def Chk(m:Int)(ws:List Wy)(x:List az×Int):Prop:=x.1.length<=5/\(∀s∈x.1,s.1<ws.length)/\jo ws (m-1) x.1 0/\(x.1.map (·.1)).Nodup
structure Stg(m:Int)(ws:List Wy)(cH:List (List az×Int))(x:List az×Int):Prop where
 iv:∃F d,zm m ws cH (flow ws.length cH) F d
 ht:∃F,Pt ws (flow ws.length cH) F/\F 0=0/\F (m-1)=cg ws x.1
 op:uF ws (flow ws.length cH) x.1
 rm:∀s∈x.1,∃v g,ws[s.1]?=some v/\(flow ws.length cH)[s.1]?=some g/\x.2<=pL v g s.2
theorem zm.ht{d:Int}{fs:List Int}(h:zm m ws cs fs F d)(t:jC m ws fs es)(u:(m-1,l,o)∈es)(hc:Ql ws fs es (m-1) l o.2 0 0 0 c):(∃F,Pt ws fs F/\F 0=0/\F (m-1)=cg ws c)/\d<=cg ws c:=by
 obtain⟨D,y⟩:=Bv F es;have A:cg ws c=o.2:=by have:=hc.hrs;omega
 refine⟨⟨Gr F D es,t.pt h.pt y,jm t.cm.nd t.cm.z,by rw[jm t.cm.nd u,A]⟩,?_⟩;have:=oM h.pt hc.KQ hc.jU;rw[h.e,h.z]at this;omega
def Ei(m:Int)(ws:List Wy)(cs:List (List az×Int)):Prop:=cs.Pairwise (λa b=>cg ws a.1<=cg ws b.1)/\∀h x e,cs=h++x::e->Stg m ws h x
theorem Ei.snoc{y:List az×Int}(h:Ei m ws cs)(h1:∀x∈cs,cg ws x.1<=cg ws y.1)(A:Stg m ws cs y):Ei m ws (cs++[y]):=by
 refine⟨?_,λu x t e=>?_⟩;.rw[List.pairwise_append];exact⟨h.1,by simp,λa B b C=>by rw[mem_singleton.mp C];exact h1 a B⟩
 . rcases List.eq_nil_or_concat t with rfl|⟨r,z,rfl⟩;.obtain⟨E,G⟩:=List.append_inj' e rfl;cases G;subst E;exact A
   . rw[List.concat_eq_append]at e;have H:cs++[y]=(u++x::r)++[z]:=by rw[e];simp
     exact h.2 u x r (List.append_inj' H rfl).1
structure Ends(m:Int)(ws:List Wy)(cs:List (List az×Int))(fs:List Int)(F:Int->Int)(d:Int)(es:List En):Prop where
 fl:fs=flow ws.length cs
 iv:zm m ws cs fs F d
 cm:jC m ws fs es
 no:¬ ∃l o,(m-1,l,o)∈es
 ck:∀x∈cs,Chk m ws x
 st:Ei m ws cs
inductive FcE(a0 a1 a2 a3 a4 a5 a6:Sl)(ρ:List Sl):Prop where|mk(s:Sl)(q0:ρ=[a0,a1,a2,a3,a4,a5,a6,s])(q1:fr s=true)
inductive JE(m:Int)(ws:List Wy)(M:Nat)(ρ:List Sl):Prop where|mk(cs:List (List az×Int))(fs:List Int)(es:List En)(F:Int->Int)(d:Int)(s5 s6:Sl)(q0:ρ=[.val false (bT m ws),.val false (.int (m-1)),.own false (fs.map D.int),.own false (cs.map cD),.val false (mX es),s5,s6])(q1:(fr s5=true/\fr s6=true))(q2:fs=flow ws.length cs)(q3:zm m ws cs fs F d)(q4:jC m ws fs es)(q5:(∃P lam seen,M7 m ws cs.length fs P lam seen))(q6:cs.length+M=13286050)(q7:(∀x∈cs,Chk m ws x))(q8:Ei m ws cs)
theorem yE(hw:13286250<=w)(h:HN m ws)(hr:∀v∈ws,0<=v.r)(k:∀cs fs F d es,cs.length<=13286050->Ends m ws cs fs F d es->Q (.own (cs.map cD)) [.val false (bT m ws)]):(run Γ w (n+4) 8 [.val false (bT m ws)]).sat Q:=by
 have hn:=h.len;have m0:=h.m0;have m1:=h.m1;refine bz (d:=f8) rfl rfl (by decide) ?_;symm;simp[f8];refine jF (λρ=>ρ=[.val false (bT m ws),.val false (.int (m-1)),.own false ((flow ws.length []).map D.int),.aN,.aN,.aN,.aN]) ?_ ?_;.simp[flow];show _<=16777216;omega
 rintro _ rfl;have hh:∀v∈ws,0<=v.h:=λv hv=>(h.ok v hv).2.2;obtain⟨b0,I0⟩:∃b,zm m ws [] (flow ws.length []) (F01 b) b:=zm.zero m0 hh hr;symm;simp;apply aj;simp;refine ym (by omega) I0.pt (.inr ⟨true,rfl⟩) h I0.fit.len λes t=>?_;simp;apply aj;simp;refine j4 (JE m ws) ?_ (k:=w) (m:=13286050) (by omega) ⟨[],flow ws.length [],es,F01 b0,b0,.aN,.aN,rfl,⟨rfl,rfl⟩,rfl,I0,t,⟨_,_,_,M7.zero hn hh⟩,by simp,by simp,by simp,λcH x ay e=>by cases cH<;>cases e⟩;rintro M _⟨cs,fs,es,F,d,s5,s6,rfl,⟨h5,h6⟩,E,G,t,⟨P,aE,seen,hS⟩,hM,L,hst⟩;have ac:=G.fit.len;by_cases hq:∃l o,(m-1,l,o)∈es
 . obtain⟨l,o,z⟩:=hq;have kt:qt (es.map en) (m-1)=true:=Ah.mpr ⟨l,o,z⟩;have ae:=t.l5 h G.pt z;simp[kt];apply aj;simp;refine Ft (by omega) t ae z λc hc=>?_;simp[h5];apply aj;have af:c.length<=5:=by have:=hc.len;omega
   have Z:∀s∈c,∃v g,ws[s.1]?=some v/\fs[s.1]?=some g/\0<pL v g s.2:=λs hs=>by obtain⟨v,e,o⟩:=hc.jU s hs;obtain⟨v',g,A,C,_,e4⟩:=qP o;exact⟨v',g,A,C,e4⟩
   simp[show c.length<=16777216 by omega];refine dI (FcE _ _ _ _ _ _ _) (rmD ws fs) ⟨.aN,rfl,rfl⟩ ?_ ?_;.rintro d hd _⟨s',rfl,O⟩;obtain⟨s,hs,rfl⟩:=mem_map.mp hd;obtain⟨v,g,A,C,_⟩:=Z s hs;simp[O,sD];refine u9 (.inr ⟨true,rfl⟩) A C ?_;simp;refine⟨?_,_,rfl,rfl⟩;show D.int (Pq ws fs (Z0 (sD s)))=_;rw[JD];unfold Pq;rw[A,C]
   rintro _⟨s',rfl,O⟩;have U:(c.map sD).map (rmD ws fs)=(c.map (Pq ws fs)).map D.int:=by rw[map_map,map_map];rfl
   rw[U];have ag:c≠[]:=by rintro rfl;have:(0:Int)=m-1:=hc.KQ;omega
   obtain⟨x,ah,ai,al⟩:=Hz (ns:=c.map (Pq ws fs)) (by simpa using ag);obtain⟨s,hs,am⟩:=mem_map.mp ai;obtain⟨v,g,A,C,e3⟩:=Z s hs;have ap:pL v g s.2=x:=by rw[<-am];unfold Pq;rw[A,C]
   have ar:0<x:=by omega
   have H:∀s∈c,∃v g,ws[s.1]?=some v/\fs[s.1]?=some g/\x<=pL v g s.2:=λu J=>by obtain⟨v,g,A,C,_⟩:=Z u J;refine⟨v,g,A,C,?_⟩;have:=al _ (mem_map.mpr ⟨u,J,rfl⟩);unfold Pq at this;rw[A,C]at this;exact this
   have W:∀s∈c,s.1<ws.length:=λu J=>by obtain⟨v,g,A,_⟩:=Z u J;exact(fM A).1
   obtain⟨F',I⟩:=G.more t z hc ar H;have X:Ei m ws (cs++[(c,x)]):=by obtain⟨g1,g2⟩:=G.ht t z hc;refine hst.snoc (λy hy=>Int.le_trans (G.ch y hy).1 g2) ?_;have Y:=G;rw[E]at Y g1 H;exact⟨⟨_,_,Y⟩,g1,by rw[<-E];exact hc.jU,H⟩
   have B:=hS.more h G.pt t z hc hs A C;rw[ap]at B;obtain⟨P',VL,KY,B⟩:=B;have aI:=B.few hn;generalize c.map (Pq ws fs)=ns at*;simp[ik,ah,h6];apply aj;simp[show cs.length<16777216 by omega];apply aj;simp;refine Hg (.inr ⟨true,rfl⟩) (λu J=>by rw[ac];exact W u J) ?_;simp;apply aj;have av:aug x fs c=flow ws.length (cs++[(c,x)]):=by rw[J1,<-E]
   simp;refine ym (by omega) I.pt (.inr ⟨true,rfl⟩) h I.fit.len λaw ax=>?_;simp;refine⟨M-1,by omega,cs++[(c,x)],aug x fs c,aw,F',o.2,.val false (.tup (c.map sD)),.val false (.int x),by simp[cD],⟨rfl,rfl⟩,av,I,ax,⟨P',VL,KY,by rw[length_append];exact B⟩,by simp;omega,λy hy=>?_,X⟩;rcases mem_append.mp hy with hy|hy;.exact L y hy
   . obtain rfl:y=(c,x):=by simpa using hy
     exact⟨af,W,hc.KQ,hc.nd⟩
 .have kt:qt (es.map en) (m-1)=false:=kin_no hq;simp[kt];apply aj;simp;exact k cs fs F d es (by omega) ⟨E,G,t,hq,L,hst⟩
def cO(m:Int)(ws:List Wy)(cs:List (List az×Int)):Prop:=(∀v∈ws,1<=v.h)/\∃fs F d es,Ends m ws cs fs F d es
def K8(cs:List (List az×Int)):Int:=dX (λx=>x.2) cs
theorem Tj{c:Call}{x:Nat}{k d:P}:ev c (.Xl x k d) ρ=match ρ[x]?with
 |some (.iG _)=>(cL (isVar k) (ev c k) ρ).bind λe ρ=>(cL (isVar d) (ev c d) ρ).bind λdd ρ=>match ρ[x]?with|some (.iG m)=>lift ((m.get e).bind λo=>(jb dd).map λv=>.val (.int (o.getD v))) ρ|_=>.stuck
 |_=>.stuck:=(rfl)
theorem M3{c:Call}{x:Nat}:ex c n (.Ky x false) ρ=match ρ[x]?with|some .aN=>.ok .next (ρ.set x (.iG (.k [])))|_=>.stuck:=(rfl)
theorem Ma{c:Call}{x:Nat}{k e:P}:ex c n (.dput x k e) ρ=(ev c e ρ).bind λr ρ=>match ρ[x]?with
 |some (.iG _)=>(cL (isVar k) (ev c k) ρ).bind λh ρ=>match ρ[x]?,r with
   |some (.iG m),.val (.int v)=>match m.put h v with|some t=>.ok .next (ρ.set x (.iG t))|none=>.stuck
   |_,_=>.stuck
 |_=>.stuck:=(rfl)
@[simp]theorem WT{x:Nat}{k d:P}:isVar (.Xl x k d)=none:=rfl
@[simp]theorem Xw{kvs:List (Int×Int)}:blt .Ku [.dH (.k kvs)]=if kvs.length<=16777216/\kvs.Pairwise (λa b=>a.1<b.1)then some (.own (kvs.map gj))else none:=rfl
theorem U9:(Dc.get (.k kvs) (.int i))=some ((kvs.find? λe=>decide (e.1=i)).map (·.2)):=rfl
theorem Z8{v:Int}(h:kvs.length<lim):Dc.put (.k kvs) (.int i) v=some (.k (putD kvs i v)):=by show(if _ then _ else _)=_;rw[if_pos h]
def hsD(ws:List Wy)(d:D):D:=.int (hst ws (Z0 d))
theorem BP{ws:List Wy}:∀{c:List az},(c.map (hst ws)).sum=cg ws c|[]=>rfl|s::c=>by rw[map_cons,sum_cons,BP,cg]
inductive F2s(a b:Sl)(ρ:List Sl):Prop where|mk(s:Sl)(q0:ρ=[a,b,s])(q1:fr s=true)
theorem Ac(hc:∀s∈c,s.1<ws.length)(A:c.length<=1000)(k:Q (.val (.int (cg ws c))) [.val false (bT m ws),.val false (.tup (c.map sD))]):(run Γ w (n+2) 3 [.val false (bT m ws),.val false (.tup (c.map sD))]).sat Q:=by
 refine bz (d:=f3) rfl rfl (by decide) ?_;symm;simp[f3,show c.length<=16777216 by omega];refine dI (F2s _ _) (hsD ws) ⟨.aN,rfl,rfl⟩ ?_ ?_
 . rintro d hd _⟨z,rfl,h⟩;obtain⟨s,hs,rfl⟩:=mem_map.mp hd;have y:=hc s hs;have e:ws[s.1]?=some ws[s.1]:=by simp[y]
   simp[h,sD];refine uC e ?_;simp;refine⟨?_,_,rfl,rfl⟩;show D.int (hst ws (Z0 (sD s)))=_;rw[JD,iT e]
 rintro _⟨z,rfl,h⟩;have t:(c.map sD).map (hsD ws)=(c.map (hst ws)).map D.int:=by rw[map_map,map_map];rfl
 rw[t];have u:=BP (ws:=ws) (c:=c);generalize c.map (hst ws)=ns at*;simp[ik,u];exact k
def gv(kvs:List (Int×Int))(k:Int):Int:=((kvs.find? λe=>decide (e.1=k)).map (·.2)).getD 0
def WY(W:Int->Int->Int):Prop:=∀k a b,W k (a+b)=W k a+W k b
def jl(W:Int->Int->Int):List (Int×Int)->Int|[]=>0|kv::r=>W kv.1 kv.2+jl W r
theorem Dg{W:Int->Int->Int}{b:List (Int×Int)}:∀{a:List (Int×Int)},jl W (a++b)=jl W a+jl W b|[]=>by simp[jl]|x::a=>by rw[cons_append,jl,jl,Dg];omega
theorem DN{k v:Int}:∀{r:List (Int×Int)},k∉r.map (·.1)->(r.map λe=>if e.1=k then(e.1,v)else e)=r|[],_=>rfl|x::r,h=>by rw[map_cons,mem_cons,not_or]at h;rw[map_cons,DN h.2,if_neg (λz=>h.1 z.symm)]
theorem Dq{W:Int->Int->Int}(z:WY W){k x:Int}:∀{r:List (Int×Int)},(r.map (·.1)).Nodup->k∈r.map (·.1)->jl W (r.map λe=>if e.1=k then(e.1,gv r k+x)else e)=jl W r+W k x
 |[],_,h=>by cases h|y::r,t,h=>by
   rw[map_cons,nodup_cons]at t;by_cases c:y.1=k
   . have u:gv (y::r) k=y.2:=by unfold gv;rw[find?_cons];simp[c]
     rw[u,map_cons,if_pos c,DN (by rw[<-c];exact t.1),jl,jl];show W y.1 (y.2+x)+_=_;rw[z,c];omega
   . have u:gv (y::r) k=gv r k:=by unfold gv;rw[find?_cons];simp[c]
     have A:k∈r.map (·.1):=by
      rcases mem_cons.mp h with h|h;.exact absurd h.symm c
      .exact h
     rw[u,map_cons,if_neg c,jl,jl,Dq z t.2 A];omega
theorem Ri(h:k∉r.map (·.1)):gv r k=0:=by
 unfold gv;rw[List.find?_eq_none.mpr];.rfl
 .intro x t;simp;intro e;exact h (mem_map.mpr ⟨x,t,e⟩)
theorem ZD(h:∀t∈r,0<t.2):0<=gv r k:=by unfold gv;cases e:r.find? λt=>decide (t.1=k)with|none=>simp|some x=>have:=h x (List.mem_of_find?_eq_some e);simp;omega
theorem vN{x:Int}(u:(r.map (·.1)).Nodup):((putD r k (gv r k+x)).map (·.1)).Nodup/\(putD r k (gv r k+x)).length<=r.length+1/\(∀h∈putD r k (gv r k+x),h=(k,gv r k+x)\/h∈r)/\∀W,WY W->jl W (putD r k (gv r k+x))=jl W r+W k x:=by
 have B:(r.any λh=>decide (h.1=k))=true↔k∈r.map (·.1):=by rw[any_eq_true,mem_map];exact⟨λ⟨y,h1,A⟩=>⟨y,h1,by simpa using A⟩,λ⟨y,h1,A⟩=>⟨y,h1,by simpa using A⟩⟩
 unfold putD;by_cases c:k∈r.map (·.1)
 . rw[if_pos (B.mpr c)];have e:(r.map λh=>if h.1=k then(h.1,gv r k+x)else h).map (·.1)=r.map (·.1):=by rw[map_map];refine map_congr_left λy _=>?_;show(if y.1=k then _ else _:Int×Int).1=y.1;split<;>rfl
   refine⟨by rw[e];exact u,by simp,λh t=>?_,λW C=>Dq C u c⟩;obtain⟨y,E,rfl⟩:=mem_map.mp t;by_cases z:y.1=k;.rw[if_pos z,z];exact .inl rfl
   .rw[if_neg z];exact .inr E
 . rw[if_neg λz=>c (B.mp z),Ri c,Int.zero_add];refine⟨?_,by simp,λh t=>?_,λW _=>?_⟩;.rw[map_append,nodup_append];exact⟨u,by simp,λa G b H e=>c (by
      have:b=k:=by simpa using H
      rw[<-this,<-e];exact G)⟩
   . rcases mem_append.mp t with hj|hj;.exact .inr hj
     .exact .inl (mem_singleton.mp hj)
   .rw[Dg];simp[jl]
theorem T4{v:Int}(h:r.Pairwise (λa b=>a.1<b.1))(u:∀y∈r,y.1<=k):(putD r k v).Pairwise (λa b=>a.1<b.1):=by
 unfold putD;split;.rw[List.pairwise_map];refine h.imp λ{a b}e=>?_;split<;>split<;>exact e
 .rename_i A;rw[List.pairwise_append];refine⟨h,by simp,λa t b B=>?_⟩;have h1:=u a t;have C:a.1≠k:=λz=>A (any_eq_true.mpr ⟨a,t,by simpa using z⟩);rw[mem_singleton.mp B];show a.1<k;omega
def Qk:D->Int×Int|.tup [.int a,.int b]=>(a,b)|_=>(0,0)
@[simp]theorem afE{a b:Int}:Qk (.tup [.int a,.int b])=(a,b):=rfl
structure Qt(ws:List Wy)(cs:List (List az×Int))(kvs:List (Int×Int)):Prop where
 nd:(kvs.map (·.1)).Nodup
 len:kvs.length<=cs.length
 nn:∀kv∈kvs,1<=kv.1/\0<kv.2
 key:∀kv∈kvs,∃x∈cs,kv.1=cg ws x.1
 so:kvs.Pairwise (λa b=>a.1<b.1)sm:∀W,WY W->jl W kvs=dX (λx=>W (cg ws x.1) x.2) cs
theorem Qt.put(h:Qt ws cs kvs){x:List az×Int}(h0:1<=cg ws x.1)(h1:0<x.2)(B:∀y∈cs,cg ws y.1<=cg ws x.1):Qt ws (cs++[x]) (putD kvs (cg ws x.1) (gv kvs (cg ws x.1)+x.2)):=by
 obtain⟨p1,p2,p3,C⟩:=vN (k:=cg ws x.1) (x:=x.2) h.nd;have E:=h.len;refine⟨p1,by simp;omega,λu t=>?_,λu t=>?_,T4 h.so λu t=>?_,λW A=>?_⟩
 . rcases p3 u t with e|e;.have:=ZD (k:=cg ws x.1) λu t=>(h.nn u t).2;rw[e];exact⟨h0,by show 0<_+_;omega⟩
   .exact h.nn u e
 . rcases p3 u t with e|e;.exact⟨x,by simp,by rw[e]⟩
   .obtain⟨y,z,e⟩:=h.key u e;exact⟨y,by simp[z],e⟩
 .obtain⟨y,z,e⟩:=h.key u t;rw[e];exact B y z
 .rw[C W A,h.sm W A,m6]
theorem JW{ws:List Wy}{b:Int}(h0:∀v∈ws,0<=v.h)(t:∀v∈ws,v.h<=1000000):∀{c:List az}{a:Int},jo ws b c a->cg ws c<=1000000*(c.length:Int)
 |[],_,_=>by simp[cg]|s::c,a,⟨v,e,_,u⟩=>by
   have h1:=JW h0 t u;have y:=t v (mem_of_getElem? e);have z:=h0 v (mem_of_getElem? e);have A:hst ws s<=1000000:=by rw[iT e];unfold hsp;split<;>omega
   rw[cg,length_cons];omega
theorem Qt.few(h:Qt ws cs kvs)(y:∀x∈cs,Chk m ws x)(z:ws.length<=12):kvs.length<=531441:=by
 have h1:=nP (l2:=(tU ws.length).map λe=>lN ws e/7) h.nd λk t=>by obtain⟨A,u,rfl⟩:=mem_map.mp t;obtain⟨x,B,e⟩:=h.key A u;obtain⟨c1,c2,c3,c4⟩:=y x B;refine mem_map.mpr ⟨Fv ws.length x.1,by have:=qW (e:=Fv ws.length x.1);rwa[wC]at this,?_⟩;rw[vW c3 c4,e];unfold zf;omega
 rw[length_map,length_map,qJ]at h1;have C:3^ws.length<=3^12:=Nat.pow_le_pow_right (by decide) z;have E:(3:Nat)^12=531441:=by decide
 omega
inductive JBn(m:Int)(ws:List Wy)(cs:List (List az×Int))(r:List D)(ρ:List Sl):Prop where|mk(cH us:List (List az×Int))(kvs:List (Int×Int))(s2 s3 s4:Sl)(q0:ρ=[.val false (bT m ws),.iG (.k kvs),s2,s3,s4])(q1:A3 (fr s2=true) (fr s3=true) (fr s4=true))(q2:r=us.map cD)(q3:cH++us=cs)(q4:Qt ws cH kvs)
theorem oV(Y:13286250<=w)(h:m9 m ws)(k:∀cs fs F d es kvs,kvs.length<=531441->Ends m ws cs fs F d es->Qt ws cs kvs->kvs.Pairwise (λa b=>a.1<b.1)->(∀G∈kvs,G.1<=5000000)->Q (.own (kvs.map gj)) [.val false (bT m ws)]):(run Γ w (n+5) 10 [.val false (bT m ws)]).sat Q:=by
 refine bz (d:=f10) rfl rfl (by decide) ?_;symm;simp[f10,M3];apply aj;simp;refine yE Y (HN.of h) (λv B=>(h.ok v B).r0) λcs fs F d es hl z=>?_;simp;refine bR (JBn m ws cs) ?_ ?_ ⟨[],cs,[],.aN,.aN,.aN,rfl,⟨rfl,rfl,rfl⟩,rfl,rfl,⟨by simp,by simp,by simp,by simp,by simp,λW _=>rfl⟩⟩;.rintro d r _⟨C,A,kvs,s2,s3,s4,rfl,⟨H,O,U⟩,hr,hd,t⟩;cases A with|nil=>cases hr|cons u A=>
     obtain⟨rfl,rfl⟩:d=cD u/\r=A.map cD:=by simpa using hr
     have I:u∈cs:=by rw[<-hd];simp
     have E:=z.ck u I;have Z:C.length<=cs.length:=by rw[<-hd];simp
     have J:=t.len;have L:(C++[u])++A=cs:=by rw[append_assoc];exact hd
     simp[cD,H,O];apply aj;simp;refine Ac E.2.1 (by have:=E.1;omega) ?_;simp[U];apply aj;simp[Ma,Tj,U9];rw[Z8 (by show _<16777216;omega)];simp;refine⟨C++[u],A,_,_,_,_,rfl,⟨rfl,rfl,rfl⟩,rfl,L,t.put ((z.iv.nn λv B=>(h.ok v B).h0).2 u I) (z.iv.ch u I).2.1 λy hy=>?_⟩;have hst:=z.st.1;rw[<-hd,List.pairwise_append]at hst;exact hst.2.2 y hy u (by simp)
 . rintro _⟨C,A,kvs,s2,s3,s4,rfl,⟨H,O,U⟩,hr,hd,t⟩;have:A=[]:=by cases A with|nil=>rfl|cons _ _=>cases hr
   subst this;rw[append_nil]at hd;subst hd;have J:=t.len;simp;apply aj;simp[show kvs.length<=16777216 by omega,t.so];refine k C fs F d es kvs (t.few z.ck (HN.of h).len) z t t.so λG M=>?_;obtain⟨x,X,e⟩:=t.key G M;have h1:=JW (λv B=>((HN.of h).ok v B).2.2) (λv B=>(h.ok v B).h1) (z.ck x X).2.2.1;have H:=(z.ck x X).1;rw[e];omega
def vt(T k v:Int):Int:=if k<=T then v*(T-k+1)else 0
def gt(T k v:Int):Int:=if k<=T then v else 0
theorem RP{T:Int}:WY (vt T):=λk a b=>by
 unfold vt;split;.exact Int.add_mul ..
 .rfl
theorem Hf{T:Int}:WY (gt T):=λk a b=>by unfold gt;split<;>rfl
theorem Rz:WY λ_ v=>v:=λ_ _ _=>rfl
def Rt(ws:List Wy)(cs:List (List az×Int))(T:Int):Int:=dX (λx=>gt T (cg ws x.1) x.2) cs
theorem pJ.uniq{T v e:Int}(h:pJ m ws T v)(h':pJ m ws T e):v=e:=by obtain⟨q,t,u,y⟩:=h.ex;obtain⟨r,r0,r1,z⟩:=h'.ex;have:=h.le r r0 r1;have:=h'.le q t u;omega
theorem cO.least{m:Int}{ws:List Wy}{cs:List (List az×Int)}(h:cO m ws cs){T:Int}(h0:0<=T):pJ m ws T (val ws T cs):=by obtain⟨t,fs,F,d,es,e⟩:=h;exact e.iv.least e.cm e.no h0
theorem yl{H K:List az×Int->Int}:∀{cs:List (List az×Int)},dX (λx=>H x-K x) cs=dX H cs-dX K cs|[]=>rfl|x::cs=>by rw[dX,dX,dX,yl];omega
theorem vC{H K:List az×Int->Int}:∀{cs:List (List az×Int)},(∀x∈cs,H x<=K x)->dX H cs<=dX K cs|[],_=>Int.le_refl _|x::cs,h=>by have h1:=h x (by simp);have t:=vC (H:=H) (K:=K) (cs:=cs) λy e=>h y (by simp[e]);rw[dX,dX];omega
theorem zT{T:Int}:Rt ws cs T=val ws T cs-val ws (T-1) cs:=by
 unfold Rt val;rw[<-yl];refine ni λx _=>?_;show gt T (cg ws x.1) x.2=vt T (cg ws x.1) x.2-vt (T-1) (cg ws x.1) x.2;unfold gt vt;by_cases c:cg ws x.1<=T-1;.rw[if_pos (by omega),if_pos (by omega),if_pos c,<-mul_sub,show T-cg ws x.1+1-(T-1-cg ws x.1+1)=1 by omega,mul_one]
 . by_cases c2:cg ws x.1<=T;.rw[if_pos c2,if_pos c2,if_neg c,show T-cg ws x.1+1=1 by omega,mul_one];omega
   .rw[if_neg c2,if_neg c2,if_neg c];rfl
theorem cO.nn{m:Int}{ws:List Wy}{cs:List (List az×Int)}(h:cO m ws cs):∀x∈cs,1<=cg ws x.1/\0<x.2:=by obtain⟨e,fs,F,d,es,t⟩:=h;exact λx u=>⟨(t.iv.nn e).2 x u,(t.iv.ch x u).2.1⟩
theorem cO.cY(h:cO m ws cs){T:Int}(h0:T<=0):val ws T cs=0:=by
 have:val ws T cs=dX (λ_=>0) cs:=ni λx e=>by have:=(h.nn x e).1;show vt T (cg ws x.1) x.2=0;unfold vt;rw[if_neg (by omega)]
 rw[this];clear this h;induction cs with|nil=>rfl|cons x cs t=>rw[dX,t];rfl
theorem cO.val_eq{e:List (List az×Int)}(h:cO m ws cs)(h':cO m ws e)(T:Int):val ws T cs=val ws T e:=by
 by_cases c:0<=T;.exact(h.least c).uniq (h'.least c)
 .rw[h.cY (by omega),h'.cY (by omega)]
theorem cO.Yu{e:List (List az×Int)}(h:cO m ws cs)(h':cO m ws e)(T:Int):Rt ws cs T=Rt ws e T:=by rw[zT,zT,h.val_eq h',h.val_eq h']
theorem cO.mono(h:cO m ws cs){T U:Int}(t:T<=U):Rt ws cs T<=Rt ws cs U:=vC λx e=>by have:=(h.nn x e).2;unfold gt;split<;>split<;>omega
theorem cO.afv(h:cO m ws cs){T:Int}:Rt ws cs T<=K8 cs:=vC λx e=>by have:=(h.nn x e).2;unfold gt;split<;>omega
theorem cO.afh(h:cO m ws cs){T:Int}:0<=Rt ws cs T:=by
 have h1:=h.mono (T:=min T 0) (U:=T) (by omega);have:Rt ws cs (min T 0)=0:=by rw[zT,h.cY (by omega),h.cY (by omega)];rfl
 omega
def moD(T:Int)(d:D):Option D:=if(Qk d).1<=T then some (.int ((Qk d).2*(T-(Qk d).1+1)))else none
theorem Sq{T:Int}:∀(kvs:List (Int×Int)),∃ns:List Int,(kvs.map gj).filterMap (moD T)=ns.map D.int/\ns.sum=jl (vt T) kvs
 |[]=>⟨[],rfl,rfl⟩|kv::r=>by
   obtain⟨ns,h1,h⟩:=Sq (T:=T) r;have e:moD T (gj kv)=if kv.1<=T then some (.int (kv.2*(T-kv.1+1)))else none:=rfl;rw[map_cons,filterMap_cons,h1,jl,<-h,e];unfold vt;by_cases c:kv.1<=T;.rw[if_pos c,if_pos c];exact⟨_::ns,rfl,by rw[sum_cons]⟩
   .rw[if_neg c,if_neg c];exact⟨ns,rfl,by omega⟩
inductive F2t(a b:Sl)(ρ:List Sl):Prop where|mk(s:Sl)(t:Sl)(q0:ρ=[a,b,s,t])(q1:fr s=true)(q2:fr t=true)
def tk:List (Int×Int)->Int->List (Int×Int)|[],_=>[]|kv::r,q=>(kv.1,min q kv.2)::tk r (q-min q kv.2)
def QQ:List (Int×Int)->Int->Int|[],q=>q|kv::r,q=>QQ r (q-min q kv.2)
def lh:List (Int×Int)->Int->Int|[],_=>0|kv::r,q=>kv.1*min q kv.2+lh r (q-min q kv.2)
def vs:List (Int×Int)->Int|[]=>0|kv::r=>kv.2+vs r
theorem Jp:∀{l:List (Int×Int)},(∀kv∈l,1<=kv.1/\0<kv.2)->0<=vs l|[],_=>Int.le_refl _|kv::r,h=>by have h1:=h kv (by simp);have t:=Jp (l:=r) λx e=>h x (by simp[e]);rw[vs];omega
theorem QJ:∀{l:List (Int×Int)}{q:Int},(∀kv∈l,1<=kv.1/\0<kv.2)->0<=q->q<=vs l->QQ l q=0|[],q,_,h0,h1=>by rw[vs]at h1;rw[QQ];omega|kv::r,q,h,h0,h1=>by have t:=h kv (by simp);have hr:∀x∈r,1<=x.1/\0<x.2:=λx e=>h x (by simp[e]);have u:=Jp hr;rw[vs]at h1;rw[QQ];exact QJ hr (by omega) (by omega)
theorem Vi:∀{l:List (Int×Int)},(∀kv∈l,1<=kv.1/\0<kv.2)->lh l 0=0|[],_=>rfl|kv::r,h=>by have t:=h kv (by simp);rw[lh,show min 0 kv.2=0 by omega,mul_zero,sub_zero,Vi λx e=>h x (by simp[e])];rfl
theorem Yj{T:Int}:∀{l:List (Int×Int)}{q:Int},(∀kv∈l,1<=kv.1/\0<kv.2)->0<=q->q<=vs l->(T+1)*q-jl (vt T) l<=lh l q
 |[],q,_,h0,h1=>by
   rw[vs]at h1;have:q=0:=by omega
   subst this;simp[jl,lh]|kv::r,q,h,h0,h1=>by
   have u:=h kv (by simp);have hr:∀x∈r,1<=x.1/\0<x.2:=λx e=>h x (by simp[e]);have y:=Jp hr;rw[vs]at h1;have z:=Yj (T:=T) (l:=r) (q:=q-min q kv.2) hr (by omega) (by omega);rw[jl,lh];have A:(T+1)*q=(T+1)*min q kv.2+(T+1)*(q-min q kv.2):=by rw[<-mul_add];congr 1;omega
   have B:(T+1)*min q kv.2-vt T kv.1 kv.2<=kv.1*min q kv.2:=by
    unfold vt;by_cases c:kv.1<=T
    . rw[if_pos c];have t:min q kv.2*(T-kv.1+1)<=kv.2*(T-kv.1+1):=Int.mul_le_mul_of_nonneg_right (by omega) (by omega);have C:(T+1)*min q kv.2=kv.1*min q kv.2+min q kv.2*(T-kv.1+1):=by rw[mul_comm (min q kv.2),<-Int.add_mul];congr 1;omega
      omega
    .rw[if_neg c];have t:(T+1)*min q kv.2<=kv.1*min q kv.2:=Int.mul_le_mul_of_nonneg_right (by omega) (by omega);omega
   omega
theorem Qp{W:Int->Int->Int}:∀{l:List (Int×Int)},(∀kv∈l,W kv.1 kv.2=0)->jl W l=0|[],_=>rfl|kv::r,h=>by rw[jl,h kv (by simp),Qp λx e=>h x (by simp[e])];rfl
theorem YG:∀{l:List (Int×Int)}{q:Int},(∀kv∈l,1<=kv.1/\0<kv.2)->l.Pairwise (λa b=>a.1<b.1)->0<q->q<=vs l->∃kv∈l,kv.1*q-jl (vt (kv.1-1)) l=lh l q
 |[],q,_,_,h0,h1=>by rw[vs]at h1;omega|kv::r,q,h,u,h0,h1=>by
   have A:=h kv (by simp);have hr:∀x∈r,1<=x.1/\0<x.2:=λx t=>h x (by simp[t]);have u:=pairwise_cons.mp u;rw[vs]at h1;by_cases c:q<=kv.2;.refine⟨kv,by simp,?_⟩;rw[lh,show min q kv.2=q by omega,Int.sub_self,Vi hr,jl,Qp λx t=>by have:=u.1 x t;unfold vt;rw[if_neg (by omega)]];unfold vt;rw[if_neg (by omega)];omega
   . obtain⟨x,t,e⟩:=YG (l:=r) (q:=q-kv.2) hr u.2 (by omega) (by omega);have y:=u.1 x t;refine⟨x,by simp[t],?_⟩;rw[lh,show min q kv.2=kv.2 by omega,<-e,jl];have z:vt (x.1-1) kv.1 kv.2=kv.2*x.1-kv.2*kv.1:=by unfold vt;rw[if_pos (by omega),<-mul_sub];congr 1;omega
     rw[z,mul_sub,mul_comm x.1 kv.2,mul_comm kv.1 kv.2];omega
theorem JZ:∀{l:List (Int×Int)},jl (λ_ v=>v) l=vs l|[]=>rfl|kv::r=>by rw[jl,vs,JZ]
inductive JCv(a0 a1:Sl)(N:Nat)(out:List (Int×Int))(z:Int)(r:List D)(ρ:List Sl):Prop where|mk(us cH:List (Int×Int))(q:Int)(s4 s5 s6:Sl)(q0:ρ=[a0,a1,.own false (cH.map gj),.val false (.int q),s4,s5,s6])(q1:A3 (fr s4=true) (fr s5=true) (fr s6=true))(q2:r=us.map gj)(q3:cH++tk us q=out)(q4:QQ us q=z)(q5:cH.length+us.length=N)
theorem HB{q:Int}(C:kvs.length<=16000000)(hz:QQ kvs q=0)(k:Q (.own ((tk kvs q).map gj)) [.own false (kvs.map gj),.val false (.int q)]):(run Γ w (n+1) 9 [.own false (kvs.map gj),.val false (.int q)]).sat Q:=by
 refine bz (d:=f9) rfl rfl (by decide) ?_;symm;simp[f9];apply aj;simp;apply aj;simp;refine bR (JCv _ _ kvs.length (tk kvs q) 0) ?_ ?_ ⟨kvs,[],q,.aN,.aN,.aN,rfl,⟨rfl,rfl,rfl⟩,rfl,rfl,hz,by simp⟩;.rintro d r _⟨e,h,q,s4,s5,s6,rfl,⟨t,y,z⟩,hr,ho,hz,A⟩;cases e with|nil=>cases hr|cons u e=>
     obtain⟨rfl,rfl⟩:d=gj u/\r=e.map gj:=by simpa using hr
     rw[tk]at ho;rw[QQ]at hz;rw[length_cons]at A;simp[gj,t,y];apply aj;simp[z];apply aj;simp[show h.length<16777216 by omega];apply aj;simp;have B:(if u.2<q then u.2 else q)=min q u.2:=by split<;>omega
     rw[B];exact⟨e,h++[(u.1,min q u.2)],q-min q u.2,.val false (.int u.1),.val false (.int u.2),.val false (.int (min q u.2)),by rw[map_append];rfl,⟨rfl,rfl,rfl⟩,rfl,by rw[append_assoc];exact ho,hz,by simp;omega⟩
 . rintro _⟨e,h,q,s4,s5,s6,rfl,⟨t,y,z⟩,hr,ho,hz,A⟩;have:e=[]:=by cases e with|nil=>rfl|cons _ _=>cases hr
   subst this;rw[tk,append_nil]at ho;rw[QQ]at hz;subst ho;subst hz;simp;apply aj;simp;apply aj;simp;exact k
theorem IW:∀{l:List (Int×Int)}{q:Int},(tk l q).length=l.length|[],_=>rfl|kv::r,q=>by rw[tk,length_cons,IW,length_cons]
theorem JL:∀{l:List (Int×Int)}{q:Int}{x:Int×Int},x∈tk l q->∃kv∈l,x.1=kv.1
 |[],_,_,h=>by cases h|kv::r,q,x,h=>by
   rw[tk,mem_cons]at h;rcases h with rfl|h;.exact⟨kv,by simp,rfl⟩
   .obtain⟨y,t,e⟩:=JL h;exact⟨y,by simp[t],e⟩
theorem Ie:∀{l:List (Int×Int)}{q:Int},((tk l q).map λx=>x.1*x.2).sum=lh l q|[],_=>rfl|kv::r,q=>by rw[tk,lh,map_cons,sum_cons,Ie]
def mlD(d:D):D:=.int ((Qk d).1*(Qk d).2)
structure Dw(m:Int)(ws:List Wy)(cs:List (List az×Int))(kvs:List (Int×Int)):Prop where
 e:cO m ws cs
 b:Qt ws cs kvs
 so:kvs.Pairwise (λa b=>a.1<b.1)le:∀kv∈kvs,kv.1<=5000000
 len:kvs.length<=531441
theorem Dw.vs{m:Int}{ws:List Wy}{cs:List (List az×Int)}{kvs:List (Int×Int)}(h:Dw m ws cs kvs):T.vs kvs=K8 cs:=by rw[<-JZ];exact h.b.sm _ Rz
theorem Dw.vt{m:Int}{ws:List Wy}{cs:List (List az×Int)}{kvs:List (Int×Int)}(h:Dw m ws cs kvs)(U:Int):jl (T.vt U) kvs=val ws U cs:=h.b.sm _ RP
theorem Am{q:Int}(G:13286250<=w)(h:m9 m ws)(H:0<=q)(I:∀cs kvs,Dw m ws cs kvs->q<=T.vs kvs)(k:∀cs kvs,Dw m ws cs kvs->Q (.val (.int (lh kvs q))) [.val false (bT m ws),.val false (.int q)]):(run Γ w (n+6) 11 [.val false (bT m ws),.val false (.int q)]).sat Q:=by
 refine bz (d:=f11) rfl rfl (by decide) ?_;symm;simp[f11];refine oV G h λcs fs F d es kvs z J A B u=>?_;have C:Dw m ws cs kvs:=⟨⟨λv L=>(h.ok v L).h0,fs,F,d,es,J⟩,A,B,u,z⟩;simp;have z:=z;refine HB (by omega) (QJ A.nn H (I cs kvs C)) ?_;simp[IW,show kvs.length<=16777216 by omega];refine dI (F2t _ _) mlD ⟨.aN,.aN,rfl,rfl,rfl⟩ ?_ ?_
 . rintro d hd _⟨s,t,rfl,hs,ht⟩;obtain⟨x,M,rfl⟩:=mem_map.mp hd;obtain⟨E,y,e⟩:=JL M;have h1:=u E y;have W:=(A.nn E y).1;have O:lX (.int x.1) (.int x.2)=some (.val (.int (x.1*x.2))):=by show(if _ then _ else _)=_;rw[if_pos];left;omega
   simp[hs,ht,gj,mlD,O];exact⟨_,_,rfl,rfl,rfl⟩
 . rintro _⟨s,t,rfl,hs,ht⟩;have e:((tk kvs q).map gj).map mlD=((tk kvs q).map λx=>x.1*x.2).map D.int:=by rw[map_map,map_map];rfl
   rw[e];have U:=Ie (l:=kvs) (q:=q);generalize((tk kvs q).map λx=>x.1*x.2)=ns at*;simp[ik,U];exact k cs kvs C
def iU(S:List Int):List Wy->Int|[]=>0|w::ws=>(if w.s∈S/\w.t∉S then w.r else 0)+iU S ws
def R3(m:Int)(S:List Int):Prop:=0∈S/\m-1∉S
theorem ux{m:Int}{S T:List Int}:∀{ws:List Wy},(∀w∈ws,(0<=w.s/\w.s<m)/\(0<=w.t/\w.t<m))->(∀x,0<=x->x<m->(x∈S↔x∈T))->iU S ws=iU T ws|[],_,_=>rfl|w::ws,h,e=>by have u:=h w (by simp);rw[iU,iU,ux (ws:=ws) (λv y=>h v (by simp[y])) e];simp only[e w.s u.1.1 u.1.2,e w.t u.2.1 u.2.2]
theorem RV(h:m9 m ws):∀w∈ws,(0<=w.s/\w.s<m)/\(0<=w.t/\w.t<m):=λw e=>by have:=h.ok w e;exact⟨⟨this.s0,this.s1⟩,⟨this.t0,this.t1⟩⟩
def Rq(S:List Int)(v:Wy):Int:=if v.s∈S/\v.t∉S then v.r else 0
theorem tD{S:List Int}:∀{ws:List Wy},yh (Rq S) ws=iU S ws|[]=>rfl|v::ws=>by rw[yh,iU,tD];rfl
def nS(S:List Int)(p:Int):Int:=if p∈S then 0 else 1
theorem Ends.tot{d:Int}{fs:List Int}(h:Ends m ws cs fs F d es){S:List Int}(e:R3 m S):K8 cs=gK (gap 0 (nS S)) ws fs:=by rw[h.iv.dt];refine ni λx _=>?_;show x.2=x.2*((if m-1∈S then 0 else 1)-(if 0∈S then 0 else 1)-0*cg ws x.1);rw[if_neg e.2,if_pos e.1];simp
theorem cO.R7(h:cO m ws cs){S:List Int}(u:R3 m S):K8 cs<=iU S ws:=by obtain⟨_,fs,F,d,es,e⟩:=h;rw[e.tot u,<-tD];refine Ay e.iv.fit.len λj v g y z=>?_;have A:=e.iv.fit.ok _ _ _ y z;unfold gap nS Rq;by_cases a:v.s∈S<;>by_cases b:v.t∈S<;>simp[a,b]<;>omega
theorem cO.cut(h:cO m ws cs):∃S,R3 m S/\iU S ws<=K8 cs:=by
 obtain⟨_,fs,F,d,es,u⟩:=h;refine⟨es.map (·.1),?_,?_⟩;.exact⟨mem_map.mpr ⟨_,u.cm.cm.z,rfl⟩,λz=>by obtain⟨⟨p,l,o⟩,he,e⟩:=mem_map.mp z;have e:p=m-1:=e;exact u.no ⟨l,o,e▸he⟩⟩
 . have C:R3 m (es.map (·.1)):=⟨mem_map.mpr ⟨_,u.cm.cm.z,rfl⟩,λz=>by obtain⟨⟨p,l,o⟩,he,e⟩:=mem_map.mp z;have e:p=m-1:=e;exact u.no ⟨l,o,e▸he⟩⟩;rw[u.tot C,<-tD];have step:∀(j:Nat)(v:Wy)(g:Int),ws[j]?=some v->fs[j]?=some g->∀f:Bool,frm v f∈es.map (·.1)->too v f∉es.map (·.1)->¬ 0<pL v g f:=λj v g y A f h1 E G=>by obtain⟨⟨p,l,o⟩,he,e⟩:=mem_map.mp h1;have e:p=frm v f:=e;subst e;obtain⟨l2,H,B,_⟩:=u.cm.cl l o (j,f) v y he (by rw[mU (s:=(j,f)) y A];simp[G]);exact E (mem_map.mpr ⟨_,B,rfl⟩)
   refine zx u.iv.fit.len λj v g y A=>?_;have I:=u.iv.fit.ok _ _ _ y A;have s1:=step j v g y A true;have s2:=step j v g y A false;generalize es.map (·.1)=S at*;have s1:v.s∈S->v.t∉S->¬ 0<v.r-g:=s1;have s2:v.t∈S->v.s∉S->¬ 0<g:=s2;unfold gap nS Rq;by_cases a:v.s∈S<;>by_cases b:v.t∈S;.simp[a,b]
   .have:=s1 a b;simp[a,b];omega
   .have:=s2 b a;simp[a,b];omega
   .simp[a,b]
theorem Bq{S:List Int}:∀{ws:List Wy},(∀v∈ws,0<=v.r/\v.r<=1000000000)->0<=iU S ws/\iU S ws<=1000000000*(ws.length:Int)|[],_=>⟨Int.le_refl _,Int.le_refl _⟩|v::ws,h=>by have h1:=h v (by simp);have t:=Bq (S:=S) (ws:=ws) λu e=>h u (by simp[e]);rw[iU,length_cons];split<;>exact⟨by omega,by omega⟩
def K6(S:List Int):D:=.lst (S.map D.int)
structure V7(i:Nat)(SS:List (List Int)):Prop where
 z:∀S∈SS,0∈S/\(∀x∈S,x<=(i:Int))/\S.length<=i+1
 len:SS.length<=2^i
 all:∀P:Int->Bool,∃S∈SS,∀x:Int,x∈S↔x=0\/(1<=x/\x<=(i:Int)/\P x=true)
theorem V7.zero:V7 0 [[0]]:=⟨by simp,by simp,λP=>⟨[0],by simp,λx=>by simp;omega⟩⟩
theorem V7.succ{i:Nat}{SS:List (List Int)}(h:V7 i SS):V7 (i+1) (SS++SS.map λS=>S++[1+(i:Int)]):=by
 refine⟨λS hS=>?_,?_,λP=>?_⟩
 . rcases mem_append.mp hS with hS|hS;.have:=h.z S hS;exact⟨this.1,λx hx=>by have:=this.2.1 x hx;omega,by omega⟩
   . obtain⟨R,u,rfl⟩:=mem_map.mp hS;have:=h.z R u;refine⟨by simp[this.1],λx hx=>?_,by simp;omega⟩;rcases mem_append.mp hx with hx|hx;.have:=this.2.1 x hx;omega
     .rw[mem_singleton.mp hx];omega
 .have:=h.len;rw[length_append,length_map,Nat.pow_succ];omega
 . obtain⟨S,hS,t⟩:=h.all P;by_cases c:P (1+(i:Int))=true
   . refine⟨S++[1+(i:Int)],mem_append.mpr (.inr (mem_map.mpr ⟨S,hS,rfl⟩)),λx=>?_⟩;rw[mem_append,t,mem_singleton];constructor
     . rintro((h|h)|h);.exact .inl h
       .exact .inr ⟨h.1,by omega,h.2.2⟩
       .exact .inr ⟨by omega,by omega,by rw[h];exact c⟩
     . rintro(h|h);.exact .inl (.inl h)
       . by_cases e:x=1+(i:Int);.exact .inr e
         .exact .inl (.inr ⟨h.1,by omega,h.2.2⟩)
   . refine⟨S,mem_append.mpr (.inl hS),λx=>?_⟩;rw[t];constructor
     . rintro(h|h);.exact .inl h
       .exact .inr ⟨h.1,by omega,h.2.2⟩
     . rintro(h|h);.exact .inl h
       .refine .inr ⟨h.1,?_,h.2.2⟩;have:x≠1+(i:Int):=λe=>c (by rw[<-e];exact h.2.2);omega
inductive ac3(a0:Sl)(i:Nat)(ρ:List Sl):Prop where|mk(SS:List (List Int))(s2:Sl)(q0:ρ=[a0,.own false (SS.map K6),s2,.aN,.aN])(q1:fr s2=true)(q2:V7 i SS)
def adD(i:Int):D->D|.lst e=>.lst (e++[.int i])|d=>d
inductive FL(a b c d e:Sl)(ρ:List Sl):Prop where|mk(s:Sl)(q0:ρ=[a,b,c,d,e,s])(q1:fr s=true)
def cuD(S:List Int):D->Option D|.tup [.int s,.int t,.int r,.int _]=>if(S.contains s&&!S.contains t)=true then some (.int r)else none|_=>none
theorem IV{S:List Int}:∀{ws:List Wy},∃ns:List Int,(ws.map Wy.d).filterMap (cuD S)=ns.map D.int/\ns.sum=iU S ws
 |[]=>⟨[],rfl,rfl⟩|v::ws=>by
   obtain⟨ns,h1,h⟩:=IV (S:=S) (ws:=ws);have e:cuD S v.d=if(S.contains v.s&&!S.contains v.t)=true then some (.int v.r)else none:=rfl;rw[map_cons,filterMap_cons,h1,iU,e];by_cases c:v.s∈S/\v.t∉S;.rw[if_pos c,if_pos (by simp[c.1,c.2])];exact⟨v.r::ns,rfl,by rw[sum_cons,h]⟩
   .rw[if_neg c,if_neg (by simpa using c)];exact⟨ns,rfl,by rw[h];omega⟩
inductive aeg(a0:Sl)(ws:List Wy)(SS:List (List Int))(s2:Sl)(r:List D)(ρ:List Sl):Prop where|mk(cH us:List (List Int))(s4:Sl)(q0:ρ=[a0,.lent (SS.map K6),s2,.own false ((cH.map λS=>iU S ws).map D.int),s4])(q1:fr s4=true)(q2:r=us.map K6)(q3:cH++us=SS)
theorem GD(h:m9 m ws)(k:∀A:Int,0<=A->A<=12000000000->(∀S,R3 m S->A<=iU S ws)->(∃S,R3 m S/\iU S ws=A)->Q (.val (.int A)) [.val false (bT m ws)]):(run Γ w (n+1) 20 [.val false (bT m ws)]).sat Q:=by
 have m0:=h.m0;have m1:=h.m1;have hn:=h.len;refine bz (d:=f20) rfl rfl (by decide) ?_;symm;simp[f20];apply aj;simp[show m-1<=1000000000 by omega,show-1000000000<=m-1 by omega];refine nH (ac3 (.val false (bT m ws))) ?_ ?_ ⟨[[0]],.aN,rfl,rfl,.zero⟩
 . rintro i _ hi⟨SS,s2,rfl,W,u⟩;have hl:=u.len;have I:2^i<=16:=Nat.pow_le_pow_right (n:=2) (by decide) (show i<=4 by omega);simp[W];apply aj;simp[show SS.length<=16777216 by omega];refine dI (FL _ _ _ _ _) (adD (1+(i:Int))) ⟨.aN,rfl,rfl⟩ ?_ ?_;.rintro d hd _⟨s,rfl,hs⟩;obtain⟨S,y,rfl⟩:=mem_map.mp hd;have:=(u.z S y).2.2;simp[hs,K6,adD];exact⟨by show _<=16777216;omega,_,rfl,rfl⟩
   rintro _⟨s,rfl,hs⟩;have e:(SS.map K6).map (adD (1+(i:Int)))=(SS.map λS=>S++[1+(i:Int)]).map K6:=by rw[map_map,map_map];refine map_congr_left λS _=>?_;show adD _ (.lst (S.map D.int))=.lst ((S++[1+(i:Int)]).map D.int);rw[map_append];rfl
   rw[e];have B:=u.succ;have ac:(SS.map λS=>S++[1+(i:Int)]).length<=16:=by simp;omega
   generalize(SS.map λS=>S++[1+(i:Int)])=TT at*;simp[show SS.length+TT.length<=16777216 by omega];rw[<-map_append];exact⟨_,_,rfl,rfl,B⟩
 . rintro _⟨SS,s2,rfl,W,u⟩;have hl:=u.len;have hj:m.toNat-1-1<=4:=by omega
   have I:2^(m.toNat-1-1)<=16:=Nat.pow_le_pow_right (n:=2) (by decide) hj;symm;simp;apply aj;simp;refine bR (aeg (.val false (bT m ws)) ws SS s2) ?_ ?_ ⟨[],SS,.aN,rfl,rfl,rfl,rfl⟩;.rintro d r _⟨C,E,s4,rfl,X,hr,hd⟩;cases E with|nil=>cases hr|cons S E=>
       obtain⟨rfl,rfl⟩:d=K6 S/\r=E.map K6:=by simpa using hr
       have ae:C.length<=SS.length:=by rw[<-hd];simp
       simp[X];apply aj;simp[show ws.length<=16777216 by omega];refine Fe (FL _ _ _ _ _) (cuD S) ⟨.aN,rfl,rfl⟩ ?_ ?_;.rintro d hd _⟨s,rfl,hs⟩;obtain⟨v,J,rfl⟩:=mem_map.mp hd;have e:cuD S v.d=if(S.contains v.s&&!S.contains v.t)=true then some (.int v.r)else none:=rfl;rw[e];have Y:=Ug (S:=S) (i:=v.s);have Z:=Fg (S:=S) (i:=v.t);cases c1:S.contains v.s<;>cases c2:S.contains v.t<;>rw[c1]at Y<;>rw[c2]at Z<;>simp[hs,Wy.d,K6,Y,Z]<;>exact⟨_,rfl,rfl⟩
       rintro _⟨s,rfl,hs⟩;obtain⟨ns,L,e2⟩:=IV (S:=S) (ws:=ws);rw[L];simp[ik,e2,show C.length<16777216 by omega];refine⟨C++[S],E,.val false (K6 S),?_,rfl,rfl,by rw[append_assoc];exact hd⟩;simp[Function.comp_def]
   . rintro _⟨C,E,s4,rfl,X,hr,hd⟩;have:E=[]:=by cases E with|nil=>rfl|cons _ _=>cases hr
     subst this;rw[append_nil]at hd;subst hd;obtain⟨S0,G,_⟩:=u.all λ_=>false;obtain⟨A,hA,M,O⟩:=Hz (ns:=C.map λS=>iU S ws) (by intro e;rw[List.map_eq_nil_iff]at e;rw[e]at G;cases G);obtain⟨H,y,L⟩:=mem_map.mp M;have hb:=Bq (S:=H) (ws:=ws) λv J=>⟨(h.ok v J).r0,(h.ok v J).r1⟩;have U:∀S,R3 m S->A<=iU S ws:=λS B=>by
      obtain⟨R,hR,hP⟩:=u.all λx=>S.contains x;have:=O _ (mem_map.mpr ⟨R,hR,rfl⟩);rwa[ux (RV h) (T:=S) λx x0 x1=>?_]at this;rw[hP];constructor
      . rintro(e|e);.rw[e];exact B.1
        .exact contains_iff_mem.mp e.2.2
      . intro e;by_cases z:x=0;.exact .inl z
        .have:x≠m-1:=λz=>B.2 (z▸e);exact .inr ⟨by omega,by omega,contains_iff_mem.mpr e⟩
     have hk:=k A (by omega) (by omega) U ⟨H,⟨(u.z H y).1,λz=>by have:=(u.z H y).2.1 _ z;omega⟩,L⟩;have hm:=ik (ns:=C.map λS=>iU S ws);generalize(C.map λS=>iU S ws)=ns at*;simp;apply aj;simp[hm,hA];exact hk
theorem CT{c:Call}{n:Nat}{r:List S}:∀{l:List S}{ρ t:List Sl},(∀s∈l,∀ρ,vD c n s ρ=none)->fO c n l ρ=.ok .next t->fO c n (l++r) ρ=fO c n r t/\fP c n (l++r) ρ=fP c n r t|[],ρ,t,_,h=>by rw[fO]at h;cases h;exact⟨rfl,rfl⟩|s::l,ρ,t,u,h=>by rw[fO]at h;rw[cons_append,fO,fP,u s (by simp)];cases e:ex c n s ρ with|stuck=>rw[e]at h;cases h|exc _ _=>rw[e]at h;cases h|ok fl y=>rw[e]at h;cases fl with|next=>exact CT (l:=l) (λs hs=>u s (by simp[hs])) h|brk=>cases h|cont=>cases h|ret _=>cases h
theorem uD{c:Call}{n:Nat}:∀{l:List S},(∀s∈l,∀ρ,vD c n s ρ=none)->∀ρ,fP c n l ρ=none|[],_,ρ=>by rw[fP]|s::l,h,ρ=>by rw[fP,h s (by simp)];cases ex c n s ρ with|stuck=>rfl|exc _ _=>rfl|ok fl e=>cases fl with|next=>exact uD (λs hs=>h s (by simp[hs])) e|brk=>rfl|cont=>rfl|ret _=>rfl
theorem oY{is:List Nat}{one:Bool}{body:List Sl->Res Fl}{t:List Sl->Option (Nat×List Sl)}(h:∀ρ,t ρ=none):∀{u:List D}{ρ:List Sl},v8 is one body t u ρ=none|[],_=>rfl|d::r,ρ=>by rw[v8];cases cj ρ is one d with|none=>rfl|some e=>dsimp only;rw[h];cases body e with|stuck=>rfl|exc _ _=>rfl|ok fl y=>cases fl with|next=>exact oY h|cont=>exact oY h|brk=>rfl|ret _=>rfl
theorem FZ{c:Call}{src:P}{is:List Nat}{one:Bool}{body:List S}(h0:∀ρ,ie c src ρ=none)(h:∀s∈body,∀ρ,vD c n s ρ=none)(ρ:List Sl):vD c n (.iB src is one body) ρ=none:=by rw[vD,h0];dsimp only;cases srcOf (isVar src) (ev c src) ρ with|stuck=>rfl|exc _ _=>rfl|ok t e=>dsimp only;rw[oY (uD h)];rfl
theorem Nq{c:Call}{k:Nat}:ex c n (.yV k) ρ=.stuck:=(rfl)
def pD(u:D×Int):D:=.tup [u.1,.int u.2]
def Gq:List (D×Int)->Int|[]=>0|u::r=>u.2+Gq r
theorem Kc:∀{l:List (D×Int)},(∀u∈l,0<u.2)->0<=Gq l|[],_=>Int.le_refl _|u::r,h=>by have h1:=h u (by simp);have t:=Kc (l:=r) λx e=>h x (by simp[e]);rw[Gq];omega
inductive JCx(a0 a1:Sl)(N:Nat)(z:Int)(r:List D)(ρ:List Sl):Prop where|mk(us:List (D×Int))(cH:List D)(q:Int)(s4 s5 s6:Sl)(q0:ρ=[a0,a1,.own false cH,.val false (.int q),s4,s5,s6])(q1:A3 (fr s4=true) (fr s5=true) (fr s6=true))(q2:r=us.map pD)(q3:(∀u∈us,0<u.2))(q4:q-Gq us=z)(q5:cH.length+us.length=N)
theorem Hx{q:Int}{l:List (D×Int)}(X:l.length<=16000000)(h0:∀u∈l,0<u.2)(Y:Gq l<q):∃args,run Γ w (n+1) 9 [.own false (l.map pD),.val false (.int q)]=.exc 7 args:=by
 have key:(fO (run Γ w n) w [.asg 2 (.lst []),.asg 3 (.var 1),.iB (.var 0) [4,5] false [.asg 6 (.blt .min2 [.var 3,.var 5]),.app 2 (.tup [.var 4,.var 6]),.aug 3 true (.var 6)]] [.own false (l.map pD),.val false (.int q),.aN,.aN,.aN,.aN,.aN]).sat λfl ρ=>fl=.next/\∃t y B s4 s5 s6 z,ρ=[t,y,B,.val false (.int z),s4,s5,s6]/\0<z:=by
  symm;simp;apply aj;simp;apply aj;simp;refine bR (JCx _ _ l.length (q-Gq l)) ?_ ?_ ⟨l,[],q,.aN,.aN,.aN,rfl,⟨rfl,rfl,rfl⟩,rfl,h0,rfl,by simp⟩;.rintro d r _⟨h,G,q,s4,s5,s6,rfl,⟨H,I,J⟩,hr,A,hz,L⟩;cases h with|nil=>cases hr|cons u h=>
      obtain⟨rfl,rfl⟩:d=pD u/\r=h.map pD:=by simpa using hr
      have Z:=A u (by simp);have hs:=Kc λx C=>A x (mem_cons_of_mem _ C);rw[Gq]at hz;rw[length_cons]at L;simp[pD,H,I];apply aj;simp[J];apply aj;simp[show G.length<16777216 by omega];apply aj;simp;have M:(if u.2<q then u.2 else q)=u.2:=by split<;>omega
      rw[M];exact⟨h,_,q-u.2,_,_,_,rfl,⟨rfl,rfl,rfl⟩,rfl,λx C=>A x (by simp[C]),by omega,by simp;omega⟩
  . rintro _⟨h,G,O,s4,s5,s6,rfl,⟨H,I,J⟩,hr,A,hz,L⟩;have:h=[]:=by cases h with|nil=>rfl|cons _ _=>cases hr
    subst this;have E:0<O:=by have e:Gq []=0:=rfl;rw[e]at hz;omega
    simp;exact⟨_,_,_,_,_,_,_,⟨rfl,rfl,rfl,rfl,rfl,rfl,rfl⟩,E⟩
 obtain⟨fl,ρ,e,rfl,t,y,B,s4,s5,s6,z,rfl,hz⟩:=sat_iff.mp key;obtain⟨U,W⟩:=CT (r:=[.ifs (.cmp .gt (.var 3) (.con (.int 0))) [.yV 7] [],.ret (.var 2)]) (λs hs=>by
  simp only[mem_cons,List.not_mem_nil,or_false]at hs;rcases hs with rfl|rfl|rfl;.intro _;rfl
  .intro _;rfl
  .refine FZ (λ_=>rfl) λs hs=>?_;simp only[mem_cons,List.not_mem_nil,or_false]at hs;rcases hs with rfl|rfl|rfl<;>(intro _;rfl)) e;have t1:fO (run Γ w n) w f9.body ([.own false (l.map pD),.val false (.int q)]++replicate (f9.nn-f9.np) .aN)=.stuck:=by refine U.trans ?_;simp[fO,Nq,hz]
 have t2:fP (run Γ w n) w f9.body ([.own false (l.map pD),.val false (.int q)]++replicate (f9.nn-f9.np) .aN)=some (7,[t,y,B,.val false (.int z),s4,s5,s6]):=by refine W.trans ?_;simp[fP,vD,iY,hz]
 refine⟨[t,y],?_⟩;rw[n8 (d:=f9) rfl];unfold enter;rw[if_pos ⟨rfl,by decide⟩,t1];dsimp only;rw[t2];rfl
theorem Yl:kvs.map gj=(kvs.map λe=>(D.int e.1,e.2)).map pD:=by rw[map_map];rfl
theorem G5:∀{kvs:List (Int×Int)},Gq (kvs.map λkv=>(D.int kv.1,kv.2))=vs kvs|[]=>rfl|kv::r=>by rw[map_cons,Gq,G5,vs]
theorem J3{q:Int}(H:13286250<=w)(h:m9 m ws)(I:∀cs kvs,Dw m ws cs kvs->T.vs kvs<q):∃args,run Γ w (n+6) 11 [.val false (bT m ws),.val false (.int q)]=.exc 7 args:=by obtain⟨r,ρ,e,kvs,rfl,rfl,y,J,z⟩:=sat_iff.mp (oV (w:=w) (n:=n) (Q:=λr ρ=>∃kvs:List (Int×Int),r=.own (kvs.map gj)/\ρ=[.val false (bT m ws)]/\kvs.length<=531441/\(∀t∈kvs,1<=t.1/\0<t.2)/\T.vs kvs<q) H h λcs fs F d es kvs y L E A B=>⟨kvs,rfl,rfl,y,E.nn,I cs kvs ⟨⟨λv z=>(h.ok v z).h0,fs,F,d,es,L⟩,E,A,B,y⟩⟩);obtain⟨args,G⟩:=Hx (w:=w) (n:=n+4) (q:=q) (l:=kvs.map λt=>(D.int t.1,t.2)) (by simp;omega) (λu M=>by obtain⟨t,C,rfl⟩:=mem_map.mp M;exact(J t C).2) (by rw[G5];exact z);rw[<-Yl]at G;generalize kvs.map gj=O at*;rw[n8 (d:=f11) rfl];unfold enter;simp[f11,b11,fO,fP,vD,ie,mG,jB,mC,mL,mK,jr,jJ,gV,dh,aM,e,G]
def cpD(u:List az×Int):D×Int:=(.tup (u.1.map sD),u.2)
theorem aec:cs.map cD=(cs.map cpD).map pD:=by rw[map_map];rfl
theorem De:∀{cs:List (List az×Int)},Gq (cs.map cpD)=K8 cs|[]=>rfl|u::r=>by rw[map_cons,Gq,De];rfl
theorem G4{q:Int}(E:13286250<=w)(h:m9 m ws)(G:∀cs,cO m ws cs->K8 cs<q):∃args,run Γ w (n+6) 13 [.val false (bT m ws),.val false (.int q)]=.exc 7 args:=by
 have H:=HN.of h;obtain⟨r,ρ,e,cs,rfl,rfl,A,I,t⟩:=sat_iff.mp (yE (w:=w) (n:=n+1) (Q:=λr ρ=>∃cs:List (List az×Int),r=.own (cs.map cD)/\ρ=[.val false (bT m ws)]/\cs.length<=13286050/\(∀u∈cs,0<u.2)/\K8 cs<q) E H (λv t=>(h.ok v t).r0) λcs fs F d es A B=>⟨cs,rfl,rfl,A,λu y=>(B.iv.ch u y).2.1,G cs ⟨λv t=>(h.ok v t).h0,fs,F,d,es,B⟩⟩);obtain⟨args,C⟩:=Hx (w:=w) (n:=n+4) (q:=q) (l:=cs.map cpD) (by simp;omega) (λu y=>by obtain⟨x,J,rfl⟩:=mem_map.mp y;exact I x J) (by rw[De];exact t);rw[<-aec]at C;generalize cs.map cD=M at*;have L:=h.len;have z:lX (.lst [.int 0]) (.int (ws.length:Int))=some (.own ((replicate ws.length (0:Int)).map D.int)):=by show(if _ then _ else _)=_;rw[if_pos ⟨by omega,by simp,by simp;show _<=16777216;omega⟩];simp
 rw[n8 (d:=XD) rfl];unfold enter;simp[XD,b13,fO,fP,vD,ie,mG,jB,mC,mL,mK,jr,jJ,gV,dh,aM,e,C,z]
theorem Cj{c:Call}{body:List S}{bs:List (Option Bool)}:ex c n (.Kw body bs) ρ=match fP c n body ρ with|some (k,_)=>if ρ.all P0=true then match bs.getD k none with|some b=>.ok (.ret (.val (.bl b))) (replicate ρ.length .aN)|none=>.stuck else .stuck|none=>.stuck:=(rfl)
theorem xO{q:Int}{t:Int}(e:13286250<=w)(h:m9 m ws)(h1:∀cs kvs,Dw m ws cs kvs->T.vs kvs<q)(u:∀cs,cO m ws cs->K8 cs<q)(k:Q (.val (.bl true)) [.aN,.aN,.aN]):(run Γ w (n+7) 21 [.val false (bT m ws),.val false (.int q),.val false (.int t)]).sat Q:=by
 obtain⟨A,y⟩:=J3 (n:=n) e h h1;obtain⟨B,z⟩:=G4 (n:=n) e h u;refine bz (d:=f21) rfl rfl (by decide) ?_;symm;simp[f21];apply aj;by_cases c:t=0;.simp[Cj,fP,vD,ie,mG,jB,mC,mL,mK,jr,jJ,gV,dh,aM,y,P0,iY,c];exact k
 .simp[Cj,fP,vD,ie,mG,jB,mC,mL,mK,jr,jJ,gV,dh,aM,z,P0,iY,c];exact k
theorem vL{T:Int}:∀{l:List (Int×Int)},(∀e∈l,T<e.1)->jl (gt T) l=0|[],_=>rfl|x::l,h=>by have h1:=h x (by simp);have t:=vL (T:=T) (l:=l) λy u=>h y (by simp[u]);show gt T x.1 x.2+jl (gt T) l=0;rw[t];unfold gt;rw[if_neg (by omega)];rfl
theorem u6{x:Int×Int}{l:List (Int×Int)}(h:(x::l).Pairwise (λa b=>a.1<b.1)):jl (gt x.1) (x::l)=x.2:=by have h:=pairwise_cons.mp h;show gt x.1 x.1 x.2+jl (gt x.1) l=_;rw[vL h.1];unfold gt;rw[if_pos (Int.le_refl _)];omega
theorem uP:∀{a b:List (Int×Int)},a.Pairwise (λa b=>a.1<b.1)->b.Pairwise (λa b=>a.1<b.1)->(∀t∈a,0<t.2)->(∀t∈b,0<t.2)->(∀T,jl (gt T) a=jl (gt T) b)->a=b
 |[],[],_,_,_,_,_=>rfl|[],y::b,_,u,_,B,h=>by have h1:=h y.1;rw[u6 u]at h1;have I:=B y (by simp);have J:jl (gt y.1) []=0:=rfl;omega|x::a,[],A,_,C,_,h=>by have h1:=h x.1;rw[u6 A]at h1;have I:=C x (by simp);have J:jl (gt x.1) []=0:=rfl;omega|x::a,y::b,A,u,C,B,h=>by
   have O:=C x (by simp);have U:=B y (by simp);have E:=pairwise_cons.mp A;have G:=pairwise_cons.mp u;have lt:¬ x.1<y.1:=λz=>by
    have h1:=h x.1;rw[u6 A,vL λt hkv=>?_]at h1;.omega
    . rcases mem_cons.mp hkv with rfl|hkv;.exact z
      .have:=G.1 t hkv;omega
   have L:¬ y.1<x.1:=λz=>by
    have h1:=h y.1;rw[u6 u,vL λt hkv=>?_]at h1;.omega
    . rcases mem_cons.mp hkv with rfl|hkv;.exact z
      .have:=E.1 t hkv;omega
   have H:x.1=y.1:=by omega
   have M:x.2=y.2:=by have h1:=h x.1;rw[u6 A,H,u6 u]at h1;exact h1
   have e:x=y:=Prod.ext_iff.mpr ⟨H,M⟩;subst e;rw[uP E.2 G.2 (λt z=>C t (by simp[z])) (λt z=>B t (by simp[z])) λT=>?_];have h1:gt T x.1 x.2+jl (gt T) a=gt T x.1 x.2+jl (gt T) b:=h T;omega
theorem Dw.uniq{u:List (List az×Int)}{t:List (Int×Int)}(h:Dw m ws cs kvs)(h':Dw m ws u t):kvs=t:=uP h.so h'.so (λy z=>(h.b.nn y z).2) (λy z=>(h'.b.nn y z).2) λT=>by rw[h.b.sm _ Hf,h'.b.sm _ Hf];exact h.e.Yu h'.e T
theorem oH(k:Q (.val (.bl true)) [.val false (.int i)]):(run Γ w (n+1) 18 [.val false (.int i)]).sat Q:=by refine bz (d:=f18) rfl rfl (by decide) ?_;symm;simp[f18,cF];exact k
theorem Bo{e:Type}{l:List e}:(l.map λ_=>D.bl true).mapM zc=some (l.map λ_=>true):=by induction l with|nil=>rfl|cons a l h=>simp[h]
theorem all_true{e:Type}{l:List e}:(l.map λ_=>true).all id=true:=by simp
def kyD(d:D):D:=.int (Qk d).1
def ldD(d:D):D:=.int (Qk d).2
inductive F3f(a b:Sl)(ρ:List Sl):Prop where|mk(s:Sl)(q0:ρ=[a,b,s])(q1:fr s=true)
inductive F4f(a b:Sl)(ρ:List Sl):Prop where|mk(s:Sl)(t:Sl)(q0:ρ=[a,b,s,t])(q1:fr s=true)(q2:fr t=true)
theorem Ol{l:List Int}(h:l.Pairwise (·<·)){i:Nat}{u v:Int}(h1:l[i]?=some u)(e:l[i+1]?=some v):u<v:=by obtain⟨t,rfl⟩:=fM h1;obtain⟨y,rfl⟩:=fM e;exact List.pairwise_iff_getElem.mp h i (i+1) t y (by omega)
theorem Hr{e:Type}{f:e->D}{l:List e}:l.mapM (zc ∘(λ_=>D.bl true)∘ f)=some (l.map λ_=>true):=by induction l with|nil=>rfl|cons a l h=>simp[h]
theorem zq(O:kvs.length<=531441)(nn:∀y∈kvs,1<=y.1/\0<y.2)(so:kvs.Pairwise (λa b=>a.1<b.1))(k:Q (.val (.bl true)) [.own true (kvs.map gj)]):(run Γ w (n+2) 19 [.own true (kvs.map gj)]).sat Q:=by
 refine bz (d:=f19) rfl rfl (by decide) ?_;symm;simp[f19,cF,show kvs.length<=16777216 by omega];refine dI (F3f _ _) (λ_=>.bl true) ⟨.aN,rfl,rfl⟩ ?_ ?_;.rintro d hd _⟨s,rfl,hs⟩;obtain⟨y,h,rfl⟩:=mem_map.mp hd;simp[hs,gj,cF];exact⟨_,rfl,rfl⟩
 rintro _⟨s,rfl,hs⟩;have A:=Bo (l:=kvs.map gj);have z:=all_true (l:=kvs.map gj);generalize((kvs.map gj).map λ_=>D.bl true)=X at*;generalize((kvs.map gj).map λ_=>true)=Y at*;simp[A,z];clear A z;symm;simp[show kvs.length<=16777216 by omega];refine dI (F4f _ _) (λ_=>.bl true) ⟨.aN,.aN,rfl,rfl,rfl⟩ ?_ ?_;.rintro d hd _⟨s,t,rfl,hs,ht⟩;obtain⟨y,h,rfl⟩:=mem_map.mp hd;have G:=(nn y h).2;simp[hs,ht,gj];refine oH ?_;simp;refine oH ?_;simp[G];exact⟨_,_,rfl,rfl,rfl⟩
 rintro _⟨s,t,rfl,hs,ht⟩;have A:=Bo (l:=kvs.map gj);have z:=all_true (l:=kvs.map gj);generalize((kvs.map gj).map λ_=>D.bl true)=X at*;generalize((kvs.map gj).map λ_=>true)=Y at*;simp[A,z];clear A z;symm;simp[show kvs.length<=16777216 by omega];refine dI (F4f _ _) kyD ⟨.aN,.aN,rfl,rfl,rfl⟩ ?_ ?_;.rintro d hd _⟨s,t,rfl,hs,ht⟩;obtain⟨y,h,rfl⟩:=mem_map.mp hd;simp[hs,ht,gj,kyD];exact⟨_,_,rfl,rfl,rfl⟩
 rintro _⟨s,t,rfl,hs,ht⟩;have e:(kvs.map gj).map kyD=(kvs.map (·.1)).map D.int:=by rw[map_map,map_map];rfl
 rw[e];have B:(0::kvs.map (·.1)).Pairwise (·<·):=by rw[pairwise_cons,List.pairwise_map];refine⟨λx H=>?_,so⟩;obtain⟨y,h,rfl⟩:=mem_map.mp H;have:=(nn y h).1;omega
 have I:(kvs.map (·.1)).length=kvs.length:=by simp
 generalize kvs.map (·.1)=ks at*;simp[show 1+ks.length<=16777216 by omega,show ks.length+1<=16777216 by omega];apply aj;simp[show(kvs.length:Int)<=1000000000 by omega,show kvs.length<=16777216 by omega];refine dI (F3f _ _) (λ_=>.bl true) ⟨.aN,rfl,rfl⟩ ?_ ?_
 . rintro d hd _⟨s,rfl,hs⟩;obtain⟨i,hi,rfl⟩:=mem_map.mp hd;have hi:i<kvs.length:=by simpa using hi
   obtain⟨u,C⟩:∃u,(0::ks)[i]?=some u:=⟨_,getElem?_eq_getElem (by simp;omega)⟩;obtain⟨v,E⟩:∃v,(0::ks)[i+1]?=some v:=⟨_,getElem?_eq_getElem (by simp;omega)⟩;have J:at' (D.int 0::ks.map D.int) (i:Int)=some (.int u):=iV (l:=0::ks) (f:=D.int) C;have L:at' (D.int 0::ks.map D.int) ((i:Int)+1)=some (.int v):=iV (l:=0::ks) (f:=D.int) (k:=i+1) E;have M:=Ol B C E;simp[hs,J,L,M];exact⟨_,rfl,rfl⟩
 rintro _⟨s,rfl,hs⟩;have z:=all_true (l:=List.range kvs.length);simp;rw[Hr];generalize((List.range kvs.length).map λ_=>true)=Y at*;simp[z];exact k
def lf:List (Int×Int)->Int->Int|[],_=>0|kv::r,q=>kv.1*max 0 (min kv.2 q)+lf r (q-kv.2)
theorem Z7:∀{l:List (Int×Int)}{q:Int},(∀kv∈l,1<=kv.1/\0<kv.2)->q<=0->lf l q=0|[],_,_,_=>rfl|kv::r,q,h,h0=>by have t:=h kv (by simp);rw[lf,Z7 (λx e=>h x (by simp[e])) (by omega),show max 0 (min kv.2 q)=0 by omega];simp
theorem Qm:∀{l:List (Int×Int)}{q:Int},(∀kv∈l,1<=kv.1/\0<kv.2)->0<=q->lf l q=lh l q
 |[],_,_,_=>rfl|kv::r,q,h,h0=>by
   have t:=h kv (by simp);have hr:∀x∈r,1<=x.1/\0<x.2:=λx e=>h x (by simp[e]);rw[lf,lh];by_cases c:kv.2<=q;.rw[show min q kv.2=kv.2 by omega,show max 0 (min kv.2 q)=kv.2 by omega,Qm hr (by omega)]
   .rw[show min q kv.2=q by omega,show max 0 (min kv.2 q)=q by omega,Z7 hr (by omega),Int.sub_self,Vi hr]
inductive JFi(a0:Sl)(z:Int)(r:List D)(ρ:List Sl):Prop where|mk(us:List (Int×Int))(q t:Int)(s3 s4:Sl)(q0:ρ=[a0,.val false (.int q),.val false (.int t),s3,s4])(q1:(fr s3=true/\fr s4=true))(q2:r=us.map gj)(q3:(∀kv∈us,1<=kv.1/\kv.1<=5000000))(q4:t+lf us q=z)
theorem Ek{q:Int}(nn:∀y∈kvs,1<=y.1/\y.1<=5000000)(k:∀z,Q (.val (.int (lf kvs q))) [.own true (kvs.map gj),.val false (.int z)]):(run Γ w (n+1) 22 [.own true (kvs.map gj),.val false (.int q)]).sat Q:=by
 refine bz (d:=f22) rfl rfl (by decide) ?_;symm;simp[f22];apply aj;simp;refine bR (JFi _ (lf kvs q)) ?_ ?_ ⟨kvs,q,0,.aN,.aN,rfl,⟨rfl,rfl⟩,rfl,nn,by omega⟩;.rintro d r _⟨e,q,t,s3,s4,rfl,⟨A,B⟩,hr,h,hz⟩;cases e with|nil=>cases hr|cons u e=>
     obtain⟨rfl,rfl⟩:d=gj u/\r=e.map gj:=by simpa using hr
     have H:=h u (by simp);have C:∀b,lX (.int u.1) (.int b)=some (.val (.int (u.1*b))):=λb=>by show(if _ then _ else _)=_;rw[if_pos];left;omega
     rw[lf]at hz;simp[gj,A,B];apply aj;simp[C];apply aj;simp;have E:(if 0<(if q<u.2 then q else u.2)then(if q<u.2 then q else u.2)else 0)=max 0 (min u.2 q):=by split<;>split<;>omega
     refine⟨e,q-u.2,_,_,_,rfl,⟨rfl,rfl⟩,rfl,λx G=>h x (by simp[G]),?_⟩;rw[E,Int.add_assoc];exact hz
 . rintro _⟨e,z,t,s3,s4,rfl,⟨A,B⟩,hr,h,hz⟩;have:e=[]:=by cases e with|nil=>rfl|cons _ _=>cases hr
   subst this;rw[lf,Int.add_zero]at hz;subst hz;simp;apply aj;simp;exact k _
inductive acd(ns:List Int)(_:Nat)(ρ:List Sl):Prop where|mk(cs:List Int)(s:Sl)(q0:ρ=[.val false (.lst (ns.map D.int)),.val false (.int 10),.own false (cs.map D.int),s])(q1:fr s=true)(q2:cs.length=10)
theorem Aq{ns:List Int}(A:ns.length<=63)(k:∀cs:List Int,cs.length<=10->Q (.own (cs.map D.int)) [.val false (.lst (ns.map D.int)),.val false (.int 10)]):(run Γ w (n+1) 23 [.val false (.lst (ns.map D.int)),.val false (.int 10)]).sat Q:=by
 refine bz (d:=f23) rfl rfl (by decide) ?_;refine jF (λρ=>ρ=[.val false (.lst (ns.map D.int)),.val false (.int 10),.own false ((replicate 10 (0:Int)).map D.int),.aN]) ?_ ?_;.simp[f23];decide
 rintro _ rfl;symm;simp[show(ns.length:Int)<=1000000000 by omega];refine nH (acd ns) ?_ ?_ ⟨replicate 10 0,.aN,by simp,rfl,by simp⟩;.rintro i _ hi⟨cs,s,rfl,hs,e⟩;obtain⟨j,t,h⟩:∃j:Nat,(i:Int)%10=(j:Int)/\j<cs.length:=⟨i%10,by omega,by omega⟩;have u:at' (cs.map D.int) (j:Int)=some (.int cs[j]):=iV (by simp[h]);have y:at' (ns.map D.int) (i:Int)=some (.int ns[i]):=iV (by simp[hi]);have z:jP cs.length (j:Int)=some j:=Vu h;simp[hs];apply aj;simp[t,u,y,z];exact⟨cs.set j (cs[j]*1000003+ns[i]),.val false (.int i),by simp[map_set],rfl,by simpa using e⟩
 .rintro _⟨cs,s,rfl,hs,e⟩;symm;simp[aco,Ox];exact k _ (le_trans U3 (by omega))
inductive F11(a b c d e f g h i:Sl)(ρ:List Sl):Prop where|mk(s:Sl)(t:Sl)(q0:ρ=[a,b,c,d,e,f,g,h,i,s,t])(q1:fr s=true)(q2:fr t=true)
inductive J30(v:Sl)(r:List D)(ρ:List Sl):Prop where|mk(s1:Sl)(s2:Sl)(s3:Sl)(s4:Sl)(s5:Sl)(s6:Sl)(s7:Sl)(s8:Sl)(q0:ρ=[v,s1,s2,s3,s4,s5,s6,s7,s8])(q1:A8 (fr s1=true) (fr s2=true) (fr s3=true) (fr s4=true) (fr s5=true) (fr s6=true) (fr s7=true) (fr s8=true))(q2:∀d∈r,∃i,d=D.int i)
inductive K30(v s1 s2 s3 s4 s5 s8:Sl)(A:Int)(r:List D)(ρ:List Sl):Prop where|mk(s6:Sl)(s7:Sl)(q0:ρ=[v,s1,s2,s3,s4,s5,s6,s7,s8])(q1:(fr s6=true/\fr s7=true))(q2:∀d∈r,∃i,d=D.int i/\0<=i/\i<=A)
theorem JM:∀{kvs:List (Int×Int)},(kvs.map (·.2)).sum=vs kvs|[]=>rfl|kv::r=>by rw[map_cons,sum_cons,JM,vs]
theorem My(ns:List Int)(hn:ns.length<=63):∃as,run Γ 100000000 40 24 [.val false (.lst (ns.map D.int))]=.ok (.val (.bl true)) as:=by
 suffices h:(run Γ 100000000 40 24 [.val false (.lst (ns.map D.int))]).sat λr _=>r=.val (.bl true)by obtain⟨a,ρ,e,rfl⟩:=sat_iff.mp h;exact⟨ρ,e⟩
 refine bz (d:=f24) rfl rfl (by decide) ?_;symm;simp[f24];refine Aq hn λcs ae=>?_;simp;refine bR (J30 (.val false (.lst (ns.map D.int)))) ?_ ?_ ⟨_,_,_,_,_,_,_,_,rfl,⟨rfl,rfl,rfl,rfl,rfl,rfl,rfl,rfl⟩,λd hd=>?_⟩
 . rintro d r _⟨s1,s2,s3,s4,s5,s6,s7,s8,rfl,⟨h1,h2,h3,h4,h5,E,G,h8⟩,hd⟩;obtain⟨x,rfl⟩:=hd d (by simp);simp[h1];apply aj;simp;refine Ha λa y c=>?_;simp[h2];apply aj;simp;refine Nx λx z m ws B=>?_;have af:=B.len;have m0:=B.m0;have m1:=B.m1;simp[h3];apply aj;simp;refine GD B λA A0 A1 hA M=>?_;have O:∀cs,cO m ws cs->K8 cs=A:=λcs C=>by obtain⟨S,hS,hc⟩:=C.cut;have:=hA S hS;obtain⟨S2,U,ag⟩:=M;have:=C.R7 U;omega
   simp[h4];apply aj;simp;refine oV (by decide) B λcs fs F d es kvs hl C J H I=>?_;have u:Dw m ws cs kvs:=⟨⟨λv hv=>(B.ok v hv).h0,fs,F,d,es,C⟩,J,H,I,hl⟩;have L:∀cs kvs,Dw m ws cs kvs->T.vs kvs=A:=λcs kvs u=>by rw[u.vs,O cs u.e]
   have W:=L cs kvs u;simp[h5];apply aj;simp;refine zq hl J.nn H ?_;simp[show kvs.length<=16777216 by omega];refine dI (F11 _ _ _ _ _ _ _ _ _) ldD ⟨.aN,.aN,rfl,rfl,rfl⟩ ?_ ?_;.rintro d hd _⟨s,t,rfl,hs,ht⟩;obtain⟨X,ah,rfl⟩:=mem_map.mp hd;simp[hs,ht,gj,ldD];exact⟨_,_,rfl,rfl,rfl⟩
   rintro _⟨s,t,rfl,hs,ht⟩;have e:(kvs.map gj).map ldD=(kvs.map (·.2)).map D.int:=by rw[map_map,map_map];rfl
   rw[e];have e2:=JM (kvs:=kvs);generalize kvs.map (·.2)=ls at*;simp[ik,e2,W];apply aj;simp;refine ir (by omega) (jD (by omega)) λq x z q0 q1=>?_;simp;refine bR (K30 _ _ _ _ _ _ _ A) ?_ ?_ ⟨s6,s7,rfl,⟨E,G⟩,?_⟩;.rintro d r _⟨s6,s7,rfl,⟨E,G⟩,hr⟩;obtain⟨i,rfl,i0,i1⟩:=hr d (by simp);simp[E];apply aj;simp;refine Am (by decide) B i0 (λcs kvs u=>by rw[L cs kvs u];exact i1) λai ac Y=>?_;obtain rfl:=u.uniq Y;simp[G];apply aj;simp;refine oH ?_;simp;refine Ek (λX z=>⟨(J.nn X z).1,I X z⟩) λq'=>?_;rw[Qm J.nn i0];simp;exact⟨_,_,rfl,⟨rfl,rfl⟩,λd hd=>hr d (by simp[hd])⟩
   .rintro _⟨s6,s7,rfl,⟨E,G⟩,_⟩;simp;apply aj;simp;refine dq (by decide) (by decide) λt x z t0 t1=>?_;obtain⟨p,ep,p0,p1⟩:=Bp (ns:=[1,2,10000000000000000000000000]) (lo:=1) (hi:=10000000000000000000000000) t0 (by simpa using t1) (by simp);simp only[map_cons,map_nil]at ep;simp[ep,h8];apply aj;simp;refine xO (by decide) B (λcs kvs u=>by rw[L cs kvs u];omega) (λcs C=>by rw[O cs C];omega) ?_;simp;refine xO (by decide) B (λcs kvs u=>by rw[L cs kvs u];omega) (λcs C=>by rw[O cs C];omega) ?_;simp;exact⟨_,_,_,_,_,_,_,_,rfl,⟨rfl,rfl,rfl,rfl,rfl,E,G,rfl⟩,λd Z=>hd d (by simp[Z])⟩
   . intro d hd;simp at hd;rcases hd with rfl|rfl|rfl|rfl;.exact⟨_,rfl,by omega,by omega⟩
     .exact⟨_,rfl,by split<;>omega,by split<;>omega⟩
     .exact⟨_,rfl,by omega,by omega⟩
     .exact⟨_,rfl,by omega,by omega⟩
 .rintro _⟨s1,s2,s3,s4,s5,s6,s7,s8,rfl,_,hd⟩;symm;simp
 .obtain⟨i,_,rfl⟩:=mem_map.mp hd;exact⟨i,rfl⟩
end T
end
structure PySem.W.Fast:Prop where(tw8860008726639777449 tw4899096685658108517 tw15348446244395202045 tw4643708599470625651 tw18418199854094106918 tw16047763534671470178 tw4488566851961805802 tw11893136088570729473 tw1135425109205716014 tw8287972264894876747 tw9154796108629955318 tw2819418629309605609 tw2552162391917603040 tw9113200444914122404 tw7018438491697772116 tw13179140761922916661 tw3155123195104491031 tw11162858012464721438 tw3700603957631621155 tw3768024522148913035 tw274527120897392506 tw15147963122953279464 tw14001924471631668282 tw15241504107422871264 tw1765719362239316830 tw11932018788689963008 tw13154733523033395998 tw12865048609551542517 tw947686889287351261 tw2321277231574081128 tw1335785792489588991 tw3282951866379425540 tw1532836687682493405 tw17844380584628691783 tw18002729737561185605 tw3710582438672442881 tw1708917579315606329 tw4288368083465852320 tw6997420898149659189 tw8951317304261449896 tw14893503980557154983 tw3937867344141028201 tw9875572644518539352 tw14802612000529519197 tw10934039471047220055 tw1326928253664270048 tw17132739425830438045 tw4162334113394266742 tw7041338112388678611 tw14037044892140512553 tw13091543230135021836 tw5088214773019043859 tw16414685658064302858 tw5001101368192881182 tw16716140178312175905 tw2640970694539083055 tw17823591542616167958 tw17452111822042952377 tw1137442746058102198 tw8077949385708645319 tw11280788870343357168 tw12311377168116715439 tw4651362241338540358 tw11486510556063327329 tw15573152059107835075 tw14223559945812350930 tw5818676759451066285 tw960870810319917730 tw4058742587361070609 tw5221799118430401594 tw8651764167210939638 tw17064256642140740028 tw17449796750644818817 tw4479415167619541457 tw3493451784050184025 tw5083116404140048657 tw8161092376327874245 tw17625889996472205390 tw18239437626363333274 tw2145220882684254105 tw10891695855199334909 tw5275870322494228041 tw4205212920848104007 tw8704330823083037625 tw9188798340017130228 tw10568193786259031523 tw7458916038623035698 tw5394722255522558735 tw12283955719563596820 tw18283096103832609999 tw11711052944184640311 tw9970632427927148347 tw2968297658501031391 tw3065240054976827859 tw6588232182647150601 tw15111864819227407776 tw9759239379276576378 tw1977327435403653371 tw7542642974271289819 tw17324627284330860366 tw3384511896347240851 tw3249836781068174207 tw5390910178109457216 tw8469312186302412707 tw549275288604060002 tw8178759634039687557 tw11778706398869418238 tw7308163713437475259 tw16719762747084122769 tw11426125798497926424 tw3114820462028656641 tw4219955480574294599 tw2041466336624504663 tw12366803564222051149 tw15369828215876181536 tw603886238020049228 tw1766810397333499401 tw15126809250980853211 tw15766907498188399426 tw5455379820575108201 tw15836608415599415469 tw9007918576405362878 tw1122629352722922802 tw17858052086144294542 tw455387493191701172 tw1004199404488206222 tw11548866360611236654 tw1675516749632501656 tw10363229739038469758 tw15437652685350044195 tw13269895913109677313 tw11631863449621932465 tw11721307701815221678 tw3785598889433064661 tw8792075918624193940 tw6164517222345426673 tw12673434181355824048 tw16237388316113224321 tw13377569101503639643 tw12859475234588363730 tw3790100522367161862 tw6499426380642396758 tw14822975637009354138 tw18159915113013030062 tw2828044100790133802 tw282775002920269750 tw16731235674049620736 tw14736621826634536318 tw15876413815042513416 tw18077717978501787985 tw5898845206993996584 tw9621849727901323018 tw16614198217550278750 tw9845997994382799893 tw1753543602443485428 tw6865860488299563988 tw6344085139956037376 tw194017907455317987 tw4490381115502576820 tw1581410051191382798 tw17710730349967330391 tw10759857329868166414 tw690390915240584079 tw14156869415163924503 tw14950920922878532403 tw10716706106521706645 tw889850768543036629 tw18417771804919108879 tw11002733651311508496 tw15065339006423350868 tw16408990346365722111 tw11996619036318327513 tw14506248347830491128 tw10220126844317802191 tw18407723694885895707 tw177550625887108724 tw8176124003989256806 tw11680249344642045561 tw3283170912860523849 tw982104414670321649 tw8888651988076717299 tw2028292554220603621 tw17541815008633860785 tw2162855117830551960 tw2665237173923874741 tw97467370949767208 tw866379607014761052 tw3096395757834152377 tw12629140526706128401 tw5108148143777430242 tw1080102243306480022 tw12902377269628624136 tw14774018422314022978 tw15566374486435065944 tw11767871936517194784 tw6594730670892907096 tw7759283098654257362 tw8200094127187110886 tw9833427546920947522 tw2522930207101289761 tw1353785569855795261 tw15955858026860830604 tw16299251628989621983 tw1278811142680266505 tw6974433671773581639 tw7791168944773779854 tw16546487327965576578 tw5682137689072748081 tw3992331784677065464 tw15216450087711803346 tw6722738062256074781 tw206937446749576057 tw8466919766059651333 tw9610014215570557519 tw13289583712737587162 tw827770492077743246 tw17491035638196443987 tw15408422050825625632 tw14991408773199989174 tw7855248800011528123 tw17195257114000726539 tw11832951035578736371 tw9246984882893697950 tw6916937066944876995 tw3305901032803142128 tw4768873324196202841 tw8983443702606175712 tw13776669691288453648 tw7748926018618154102 tw14805553061569991941 tw3193217217834202339 tw15297780079369489357 tw3955678199385012734 tw15322586364368607613 tw6153462318782603156 tw6398582679920896367 tw8581281403353723628 tw15035140711510339976 tw9251136671895637168 tw15236477993423929755 tw15965474788107224178 tw2735487036207174550 tw5394586648344288613 tw17632249878920271398 tw14292749446687785914 tw13178066935920055219 tw9466803141031101197 tw422156144957721623 tw10347644116879118682 tw10952976071372859164 tw4616853997137988958 tw10200877419778067574 tw4299244294935342888 tw12974438943814016684 tw16162893558667680211 tw12785602641961588116 tw14070876502516467051 tw1351285989474336462 tw7771987651596192805 tw1386581629911653248 tw10708049120758642965 tw8913809345818042772 tw5024850129758383977 tw8148020786022706763 tw948648460601159060 tw5559329644241597013 tw16447175225878736385 tw3944899648092287319 tw4630953099626494293 tw6656840901325399829 tw7256689873118862554 tw18352187150859053380 tw15091861587761891252 tw4667220320854208353 tw1866470080853104813 tw795428190184067199 tw17980225965674350924 tw14538650790308610709 tw1466070749644297862 tw785113336062002409 tw15910785634609454562 tw14826194301434835530 tw13406235362622973331 tw11345223411000362004 tw3299382987082931150 tw9567799941872313706 tw1470843531452498287 tw6038641812095506452 tw10500459248612001464 tw7230327107423849084 tw1663640191659636561 tw9484882464219859104 tw13960784857897191296 tw2778134397711734436 tw8032934519145131872 tw15970816412140090399 tw16789100502083692217 tw14824471102598825764 tw5755636759750042685 tw16301998049208442661 tw1168938524928312816 tw7791742691741390102 tw10188973592956758127 tw15427402515999952636 tw14001789912991265550 tw8702438374289528938 tw5711403586781780456 tw8209471455767546574 tw13225136640623454628 tw6542683973792623618 tw12191596811036978792 tw1444268329718047312 tw10536649878377559938 tw16844864348772450454 tw765821373092371664 tw18045669563941020781 tw6837206869106890919 tw13157584521016227894 tw13380576200025789329 tw16937152116547452481 tw13113234506984385285 tw11927273737441921019 tw15607072391416284631 tw10933042607676818580 tw9975155894226570850 tw8800869040899453385 tw9685367237492734545 tw2887182585367493234 tw15125965626348020787 tw18284002239629908193 tw3433825058380184815 tw10166551776090112251 tw17481898748497547854 tw10207546620442347992:True)
namespace T
open PySem L2 PySem.Spec PyProof.Rows HH
theorem Yw{P:List Value → Prop}{n:Nat}(h:∀(a:Value)(b:List Value),b.length=n → P (a::b))(b:List Value)(c:b.length=n+1):P b:=by cases b with|nil=>cases c|cons a b=>exact h a b (Nat.succ.inj c)
theorem lk0{P:List Value → Prop}(h:P [])(b:List Value)(c:b.length=0):P b:=by cases b with|nil=>exact h|cons a b=>cases c
theorem zM{P:List Value → Prop}(h:∀a,P [a]):∀b:List Value,b.length=1 → P b:=Yw λa=>lk0 (h a)
theorem lM{P:List Value → Prop}(h:∀a b,P [a,b]):∀c:List Value,c.length=2 → P c:=Yw λa=>zM (h a)
theorem Eg{P:List Value → Prop}(h:∀a b c,P [a,b,c]):∀e:List Value,e.length=3 → P e:=Yw λa=>lM (h a)
theorem lk4{P:List Value → Prop}(h:∀a b c d,P [a,b,c,d]):∀e:List Value,e.length=4 → P e:=Yw λa=>Eg (h a)
theorem lk5{P:List Value → Prop}(h:∀a b c d e,P [a,b,c,d,e]):∀f:List Value,f.length=5 → P f:=Yw λa=>lk4 (h a)
local macro_rules|`(term|‹$p›)=>`(λ_ _ _ _ _ _=>$p)
structure Txt(K:PySem.W.Frag):Prop where
 D0:bY K "step_places" s0
 D1:bY K "step_hours" s1
 D2:bY K "step_room" s2
 D3:bY K "steps_hours" s3
 D4:bY K "open_steps" s4
 D5:bY K "shortest_come" s5
 D6:bY K "steps_to" s6
 D7:bY K "stream_with" s7
 D8:bY K "chains_to_end" s8
 D9:bY K "cut_to_rate" s9
 D10:bY K "bends_of" tM
 D11:bY K "least_hours" VR
 D12:bY K "found_clocks" s12
 D13:bY K "light_stream" Z1
 D14:bY K "_law_pool" s14
 D15:bY K "_law_next" s15
 D16:bY K "_law_wide" s16
 D17:bY K "_law_net" s17
 D18:bY K "_law_whole" s18
 D19:bY K "_law_bends_formed" s19
 D20:bY K "_law_most_rate" s20
 D21:bY K "_law_too_much" s21
 D22:bY K "_law_first" s22
 D23:bY K "_law_folded" s23
 D24:bY K "law" s24
 jL:PySem.W.nsIn K mainGlobals "ValueError"=some none
 yX:PySem.W.nsIn K mainGlobals "all"=some none
 Bh:PySem.W.nsIn K mainGlobals "bool"=some none
 KN:PySem.W.nsIn K mainGlobals "int"=some none
 aU:PySem.W.nsIn K mainGlobals "isinstance"=some none
 dF:PySem.W.nsIn K mainGlobals "len"=some none
 fW:PySem.W.nsIn K mainGlobals "list"=some none
 jN:PySem.W.nsIn K mainGlobals "max"=some none
 cJ:PySem.W.nsIn K mainGlobals "min"=some none
 bM:PySem.W.nsIn K mainGlobals "range"=some none
 mV:PySem.W.nsIn K mainGlobals "reversed"=some none
 tH:PySem.W.nsIn K mainGlobals "sorted"=some none
 fc:PySem.W.nsIn K mainGlobals "sum"=some none
 gP:PySem.W.nsIn K mainGlobals "tuple"=some none
 jj:∃C,dW K "BadHour" C
 kY:∃C,dW K "BadNet" C
 iD:∃C,dW K "BadTable" C
 lr:∃C,dW K "HaulError" C
 kZ:∃C,dW K "NoBack" C
 oA:∃C,dW K "NoRow" C
 lg:∃C,dW K "NoText" C
 lq:∃C,dW K "NoWalk" C
 oE:∃C,dW K "NoWay" C
 jk:∃C,dW K "TooMany" C
 aQ:∃C,dW K "TooMuch" C
 kW:∃C,uW K "HaulError" C
 lK:∃C,uW K "TooMuch" C
 pq:∃C C2,dW K "TooMuch" C/\dW K "HaulError" C2/\mroIn K C (.ref C2)=some true
 ji:∃C,dW K "TooMuch" C/\Ik K C
 fJ:∃C C2,dW K "TooMuch" C/\dW K "BadHour" C2/\kitOne K (.ref C) (.ref C2)=some false
 fY:∃C C2,dW K "TooMuch" C/\dW K "BadNet" C2/\kitOne K (.ref C) (.ref C2)=some false
 eZ:∃C C2,dW K "TooMuch" C/\dW K "BadTable" C2/\kitOne K (.ref C) (.ref C2)=some false
 fZ:∃C C2,dW K "TooMuch" C/\dW K "NoBack" C2/\kitOne K (.ref C) (.ref C2)=some false
 gD:∃C C2,dW K "TooMuch" C/\dW K "NoRow" C2/\kitOne K (.ref C) (.ref C2)=some false
 gb:∃C C2,dW K "TooMuch" C/\dW K "NoText" C2/\kitOne K (.ref C) (.ref C2)=some false
 gf:∃C C2,dW K "TooMuch" C/\dW K "NoWalk" C2/\kitOne K (.ref C) (.ref C2)=some false
 gF:∃C C2,dW K "TooMuch" C/\dW K "NoWay" C2/\kitOne K (.ref C) (.ref C2)=some false
 fK:∃C C2,dW K "TooMuch" C/\dW K "TooMany" C2/\kitOne K (.ref C) (.ref C2)=some false
 fL:∃C C2,dW K "TooMuch" C/\dW K "TooMuch" C2/\kitOne K (.ref C) (.ref C2)=some true
 dG:∃C,dW K "TooMuch" C/\kitOne K (.ref C) (.type "ValueError")=some true
noncomputable def mF{K:PySem.W.Frag}(T:Txt K):Nat->Addr:=λk=>if k=8 then T.jj.choose else if k=1 then T.kY.choose else if k=2 then T.iD.choose else if k=0 then T.lr.choose else if k=10 then T.kZ.choose else if k=9 then T.oA.choose else if k=3 then T.lg.choose else if k=6 then T.lq.choose else if k=5 then T.oE.choose else if k=4 then T.jk.choose else if k=7 then T.aQ.choose else 0
structure Oks(Pg:Program)(w:World)(K:PySem.W.Frag)(mg:Str->Option Value)(base:Heap)(cl:Nat->Addr)(n:Nat):Prop where
 c0:bA Pg w K mg base n (run Γ 100000000 n) 0 "step_places" 2
 c1:bA Pg w K mg base n (run Γ 100000000 n) 1 "step_hours" 2
 c2:bA Pg w K mg base n (run Γ 100000000 n) 2 "step_room" 3
 c3:bA Pg w K mg base n (run Γ 100000000 n) 3 "steps_hours" 2
 c4:bA Pg w K mg base n (run Γ 100000000 n) 4 "open_steps" 2
 c5:bA Pg w K mg base n (run Γ 100000000 n) 5 "shortest_come" 3
 c6:bA Pg w K mg base n (run Γ 100000000 n) 6 "steps_to" 3
 c7:bA Pg w K mg base n (run Γ 100000000 n) 7 "stream_with" 3
 c8:bA Pg w K mg base n (run Γ 100000000 n) 8 "chains_to_end" 1
 c9:bA Pg w K mg base n (run Γ 100000000 n) 9 "cut_to_rate" 2
 Xo:bA Pg w K mg base n (run Γ 100000000 n) 10 "bends_of" 1
 c11:bA Pg w K mg base n (run Γ 100000000 n) 11 "least_hours" 2
 c12:bA Pg w K mg base n (run Γ 100000000 n) 12 "found_clocks" 2
 c13:bA Pg w K mg base n (run Γ 100000000 n) 13 "light_stream" 2
 c14:bA Pg w K mg base n (run Γ 100000000 n) 14 "_law_pool" 1
 Xp:bA Pg w K mg base n (run Γ 100000000 n) 15 "_law_next" 2
 c16:bA Pg w K mg base n (run Γ 100000000 n) 16 "_law_wide" 2
 c17:bA Pg w K mg base n (run Γ 100000000 n) 17 "_law_net" 2
 c18:bA Pg w K mg base n (run Γ 100000000 n) 18 "_law_whole" 1
 c19:bA Pg w K mg base n (run Γ 100000000 n) 19 "_law_bends_formed" 1
 c20:bA Pg w K mg base n (run Γ 100000000 n) 20 "_law_most_rate" 1
 c21:bA Pg w K mg base n (run Γ 100000000 n) 21 "_law_too_much" 3
 c22:bA Pg w K mg base n (run Γ 100000000 n) 22 "_law_first" 2
 c23:bA Pg w K mg base n (run Γ 100000000 n) 23 "_law_folded" 2
 c24:bA Pg w K mg base n (run Γ 100000000 n) 24 "law" 1
 x7:iI Pg w K mg base cl n (run Γ 100000000 n) 7 "stream_with" 3
 x9:iI Pg w K mg base cl n (run Γ 100000000 n) 9 "cut_to_rate" 2
 x11:iI Pg w K mg base cl n (run Γ 100000000 n) 11 "least_hours" 2
 x13:iI Pg w K mg base cl n (run Γ 100000000 n) 13 "light_stream" 2
set_option maxHeartbeats 0 in
theorem Jf{Pg:Program}{w:World}{K:PySem.W.Frag}{mg:Str->Option Value}{base:Heap}(T:Txt K)(X:K.In base)(G:base.Ns mainGlobals mg):∀n,Oks Pg w K mg base (mF T) n
 |0=>{
   c0:=cV (ps:=["net","step"]) X G T.D0 rfl ‹lM λ_ _=>rfl›
   c1:=cV (ps:=["net","step"]) X G T.D1 rfl ‹lM λ_ _=>rfl›
   c2:=cV (ps:=["net","stream","step"]) X G T.D2 rfl ‹Eg λ_ _ _=>rfl›
   c3:=cV (ps:=["net","steps"]) X G T.D3 rfl ‹lM λ_ _=>rfl›
   c4:=cV (ps:=["net","stream"]) X G T.D4 rfl ‹lM λ_ _=>rfl›
   c5:=cV (ps:=["net","stream","begun"]) X G T.D5 rfl ‹Eg λ_ _ _=>rfl›
   c6:=cV (ps:=["net","come","place"]) X G T.D6 rfl ‹Eg λ_ _ _=>rfl›
   c7:=cV (ps:=["stream","steps","loads"]) X G T.D7 rfl ‹Eg λ_ _ _=>rfl›
   c8:=cV (ps:=["net"]) X G T.D8 rfl ‹zM λ_=>rfl›
   c9:=cV (ps:=["pairs","rate"]) X G T.D9 rfl ‹lM λ_ _=>rfl›
   Xo:=cV (ps:=["net"]) X G T.D10 rfl ‹zM λ_=>rfl›
   c11:=cV (ps:=["net","rate"]) X G T.D11 rfl ‹lM λ_ _=>rfl›
   c12:=cV (ps:=["net","stream"]) X G T.D12 rfl ‹lM λ_ _=>rfl›
   c13:=cV (ps:=["net","rate"]) X G T.D13 rfl ‹lM λ_ _=>rfl›
   c14:=cV (ps:=["cell"]) X G T.D14 rfl ‹zM λ_=>rfl›
   Xp:=cV (ps:=["pool","base"]) X G T.D15 rfl ‹lM λ_ _=>rfl›
   c16:=cV (ps:=["pool","base"]) X G T.D16 rfl ‹lM λ_ _=>rfl›
   c17:=cV (ps:=["pool","most"]) X G T.D17 rfl ‹lM λ_ _=>rfl›
   c18:=cV (ps:=["found"]) X G T.D18 rfl ‹zM λ_=>rfl›
   c19:=cV (ps:=["bends"]) X G T.D19 rfl ‹zM λ_=>rfl›
   c20:=cV (ps:=["net"]) X G T.D20 rfl ‹zM λ_=>rfl›
   c21:=cV (ps:=["net","rate","way"]) X G T.D21 rfl ‹Eg λ_ _ _=>rfl›
   c22:=cV (ps:=["bends","rate"]) X G T.D22 rfl ‹lM λ_ _=>rfl›
   c23:=cV (ps:=["script","most"]) X G T.D23 rfl ‹lM λ_ _=>rfl›
   c24:=cV (ps:=["script"]) X G T.D24 rfl ‹zM λ_=>rfl›
   x7:=vR (ps:=["stream","steps","loads"]) X G T.D7 rfl ‹Eg λ_ _ _=>rfl›
   x9:=vR (ps:=["pairs","rate"]) X G T.D9 rfl ‹lM λ_ _=>rfl›
   x11:=vR (ps:=["net","rate"]) X G T.D11 rfl ‹lM λ_ _=>rfl›
   x13:=vR (ps:=["net","rate"]) X G T.D13 rfl ‹lM λ_ _=>rfl›}|n+1=>have a:=Jf (Pg:=Pg) (w:=w) (base:=base) T X G n
   {c0:=cU (ps:=["net","step"]) X G T.D0 rfl rfl ‹lM λ_ _=>rfl› λ_ _ F=>d0 (cl:=mF T) F
    c1:=cU (ps:=["net","step"]) X G T.D1 rfl rfl ‹lM λ_ _=>rfl› λ_ _ F=>d1 (cl:=mF T) F
    c2:=cU (ps:=["net","stream","step"]) X G T.D2 rfl rfl ‹Eg λ_ _ _=>rfl› λ_ _ F=>d2 (cl:=mF T) F
    c3:=cU (ps:=["net","steps"]) X G T.D3 rfl rfl ‹lM λ_ _=>rfl› λ_ _ F=>d3 (cl:=mF T) F (mg_none_of X G T.fc) a.c1
    c4:=cU (ps:=["net","stream"]) X G T.D4 rfl rfl ‹lM λ_ _=>rfl› λ_ _ F=>d4 (cl:=mF T) F (mg_none_of X G T.dF) (mg_none_of X G T.bM) a.c0 a.c2
    c5:=cU (ps:=["net","stream","begun"]) X G T.D5 rfl rfl ‹Eg λ_ _ _=>rfl› λ_ _ F=>d5 (cl:=mF T) F (mg_none_of X G T.dF) (mg_none_of X G T.fW) a.c4 a.c1 a.c0
    c6:=cU (ps:=["net","come","place"]) X G T.D6 rfl rfl ‹Eg λ_ _ _=>rfl› λ_ _ F=>d6 (cl:=mF T) F (mg_none_of X G T.mV) (mg_none_of X G T.gP) a.c0
    c7:=cU (ps:=["stream","steps","loads"]) X G T.D7 rfl rfl ‹Eg λ_ _ _=>rfl› λ_ _ F=>d7 (cl:=mF T) F (mg_none_of X G T.fW)
    c8:=cU (ps:=["net"]) X G T.D8 rfl rfl ‹zM λ_=>rfl› λ_ _ F=>d8 (cl:=mF T) F (mg_none_of X G T.dF) (mg_none_of X G T.cJ) a.c5 a.c2 a.c6 a.c7
    c9:=cU (ps:=["pairs","rate"]) X G T.D9 rfl rfl ‹lM λ_ _=>rfl› λ_ _ F=>d9 (cl:=mF T) F (mg_none_of X G T.cJ)
    Xo:=cU (ps:=["net"]) X G T.D10 rfl rfl ‹zM λ_=>rfl› λ_ _ F=>d10 (cl:=mF T) F (mg_none_of X G T.tH) a.c8 a.c3
    c11:=cU (ps:=["net","rate"]) X G T.D11 rfl rfl ‹lM λ_ _=>rfl› λ_ _ F=>d11 (cl:=mF T) F (mg_none_of X G T.fc) a.Xo a.c9
    c12:=cU (ps:=["net","stream"]) X G T.D12 rfl rfl ‹lM λ_ _=>rfl› λ_ _ F=>d12 (cl:=mF T) F (mg_none_of X G T.bM) (mg_none_of X G T.fc) a.c5
    c13:=cU (ps:=["net","rate"]) X G T.D13 rfl rfl ‹lM λ_ _=>rfl› λ_ _ F=>d13 (cl:=mF T) F (mg_none_of X G T.dF) a.c8 a.c9 a.c12 a.c7
    c14:=cU (ps:=["cell"]) X G T.D14 rfl rfl ‹zM λ_=>rfl› λ_ _ F=>d14 (cl:=mF T) F (mg_none_of X G T.jN)
    Xp:=cU (ps:=["pool","base"]) X G T.D15 rfl rfl ‹lM λ_ _=>rfl› λ_ _ F=>d15 (cl:=mF T) F
    c16:=cU (ps:=["pool","base"]) X G T.D16 rfl rfl ‹lM λ_ _=>rfl› λ_ _ F=>d16 (cl:=mF T) F a.Xp
    c17:=cU (ps:=["pool","most"]) X G T.D17 rfl rfl ‹lM λ_ _=>rfl› λ_ _ F=>d17 (cl:=mF T) F (mg_none_of X G T.jN) (mg_none_of X G T.cJ) (mg_none_of X G T.bM) (mg_none_of X G T.gP) a.Xp a.c16
    c18:=cU (ps:=["found"]) X G T.D18 rfl rfl ‹zM λ_=>rfl› λ_ _ F=>d18 (cl:=mF T) F (mg_none_of X G T.Bh) (mg_none_of X G T.KN) (mg_none_of X G T.aU)
    c19:=cU (ps:=["bends"]) X G T.D19 rfl rfl ‹zM λ_=>rfl› λ_ _ F=>d19 (cl:=mF T) F (mg_none_of X G T.yX) (mg_none_of X G T.aU) (mg_none_of X G T.dF) (mg_none_of X G T.fW) (mg_none_of X G T.bM) (mg_none_of X G T.gP) a.c18
    c20:=cU (ps:=["net"]) X G T.D20 rfl rfl ‹zM λ_=>rfl› λ_ _ F=>d20 (cl:=mF T) F (mg_none_of X G T.cJ) (mg_none_of X G T.bM) (mg_none_of X G T.fc)
    c21:=cU (ps:=["net","rate","way"]) X G T.D21 rfl rfl ‹Eg λ_ _ _=>rfl› λ_ _ F=>d21 (cl:=mF T) F (mg_none_of X G T.jL) (mg_none_of X G T.aU) a.c11 a.c13 (vo X G (Rm T.kW T.lr.choose_spec)) a.x11 a.x13 (wL X (vo X G (Rm T.lK T.aQ.choose_spec)) (adS T.pq T.aQ.choose_spec T.lr.choose_spec)) (adB T.ji T.aQ.choose_spec) (mg_of X G T.jj.choose_spec) (mg_of X G T.kY.choose_spec) (mg_of X G T.iD.choose_spec) (mg_of X G T.kZ.choose_spec) (mg_of X G T.oA.choose_spec) (mg_of X G T.lg.choose_spec) (mg_of X G T.lq.choose_spec) (mg_of X G T.oE.choose_spec) (mg_of X G T.jk.choose_spec) (mg_of X G T.aQ.choose_spec) (uc T.fJ T.aQ.choose_spec T.jj.choose_spec) (uc T.fY T.aQ.choose_spec T.kY.choose_spec) (uc T.eZ T.aQ.choose_spec T.iD.choose_spec) (uc T.fZ T.aQ.choose_spec T.kZ.choose_spec) (uc T.gD T.aQ.choose_spec T.oA.choose_spec) (uc T.gb T.aQ.choose_spec T.lg.choose_spec) (uc T.gf T.aQ.choose_spec T.lq.choose_spec) (uc T.gF T.aQ.choose_spec T.oE.choose_spec) (uc T.fK T.aQ.choose_spec T.jk.choose_spec) (uc T.fL T.aQ.choose_spec T.aQ.choose_spec) (aea T.dG T.aQ.choose_spec)
    c22:=cU (ps:=["bends","rate"]) X G T.D22 rfl rfl ‹lM λ_ _=>rfl› λ_ _ F=>d22 (cl:=mF T) F (mg_none_of X G T.jN) (mg_none_of X G T.cJ)
    c23:=cU (ps:=["script","most"]) X G T.D23 rfl rfl ‹lM λ_ _=>rfl› λ_ _ F=>d23 (cl:=mF T) F (mg_none_of X G T.dF) (mg_none_of X G T.jN) (mg_none_of X G T.cJ) (mg_none_of X G T.bM)
    c24:=cU (ps:=["script"]) X G T.D24 rfl rfl ‹zM λ_=>rfl› λ_ _ F=>d24 (cl:=mF T) F (mg_none_of X G T.cJ) (mg_none_of X G T.fc) a.c19 a.c22 a.c23 a.c20 a.c17 a.Xp a.c14 a.c21 a.c18 a.c16 a.Xo a.c11
    x7:=wI (ps:=["stream","steps","loads"]) X G T.D7 rfl rfl ‹Eg λ_ _ _=>rfl› λ_ _ F=>dx7 (cl:=mF T) F (mg_none_of X G T.fW)
    x9:=wI (ps:=["pairs","rate"]) X G T.D9 rfl rfl ‹lM λ_ _=>rfl› λ_ _ F=>dx9 (cl:=mF T) F (mg_none_of X G T.cJ) (vo X G (Rm T.lK T.aQ.choose_spec))
    x11:=wI (ps:=["net","rate"]) X G T.D11 rfl rfl ‹lM λ_ _=>rfl› λ_ _ F=>aej (cl:=mF T) F (mg_none_of X G T.fc) a.Xo a.c9 a.x9
    x13:=wI (ps:=["net","rate"]) X G T.D13 rfl rfl ‹lM λ_ _=>rfl› λ_ _ F=>adt (cl:=mF T) F (mg_none_of X G T.dF) a.c8 a.c9 a.c12 a.c7 a.x9 a.x7}
set_option maxHeartbeats 0 in
theorem Tn{Pg:Program}{w:World}{K:PySem.W.Frag}{mg:Str->Option Value}{h:Heap}{i:Addr}(T:Txt K)(X:K.In h)(G:h.Ns mainGlobals mg)(g:mg "law"=some (.ref i)):∃fd:FuncData,(∀(s:Shared)(u:Value),BindsTo s fd ⟨[u],[]⟩ [("script",u)])/\∀base:Heap,K.In base->base.Ns mainGlobals mg->jh Pg w K mg base JB 40 i fd ["script"] (Mu K 1 (run Γ 100000000 40 24)):=by
 obtain⟨f,fd,a,F⟩:=T.D24.ex;have e:=g.symm.trans (mg_of X G a);cases e;refine⟨fd,λs u=>?_,λbase j l=>?_⟩;.obtain⟨oc,od,kV,m,q,r,cdv,ct,o,rfl,lk,p⟩:=F.ex;exact .of_eq rfl
 .have b:=Jf (Pg:=Pg) (w:=w) (base:=base) T j l 39;exact d24 (cl:=mF T) (k:=39) (n:=100000000) (c:=run Γ 100000000 39) F (mg_none_of X G T.cJ) (mg_none_of X G T.fc) b.c19 b.c22 b.c23 b.c20 b.c17 b.Xp b.c14 b.c21 b.c18 b.c16 b.Xo b.c11
end T
open PySem PySem.W PyProof.Rows
set_option maxRecDepth 100000 in
set_option maxHeartbeats 0 in
theorem PySem.Challenge.cw_hourhaul_k30_bends_and_sides_holds : PySem.Challenge.rw_hourhaul_k30_bends_and_sides.Holds := by
 w_on;o_law;k_head;(case hw=>w_witness2);k_fill;refine L2.Km (l:=PySem.Challenge.rw_hourhaul_k30_bends_and_sides) (n:=63) (k:=40) (x:="script") (CX:=L2.JB) (sp:=λK=>HH.Mu K 1 (HH.run T.Γ 100000000 40 24)) rfl (by decide) rfl ⟨rfl,by decide,by decide⟩ (λw h Y=>PySem.W.kIn_of Y) ?F ?S ?C;case F=>
  intro w mg q h j G i;refine T.Tn ?T j G i;constructor;iterate 25(· refine' HH.Uy ?a ?l ?c ?k;case a|l|c|k=>k_is)
  iterate 14(· k_is)
  . (refine' HH.rT ?a);(case a=>k_is)
  . (refine' HH.rT ?a);(case a=>k_is)
  . (refine' HH.rT ?a);(case a=>k_is)
  . (refine' HH.rT ?a);(case a=>k_is)
  . (refine' HH.rT ?a);(case a=>k_is)
  . (refine' HH.rT ?a);(case a=>k_is)
  . (refine' HH.rT ?a);(case a=>k_is)
  . (refine' HH.rT ?a);(case a=>k_is)
  . (refine' HH.rT ?a);(case a=>k_is)
  . (refine' HH.rT ?a);(case a=>k_is)
  . (refine' HH.rT ?a);(case a=>k_is)
  . (refine' HH.GF ?ca ?cq);(case ca=>k_is);(case cq=>k_exc)
  . (refine' HH.GF ?ca ?cq);(case ca=>k_is);(case cq=>k_exc)
  . (refine' HH.acs ?a ?c ?m);(case a=>k_is);(case c=>k_is);(case m=>k_is)
  . (refine' HH.adC ?a ?g ?h ?b ?f ?n ?t ?m);(case a=>k_is);(case g=>k_is);(case h=>k_is);(case b=>k_is);(case f=>k_is);(case n=>k_is);(case t=>k_is);(case m=>k_is)
  . (refine' HH.tZ ?a ?c ?m);(case a=>k_is);(case c=>k_is);(case m=>kit_is)
  . (refine' HH.tZ ?a ?c ?m);(case a=>k_is);(case c=>k_is);(case m=>kit_is)
  . (refine' HH.tZ ?a ?c ?m);(case a=>k_is);(case c=>k_is);(case m=>kit_is)
  . (refine' HH.tZ ?a ?c ?m);(case a=>k_is);(case c=>k_is);(case m=>kit_is)
  . (refine' HH.tZ ?a ?c ?m);(case a=>k_is);(case c=>k_is);(case m=>kit_is)
  . (refine' HH.tZ ?a ?c ?m);(case a=>k_is);(case c=>k_is);(case m=>kit_is)
  . (refine' HH.tZ ?a ?c ?m);(case a=>k_is);(case c=>k_is);(case m=>kit_is)
  . (refine' HH.tZ ?a ?c ?m);(case a=>k_is);(case c=>k_is);(case m=>kit_is)
  . (refine' HH.tZ ?a ?c ?m);(case a=>k_is);(case c=>k_is);(case m=>kit_is)
  . (refine' HH.tZ ?a ?c ?m);(case a=>k_is);(case c=>k_is);(case m=>kit_is)
  . (refine' HH.adp ?a ?m);(case a=>k_is);(case m=>kit_is)
 case S=>intro K H a ns o r p;obtain⟨as,e⟩:=T.My ns o;exact HH.Fx p e
 case C=>exact λH s e u z=>z
