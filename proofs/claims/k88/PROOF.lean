import PyProof.Rows.All
import Wide.All
import OpenK.AllK
import Wide.FinOn
import Lean
import PyProof.EqAt
import PyProof.EqKinds
import PyProof.TupleCall
import PySem.Str
import PySem.Builtin.Int.W1All
import PyProof.NeKinds
import PyProof.ZipIter
import PyProof.SumWalkG
import PyProof.MinMaxWalk
import PyProof.WalksMore
import PyProof.SeqI3
import PyProof.WalkInts
import PyProof.Rows.CallKwBuiltin
import PyProof.Rows.Tup
import PyProof.CollectIter
import PyProof.EnumMake
import PyProof.TupleOfSeq
import PyProof.ListNew
import PyProof.ReprLoop
import PyProof.StationsW
import PyProof.ExcClass3
import PyProof.Rows.CatchBare
import OpenK.KOwn
import KE.KIsAll
import PyProof.NsDelKeeps
import PyProof.RulesAs
import PyProof.ExcArgsOwn
import PyProof.ListRange
import KE.RegKIsAll
import KE.KRevIter
import PyProof.Rows.SortRuns
import KE.KSortTup
import PyProof.DictWalks
import KE.KDictList
import KE.KItemsList
import PyProof.ExcBaseAll.ValueError
import PySem.Challenge.RW_hourhaul_k88_whole_no_lanes_bring_more
set_option Elab.async false
set_option linter.all false
set_option maxRecDepth 100000
set_option genSizeOf false
set_option compiler.extract_closed false
set_option bootstrap.genMatcherCode false
open List(replicate getElem?_set_ne mem_map map_cons mem_cons getElem?_set_self size_toArray map_map length_map mem_of_getElem? getElem?_append_left length_append length_cons mem_singleton mem_cons_of_mem mem_append nodup_cons getElem?_map all_eq_true append_nil append_assoc lookup_cons find?_cons getElem?_append_right map_append mem_append_right getElem?_eq_getElem of_mem_zip map_nil getElem?_cons_succ getElem_of_mem mem_cons_self replicate_succ getElem_mem not_mem_nil mem_range filterMap_cons foldl any_cons cons_append map_congr_left length_range length_take drop_eq_getElem_cons nodup_append contains_iff_mem mem_filter reverse_cons flatten_cons foldl_cons nil_append drop_eq_nil_iff ext_getElem all_cons map getElem?_set any_eq_true sum_cons forIn_cons forIn_nil length_nil map_set)
open PySem.W(mg_none_of mg_of keepIn methodObj kitx_dict)
open PySem.Heap(get?_push_of_some lt_size get?_push_size size_push get?_update_other SameBut)
open Nat(le_refl ne_of_lt lt_of_lt_of_le zero_le le_trans lt_irrefl le_of_lt ne_of_gt le_succ)
open PySem.Builtin.Tuple(tupleExact tupleItemsOf)
open Option(map_eq_some_iff bind_some isSome_map getD_none)
open Bool(and_eq_true false_eq_true or_eq_true not_eq_true')
open PySem.Builtin.Slice(slicePlaces sliceAdjust sliceApplied)
open PySem.Builtin.List(listTooLong listExtendWith listLengthHint listSameRef)
open Array(length_toList toList)
open PySem.F(slot_tuple_add entry_tuple_add args_tuple_add_2 slot_tuple_mul plainAttrs_list slot_dict_get)
open PySem.SeqAt.EqAt(int_str str_int)
open PySem.SeqAt.RcAt(lists_lengths)
open Int(mul_one sub_zero mul_comm mul_add mul_neg)
open PySem.SeqAt.RcNeAt(none_int none_str bool_int bool_str int_none int_bool int_int int_list str_none str_bool str_str str_list list_int list_str)
theorem dG{h:PySem.Heap}{o b:PySem.Obj}{a:PySem.Addr}(e:h.get? a=some o):(h.push b).get? a=some o:=PySem.Heap.get?_push_of_some _ e
theorem dB{b:Type}{l:List b}{i:Nat}{a:b}(h:l[i]?=some a):∃h:i<l.length,l[i]=a:=List.getElem?_eq_some_iff.mp h
theorem fH{b:Type}{l:List b}{i j:Nat}{a:b}(h:j≠i):(l.set i a)[j]?=l[j]?:=List.getElem?_set_ne (Ne.symm h)
theorem vf{n:Nat}:0<=n:=Nat.zero_le n
theorem dz{n:Nat}:n<=n:=Nat.le_refl n
section
namespace L2
open PySem PySem.Spec PyProof.Rows
variable{w:World}{h:Heap}{t' i:Nat}{M:Model}{A:Around}{s:Shared}{pos:Pos}{pins:List (Addr×Obj)}{op:CmpOp}{K:PySem.W.Frag}{tg:Expr}{us:List Value}
noncomputable abbrev Key:=Sum Int Str
noncomputable def oZ:Key->Value->Bool|.inl k,v=>Value.isInt k v|.inr x,v=>Value.isStrOf x v
noncomputable def ad3(w:World):Key->Int|.inl k=>hashInt k|.inr x=>hashStr w x
theorem bI:∀{k:Key}{v:Value},oZ k v=true->(∃i t,k=Sum.inl i/\v=Value.int i t)\/(∃x t,k=Sum.inr x/\v=Value.str x t)|.inl i,v,h=>by obtain⟨t,e⟩:=Value.isInt_shape (k:=i) (v:=v) h;exact .inl ⟨i,t,rfl,e⟩|.inr x,v,h=>by obtain⟨t,e⟩:=Value.isStrOf_shape (x:=x) (v:=v) h;exact .inr ⟨x,t,rfl,e⟩
theorem DG(i:Int)(t:Tok):oZ (.inl i) (.int i t)=true:=by simp[oZ,Value.isInt]
theorem Dn(x:Str)(t:Tok):oZ (.inr x) (.str x t)=true:=by simp[oZ,Value.isStrOf]
theorem UG(a b:Int):decide ((Sum.inl a:Key)=Sum.inl b)=(a==b):=by
 by_cases e:a=b;.subst e;simp
 .have h:¬(Sum.inl a:Key)=Sum.inl b:=fun q=>e (Sum.inl.inj q);rw[decide_eq_false h];exact(beq_eq_false_iff_ne.mpr e).symm
theorem QW(a b:Str):decide ((Sum.inr a:Key)=Sum.inr b)=decide (a=b):=by
 by_cases e:a=b;.subst e;simp
 .have h:¬(Sum.inr a:Key)=Sum.inr b:=fun q=>e (Sum.inr.inj q);rw[decide_eq_false h,decide_eq_false e]
theorem Vb(a:Int)(b:Str):decide ((Sum.inl a:Key)=Sum.inr b)=false:=decide_eq_false (fun q=>nomatch q)
theorem Rx(a:Str)(b:Int):decide ((Sum.inr a:Key)=Sum.inl b)=false:=decide_eq_false (fun q=>nomatch q)
noncomputable def bh(prog:Program)(w:World):PySem.KeyKind prog w Key where
 is:=oZ;hash:=ad3 w;inj:=fun v a b g f=>by
  rcases bI g with⟨i,t,rfl,rfl⟩|⟨x,t,rfl,rfl⟩
  . rcases bI f with⟨j,u,rfl,e⟩|⟨y,u,rfl,e⟩;.injection e with e1 _;rw[e1]
    .exact nomatch e
  . rcases bI f with⟨j,u,rfl,e⟩|⟨y,u,rfl,e⟩;.exact nomatch e
    .injection e with e1 _;rw[e1]
 byValue:=fun k v h=>by rcases bI h with⟨i,t,rfl,rfl⟩|⟨x,t,rfl,rfl⟩<;>rfl
 pyHash:=fun c h=>by
  rcases bI c with⟨i,t,rfl,rfl⟩|⟨x,t,rfl,rfl⟩;.exact wpAny_pyHash_int h
  .exact wpAny_pyHash_str h
 eqBool:=fun l c h=>by
  rcases bI l with⟨i,t,rfl,rfl⟩|⟨x,t,rfl,rfl⟩
  . rcases bI c with⟨j,u,rfl,rfl⟩|⟨y,u,rfl,rfl⟩;.rw[UG]at h;exact wpAny_eqBool_int h
    .rw[Vb]at h;exact int_str i t y u _ _ _ _ h
  . rcases bI c with⟨j,u,rfl,rfl⟩|⟨y,u,rfl,rfl⟩;.rw[Rx]at h;exact str_int x t j u _ _ _ _ h
    .rw[QW]at h;exact wpAny_eqBool_str h
 «strs»:=fun k x t v h=>by
  rcases bI h with⟨i,u,rfl,e⟩|⟨y,u,rfl,e⟩;.exact nomatch e
  .injection e with e1 _;subst e1;cases v<;>rfl
theorem wR(prog:Program)(w:World)(i:Int)(t:Tok):(bh prog w).is (.inl i) (.int i t)=true:=DG i t
theorem xQ(prog:Program)(w:World)(x:Str)(t:Tok):(bh prog w).is (.inr x) (.str x t)=true:=Dn x t
inductive V where|non|bl(b:Bool)|int(i:Int)|str(x:Str)|byt(b:Array UInt8)|flt(b:UInt64)|ref(a:Addr)|ty(n:String)deriving DecidableEq
def RelV:V->Value->Prop|.non,u=>u=Value.none|.bl b,u=>u=Value.bool b|.int i,u=>∃t,u=Value.int i t|.str x,u=>∃t,u=Value.str x t|.byt b,u=>∃t,u=Value.bytes b t|.flt b,u=>∃t,u=Value.float b t|.ref a,u=>u=Value.ref a|.ty n,u=>u=Value.type n
abbrev Vals:List V->List Value->Prop:=Paired RelV
theorem Vals.length{xs:List V}{us:List Value}(r:Vals xs us):xs.length=us.length:=Paired.length r
theorem Vals.get:∀{xs:List V}{us:List Value}{i:Nat}{x:V},Vals xs us->xs[i]?=some x->∃u,us[i]?=some u/\RelV x u|_,_,_,_,.nil,e=>by simp at e|_,_,0,_,.cons r _,e=>by simp at e;subst e;exact⟨_,rfl,r⟩|_,_,i+1,x,.cons _ t,e=>by obtain⟨u,h1,a⟩:=Vals.get (i:=i) (x:=x) t (by simpa using e);exact⟨u,by simpa using h1,a⟩
theorem Vals.set{x:V}{u:Value}(r:RelV x u):∀{xs:List V}{us:List Value}(i:Nat),Vals xs us->Vals (xs.set i x) (us.set i u)|_,_,_,.nil=>.nil|_,_,0,.cons _ t=>.cons r t|_,_,i+1,.cons q t=>.cons q (Vals.set r i t)
theorem Vals.append:∀{xs ys:List V}{us ws:List Value},Vals xs us->Vals ys ws->Vals (xs++ys) (us++ws)|_,_,_,_,.nil,s=>s|_,_,_,_,.cons r t,s=>.cons r (Vals.append t s)
theorem Vals.take:∀{xs:List V}{us:List Value}(n:Nat),Vals xs us->Vals (xs.take n) (us.take n)|_,_,0,_=>.nil|_,_,_+1,.nil=>.nil|_,_,n+1,.cons r t=>.cons r (Vals.take n t)
theorem Vals.drop:∀{xs:List V}{us:List Value}(n:Nat),Vals xs us->Vals (xs.drop n) (us.drop n)|_,_,0,r=>r|_,_,_+1,.nil=>.nil|_,_,n+1,.cons _ t=>Vals.drop n t
def pD:Option V->Option Value->Prop|some v,some u=>RelV v u|none,none=>True|_,_=>False
def KV{κ:Type}:List (κ×V)->List (κ×Value)->Prop:=Paired fun(p:κ×V)(q:κ×Value)=>p.1=q.1/\RelV p.2 q.2
noncomputable def kV:Key->V|.inl i=>.int i|.inr x=>.str x
inductive HO where|lst(xs:List V)|tup(xs:List V)|dK(kvs:List (Key×V))|dT(kvs:List (List Key×V))|set(S:Int->Bool)(n:Nat)|ins(C dx:Addr)(fs:List (Str×V))|own(x:Addr)|xd(fs:List (Str×V))|met(f x:Addr)|rW(lo hi:Int)|dj(o:Obj)(u:HO)|Ve(ps:Array Value)|ext(φ:Heap->Prop)
noncomputable abbrev Hp:=Addr->Option HO
variable{H:Hp}
noncomputable def upd(H:Hp)(a:Addr)(o:HO):Hp:=fun b=>if b=a then some o else H b
theorem aO{a:Addr}{o:HO}:upd H a o a=some o:=by unfold upd;rw[if_pos rfl]
theorem aD{a b:Addr}{o:HO}(h:b≠a):upd H a o b=H b:=by unfold upd;rw[if_neg h]
theorem uF{a:Addr}{o u:HO}:upd (upd H a o) a u=upd H a u:=by funext b;unfold upd;split<;>rfl
theorem Yq{a b:Addr}{o u:HO}(h:H a=some o)(h':H b=some u)(d:o≠u):a≠b:=by intro e;subst e;rw[h]at h';exact d (Option.some.inj h')
theorem gF{a b:Addr}{o:HO}(h:H a=some o)(h':H b=none):a≠b:=by intro e;subst e;rw[h]at h';cases h'
section
variable(P:Program)(w:World)
def bJ(H:Hp)(h:Heap)(a:Addr):HO->Prop|.lst xs=>xs.length<=sizeLine/\∃(b:List Value)(n:Nat),Vals xs b/\h.get? a=some {cls:=.type "list",data:=.seq b.toArray n}|.tup xs=>xs.length<=sizeLine/\∃b:List Value,Vals xs b/\IsTup h a b.toArray|.dK kvs=>kvs.length<=sizeLine/\(a==sysModules)=false/\∃vs,KV kvs vs/\h.DictOf (bh P w) a vs|.dT kvs=>kvs.length<=sizeLine/\(a==sysModules)=false/\∃xs:List (List Key×Addr×Value),Paired (fun(p:List Key×V)(q:List Key×Addr×Value)=>p.1=q.1/\H q.2.1=some (.tup (p.1.map kV))/\RelV p.2 q.2.2) kvs xs/\∃o es ep,h.get? a=some o/\o.ExactDict/\o.data=.dict es ep/\es.toList=xs.map (entryOfKey (tupleKind (bh P w)))/\(xs.map (·.1)).Nodup|.set S n=>h.SetOf (intKind P w) a S n|.ins C e fs=>H e=some (.own a)/\fs.length<=1000/\e≠a/\h.get? a=some (PySem.W.instObj C e)/\∃c,h.Ns1 e c/\(∀f,pD (fs.lookup f) (c f))/\PySem.Within c (fs.map (·.1))|.own _=>∃o,h.get? a=some o|.xd fs=>∃c,h.Ns1 a c/\∀f,pD (fs.lookup f) (c f)|.rW lo hi=>∃t u v,h.get? a=some {cls:=.type "range",data:=.fields #[.int lo t,.int hi u,.int 1 v]}|.dj o u=>h.get? a=some o/\bJ H h a u|.Ve ps=>h.get? a=some {cls:=.none,data:=.fields ps}|.met f x=>h.get? a=some (methodObj (.ref f) (.ref x))|.ext g=>g h/\(∃o,h.get? a=some o)/\∀h1 j:Heap,g h1->(∀o,h1.get? a=some o->j.get? a=some o)->g j
def m7(H:Hp)(h:Heap):Prop:=∀a o,H a=some o->bJ P w H h a o
end
section
variable{P:Program}{w:World}{H H':Hp}{h h':Heap}{a:Addr}{o:HO}
theorem bJ.lt(x:bJ P w H h a o):a<h.objs.size:=by cases o with|lst xs=>obtain⟨_,_,_,_,e⟩:=x;exact lt_size e|tup xs=>obtain⟨_,_,_,p⟩:=x;exact p.lt|dK kvs=>obtain⟨_,_,_,_,o,_,_,e,_⟩:=x;exact lt_size e|dT kvs=>obtain⟨_,_,_,_,o,_,_,e,_⟩:=x;exact lt_size e|set S n=>obtain⟨o,_,_,_,e,_⟩:=x;exact lt_size e|ins C b fs=>obtain⟨_,_,_,e,_⟩:=x;exact lt_size e|own y=>obtain⟨_,e⟩:=x;exact lt_size e|xd fs=>obtain⟨_,⟨_,_,_,e,_⟩,_⟩:=x;exact lt_size e|rW lo hi=>obtain⟨_,_,_,e⟩:=x;exact lt_size e|dj c u=>obtain⟨e,_⟩:=x;exact lt_size e|Ve ps=>exact lt_size (show h.get? a=some _ from x)|met f y=>exact lt_size (show h.get? a=some _ from x)|ext g=>obtain⟨_,⟨_,e⟩,_⟩:=x;exact lt_size e
theorem Paired.Ua{g j:Type}{F G:g->j->Prop}:∀{c:List g}{e:List j},Paired F c e->(∀a b,F a b->G a b)->Paired G c e|_,_,.nil,_=>.nil|_,_,.cons r t,f=>.cons (f _ _ r) (Paired.Ua t f)
theorem bJ.stay(x:bJ P w H h a o)(k:∀b u,(b=a\/H b=some (.own a))->h.get? b=some u->h'.get? b=some u)(ho:∀b,H b=some (.own a)->H' b=some (.own a))(ht:∀b xs,H b=some (.tup xs)->H' b=some (.tup xs)):bJ P w H' h' a o:=by induction o with|lst xs=>obtain⟨z,j,n,r,e⟩:=x;exact⟨z,j,n,r,k _ _ (.inl rfl) e⟩|tup xs=>obtain⟨z,j,r,g,e,c⟩:=x;exact⟨z,j,r,g,k _ _ (.inl rfl) e,c⟩|dK kvs=>obtain⟨z,y,vs,r,g,es,ep,e,c⟩:=x;exact⟨z,y,vs,r,g,es,ep,k _ _ (.inl rfl) e,c⟩|dT kvs=>obtain⟨z,y,xs,r,g,es,ep,e,c⟩:=x;exact⟨z,y,xs,Paired.Ua r fun p q z=>⟨z.1,ht _ _ z.2.1,z.2.2⟩,g,es,ep,k _ _ (.inl rfl) e,c⟩|set S n=>obtain⟨g,es,ep,t,e,c⟩:=x;exact⟨g,es,ep,t,k _ _ (.inl rfl) e,c⟩|ins C G fs=>obtain⟨d,z,ne,e,l,⟨m,es,ep,B,c⟩,r⟩:=x;exact⟨ho _ d,z,ne,k _ _ (.inl rfl) e,l,⟨m,es,ep,k _ _ (.inr d) B,c⟩,r⟩|own y=>obtain⟨g,e⟩:=x;exact⟨g,k _ _ (.inl rfl) e⟩|xd fs=>obtain⟨l,⟨m,es,ep,e,c⟩,r⟩:=x;exact⟨l,⟨m,es,ep,k _ _ (.inl rfl) e,c⟩,r⟩|rW lo hi=>obtain⟨t,u,v,e⟩:=x;exact⟨t,u,v,k _ _ (.inl rfl) e⟩|dj g u E=>obtain⟨e,q⟩:=x;exact⟨k _ _ (.inl rfl) e,E q⟩|Ve ps=>have e:h.get? a=some {cls:=.none,data:=.fields ps}:=x;show h'.get? a=some {cls:=.none,data:=.fields ps};exact k a _ (.inl rfl) e|met f y=>have e:h.get? a=some (methodObj (.ref f) (.ref y)):=x;show h'.get? a=some (methodObj (.ref f) (.ref y));exact k a _ (.inl rfl) e|ext I=>obtain⟨p,⟨o,e⟩,st⟩:=x;exact⟨st _ _ p fun o q=>k _ _ (.inl rfl) q,⟨o,k _ _ (.inl rfl) e⟩,st⟩
theorem m7.lt(x:m7 P w H h)(e:H a=some o):a<h.objs.size:=(x a o e).lt
theorem m7.fresh(x:m7 P w H h)(e:h.objs.size<=a):H a=none:=by cases q:H a with|none=>rfl|some u=>exact absurd (lt_of_lt_of_le (x.lt q) e) (lt_irrefl _)
theorem m7.kept(x:m7 P w H h)(k:∀b u,h.get? b=some u->h'.get? b=some u):m7 P w H h':=fun a o e=>(x a o e).stay (fun b u _ q=>k b u q) (fun _ q=>q) fun _ _ q=>q
theorem m7.laid(x:m7 P w H h)(k:∀b u,h.get? b=some u->h'.get? b=some u)(l:h.objs.size<=a)(f:bJ P w (upd H a o) h' a o):m7 P w (upd H a o) h':=fun b u e=>by
 have g:=x.fresh l;by_cases j:b=a;.subst j;rw[aO]at e;cases e;exact f
 .rw[aD j]at e;exact(x b u e).stay (fun c v _ q=>k c v q) (fun c q=>by rw[aD (gF q g)];exact q) fun c xs q=>by rw[aD (gF q g)];exact q
end
def Rd(H:Hp)(a:Addr)(u:HO):Prop:=H a=some u\/∃o,H a=some (.dj o u)
theorem Rd.ok{P:Program}{a:Addr}{u:HO}(r:Rd H a u)(x:m7 P w H h):bJ P w H h a u:=by
 rcases r with r|⟨o,r⟩;.exact x a u r
 .obtain⟨_,q⟩:=x a _ r;exact q
def ZR:Option HO->Prop|some (.lst _)=>True|some (.dK _)=>True|some (.dT _)=>True|some (.set _ _)=>True|some (.ins _ _ _)=>True|some (.ext _)=>True|_=>False
section
variable{P:Program}{w:World}{H:Hp}{h h':Heap}{x e:Addr}{o':HO}
theorem m7.write(ok:m7 P w H h)(f:ZR (H x))(he:e=x\/H e=some (.own x))(k:∀b u,b≠e->h.get? b=some u->h'.get? b=some u)(j:∃u,h'.get? e=some u)(l:bJ P w (upd H x o') h' x o'):m7 P w (upd H x o') h':=fun b u q=>by
 have n:∀c y,H c=some (.own y)->c≠x:=fun c y r z=>by subst z;rw[r]at f;exact f
 have m:∀c xs,H c=some (.tup xs)->c≠x:=fun c xs r z=>by subst z;rw[r]at f;exact f
 by_cases g:b=x;.subst g;rw[aO]at q;cases q;exact l
 . rw[aD g]at q;by_cases a:b=e
   . have o:H b=some (.own x):=by
      rcases he with z|z;.exact absurd (a.trans z) g
      .rw[a];exact z
     rw[q]at o;cases o;obtain⟨v,p⟩:=j;exact⟨v,by rw[a];exact p⟩
   . refine(ok b u q).stay (fun c v hc r=>k c v ?_ r) (fun c r=>by rw[aD (n c b r)];exact r) fun c xs r=>by rw[aD (m c xs r)];exact r
     rcases hc with rfl|hc;.exact a
     . rintro rfl;rcases he with z|z;.exact n c b hc z
       .rw[hc]at z;cases z;exact g rfl
end
structure Un(fs ex:List Addr)(H H':Hp)(h h':Heap):Prop where
 keep:∀b o,h.get? b=some o->H b=none->b∉fs->b∉ex->h'.get? b=some o
 slot:∀b o,h.get? b=some o->H b=none->b∈fs->b∉ex->∃sl,h'.get? b=some {o with slots:=sl}free:∀b o,h.get? b=some o->H b=none->b∉ex->H' b=none
 there:∀b o,h.get? b=some o->b∉ex->∃o',h'.get? b=some o'
 tups:∀b xs,H b=some (.tup xs)->H' b=some (.tup xs)vL:∀b o u,H b=some (.dj o u)->H' b=some (.dj o u)yg:∀b ps,H b=some (.Ve ps)->∃more,H' b=some (.Ve (ps++more))
section
variable{fs fs' ex ex':List Addr}{H H1 H2:Hp}{h h1 h2 h':Heap}{a x e:Addr}{o:HO}
theorem Un.any(u:Un fs ex H H1 h h1){b:Addr}{c:Obj}(q:h.get? b=some c)(n:H b=none)(f:b∉ex):∃sl,h1.get? b=some {c with slots:=sl}:=by
 by_cases g:b∈fs;.exact u.slot b c q n g f
 .exact⟨c.slots,u.keep b c q n g f⟩
theorem Un.kept(k:∀b u,h.get? b=some u->h'.get? b=some u):Un fs ex H H h h':=⟨fun b c q _ _ _=>k b c q,fun b c q _ _ _=>⟨c.slots,k b c q⟩,fun _ _ _ n _=>n,fun b c q _=>⟨c,k b c q⟩,fun _ _ q=>q,fun _ _ _ q=>q,fun _ ps q=>⟨#[],by rw[q];simp⟩⟩
theorem Un.refl:Un fs ex H H h h:=Un.kept fun _ _ q=>q
theorem Un.laid(k:∀b u,h.get? b=some u->h'.get? b=some u)(f:h.objs.size<=a)(c:H a=none):Un fs ex H (upd H a o) h h' where
 keep:=fun b u q _ _ _=>k b u q;slot:=fun b u q _ _ _=>⟨u.slots,k b u q⟩;free:=fun b u q n _=>by rw[aD (ne_of_lt (lt_of_lt_of_le (lt_size q) f))];exact n
 there:=fun b u q _=>⟨u,k b u q⟩;tups:=fun b xs q=>by rw[aD (gF q c)];exact q
 vL:=fun b u xs q=>by rw[aD (gF q c)];exact q
 yg:=fun b ps q=>⟨#[],by rw[aD (gF q c),q];simp⟩
theorem Un.write(f:ZR (H x))(he:e=x\/H e=some (.own x))(k:∀b u,b≠e->h.get? b=some u->h'.get? b=some u)(g:∃u,h'.get? e=some u):Un fs ex H (upd H x o) h h':=by
 have l:∀b,H b=none->b≠x:=fun b n z=>by subst z;rw[n]at f;exact f
 have m:∀b,H b=none->b≠e:=fun b n z=>by
  subst z;rcases he with r|r;.exact l b n r
  .rw[n]at r;cases r
 have j:∀b u,H b=some u->¬ ZR (some u)->b≠x:=fun b u q p z=>by subst z;rw[q]at f;exact p f
 refine⟨fun b u q n _ _=>k b u (m b n) q,fun b u q n _ _=>⟨u.slots,k b u (m b n) q⟩,fun b u q n _=>by rw[aD (l b n)];exact n,fun b u q _=>?_,fun b xs q=>by rw[aD (j b _ q fun z=>z)];exact q,fun b u xs q=>by rw[aD (j b _ q fun z=>z)];exact q,fun b ps q=>⟨#[],by rw[aD (j b _ q fun z=>z),q];simp⟩⟩;by_cases c:b=e;.subst c;exact g
 .exact⟨u,k b u c q⟩
end
noncomputable def trk(h:Heap)(H:Hp):List Addr:=(List.range h.objs.size).filter fun a=>(H a).isSome
noncomputable def uK(h:Heap)(H:Hp):Heap:=PySem.W.hideAll h (trk h H)
theorem El(h:Heap)(H:Hp):(uK h H).objs.size=h.objs.size:=PySem.W.hideAll_size _ _
theorem Jh{b:Addr}{o:Obj}(e:h.get? b=some o)(n:H b=none):(uK h H).get? b=some o:=PySem.W.hideAll_get _ e fun a=>by have q:(H b).isSome=true:=(mem_filter.mp a).2;rw[n]at q;simp at q
theorem Ks{b:Addr}{o:Obj}(e:(uK h H).get? b=some o):h.get? b=some o/\H b=none:=by have a:h.get? b=some o:=PySem.W.of_hideAll (trk h H) e;refine⟨a,?_⟩;cases q:H b with|none=>rfl|some x=>have c:b∈trk h H:=mem_filter.mpr ⟨mem_range.mpr (lt_size a),by simp[q]⟩;have z:(uK h H).get? b=none:=PySem.W.hideAll_none (trk h H) c;rw[z]at e;cases e
structure Mod(K:PySem.W.Frag)(mg:Str->Option Value)(base:Heap):Prop where
 o5:K.In base
 glob:base.Ns mainGlobals mg
 blt:∃mb,base.Ns builtinsNs mb/\∀x:Str,x≠"__name__"->mb x=bootBuiltins x
 nolimit:base.NoLimit
structure Cx where
 prog:Program
 w:World
 K:PySem.W.Frag
 mg:Str->Option Value
 base:Heap
 A:Around
 N:List Str
 s₀:Shared
 H₀:Hp
 env:Env
 outer:List Env
 stack:List Env
 ex:List Addr
 fn:Str->Bool
 calm:Bool
 pn:List (Addr×Obj)xe:Value->Shared->Prop
variable{X:Cx}
noncomputable def frs(l:List Env):List Addr:=l.filterMap (·.frame)
noncomputable abbrev Cx.fs(X:Cx):List Addr:=frs X.outer
def vV(a:Scope)(x:Str):Prop:=a.names.lookup x=some .local\/a.names.lookup x=some .cell\/a.names.lookup x=some .free
def Loc(a:Scope)(x:Str):Prop:=a.names.lookup x=some .local\/a.names.lookup x=some .cell
def Look(env:Env)(h:Heap)(m:Str->Option Value)(x:Str)(u:Value):Prop:=(env.kindOf x=some .local/\m x=some u)\/((env.kindOf x=some .cell\/env.kindOf x=some .free)/\∃c,env.cells.lookup x=some c/\h.IsCell c (some u))
structure Cx.Ok(X:Cx):Prop where
 mod:Mod X.K X.mg X.base
 kind:X.env.scope.kind=.function
 glob:X.env.globals=mainGlobals
 blt:X.env.builtins=builtinsNs
 above:X.s₀.heap.objs.size<=X.env.locals
 inj:∀x y c,X.env.cells.lookup x=some c->X.env.cells.lookup y=some c->x=y
 has:∀x,(X.env.kindOf x=some .cell\/X.env.kindOf x=some .free)->∃c,X.env.cells.lookup x=some c
 cab:∀x c,X.fn x=true->X.env.cells.lookup x=some c->X.s₀.heap.objs.size<=c
 hd:X.calm=true->X.A.handled=none
 frames:X.A.frames=some X.stack
 stk:X.stack=X.outer\/(X.stack=X.env::X.outer/\X.env.frame=some X.env.locals)exf:∀b∈X.ex,b≠X.env.locals/\∀x c,X.env.cells.lookup x=some c->c≠b
 bs:∀b o,X.base.get? b=some o->X.s₀.heap.get? b=some o/\X.H₀ b=none
 Qi:X.base.objs.size<=X.s₀.heap.objs.size
 JM:∀b o,X.base.get? b=some o->b∉X.ex
 N5:∀b∈X.ex,b∉X.fs
 rE:X.s₀.heap.FunFrames X.base X.outer
 Xa:∀b∈X.fs,X.H₀ b=none
structure Inv(X:Cx)(pins:List (Addr×Obj))(σ:List (Option V))(H:Hp)(s:Shared):Prop where
 ok:X.Ok
 os:s.os=X.s₀.os
 bare:AllBare s.gens
 base:Un X.fs X.ex X.H₀ H X.s₀.heap s.heap
 loc:∃m,s.heap.Ns X.env.locals m/\∀(i:Nat)(x:Str)(v:V),X.N[i]?=some x->σ[i]?=some (some v)->vV X.env.scope x->∃u,RelV v u/\Look X.env s.heap m x u
 cell:∀x c,X.env.cells.lookup x=some c->∃v,s.heap.IsCell c v
 free:H X.env.locals=none
 lB:∀x c,X.env.cells.lookup x=some c->H c=none
 pin:∀p∈X.pn++pins,s.heap.get? p.1=some p.2/\H p.1=none/\p.1≠X.env.locals/\p.1∉X.fs/\∀v,p.2.data≠.cell v
 hok:m7 X.prog X.w H s.heap
 len:σ.length=X.N.length
section
variable{X:Cx}{pins:List (Addr×Obj)}{σ:List (Option V)}{H H':Hp}{s:Shared}{h':Heap}
theorem Cx.Ok.adE(ok:X.Ok){b:Addr}{o:Obj}(e:X.base.get? b=some o):b∉X.fs:=fun a=>by have:=(ok.rE.mem a).1;rw[e]at this;cases this
theorem Inv.bs(I:Inv X pins σ H s):∀b o,X.base.get? b=some o->s.heap.get? b=some o/\H b=none:=fun b o e=>⟨I.base.keep b o (I.ok.bs b o e).1 (I.ok.bs b o e).2 (I.ok.adE e) (I.ok.JM b o e),I.base.free b o (I.ok.bs b o e).1 (I.ok.bs b o e).2 (I.ok.JM b o e)⟩
theorem Inv.bk(I:Inv X pins σ H s):∀b o,X.base.get? b=some o->s.heap.get? b=some o:=fun b o e=>(I.bs b o e).1
theorem Inv.mod(I:Inv X pins σ H s):Mod X.K X.mg X.base:=I.ok.mod
theorem Inv.Pb(I:Inv X pins σ H s):X.K.In s.heap:=I.ok.mod.o5.keeps I.bk
theorem Inv.lt(I:Inv X pins σ H s):X.env.locals<s.heap.objs.size:=let⟨_,hn,_⟩:=I.loc;hn.lt
theorem Inv.sz(I:Inv X pins σ H s):X.s₀.heap.objs.size<=s.heap.objs.size:=le_trans I.ok.above (le_of_lt I.lt)
theorem Inv.adP(I:Inv X pins σ H s){a:Addr}(h:s.heap.objs.size<=a):a∉X.fs:=fun b=>by obtain⟨_,o,ho,_⟩:=I.ok.rE.mem b;exact absurd (lt_of_lt_of_le (lt_size ho) (le_trans I.sz h)) (lt_irrefl _)
theorem Inv.QT(I:Inv X pins σ H s):∀x c,X.env.cells.lookup x=some c->c≠X.env.locals:=fun x c e z=>by obtain⟨v,o,ho,hd⟩:=I.cell x c e;obtain⟨m,⟨f,es,ep,a,b,_⟩,_⟩:=I.loc;rw[z,a]at ho;cases ho;rw[b]at hd;cases hd
theorem Inv.rE(I:Inv X pins σ H s):s.heap.FunFrames X.base X.outer:=by
 have all:∀(l:List Env),(∀b∈frs l,b∈X.fs)->X.s₀.heap.FunFrames X.base l->s.heap.FunFrames X.base l:=by intro l;induction l with|nil=>intro _ _;trivial|cons env r g=>intro hs j;obtain⟨k,⟨L,o,a,m,ho,hd⟩,hr⟩:=j;have c:L∈X.fs:=hs L (by unfold frs;rw[filterMap_cons,a];exact mem_cons_self);obtain⟨sl,e⟩:=I.base.slot L o ho (I.ok.Xa L c) c fun z=>I.ok.N5 L z c;exact⟨k,⟨L,_,a,m,e,hd⟩,g (fun b f=>hs b (by unfold frs;rw[filterMap_cons,a];exact mem_cons_of_mem _ f)) hr⟩
 exact all X.outer (fun _ f=>f) I.ok.rE
theorem Inv.stack(I:Inv X pins σ H s):s.heap.FunFrames X.base X.stack:=by
 rcases I.ok.stk with e|⟨e,a⟩;.rw[e];exact I.rE
 .rw[e];obtain⟨m,b,_⟩:=I.loc;refine .cons (by rw[I.ok.kind];decide) a b ?_ I.rE;exact Heap.get?_none_of_le (le_trans I.ok.Qi I.ok.above)
theorem Inv.vB(I:Inv X pins σ H s):∀b∈frs X.stack,b∈X.env.locals::X.fs:=fun b a=>by
 rcases I.ok.stk with e|⟨e,c⟩;.rw[e]at a;exact mem_cons_of_mem _ a
 .rw[e]at a;unfold frs at a;rw[filterMap_cons,c]at a;exact a
theorem Inv.Cw(I:Inv X pins σ H s):∀b∈frs X.stack,H b=none:=fun b hb=>by
 rcases mem_cons.mp (I.vB b hb)with e|hb;.rw[e];exact I.free
 .obtain⟨_,o,ho,_⟩:=I.ok.rE.mem hb;exact I.base.free b o ho (I.ok.Xa b hb) fun z=>I.ok.N5 b z hb
theorem Inv.step{g':Array GenState}{d':Drawn}{ch:List Addr}(I:Inv X pins σ H s)(f:∀b∈ch,(b∈X.ex\/X.s₀.heap.objs.size<=b)/\b≠X.env.locals/\(∀x c,X.env.cells.lookup x=some c->c≠b)/\∀p∈X.pn++pins,p.1≠b)(keep:∀b o,b≠X.env.locals->b∉X.fs->b∉ch->s.heap.get? b=some o->H b=none->h'.get? b=some o)(slot:∀b o,b≠X.env.locals->b∈X.fs->b∉ch->s.heap.get? b=some o->H b=none->∃sl,h'.get? b=some {o with slots:=sl})(free:∀b o,b∉ch->s.heap.get? b=some o->H b=none->H' b=none)(there:∀b o,b∉ch->s.heap.get? b=some o->∃B,h'.get? b=some B)(tups:∀b xs,H b=some (.tup xs)->H' b=some (.tup xs))(vL:∀b o u,H b=some (.dj o u)->H' b=some (.dj o u))(yg:∀b ps,H b=some (.Ve ps)->∃more,H' b=some (.Ve (ps++more)))(ns:∀m,s.heap.Ns X.env.locals m->h'.Ns X.env.locals m)(hok:m7 X.prog X.w H' h')(O:AllBare g'):Inv X pins σ H' {s with heap:=h',gens:=g',drawn:=d',toks:=t'}:=by
 have C:∀b o,X.s₀.heap.get? b=some o->b≠X.env.locals:=fun b o e=>ne_of_lt (lt_of_lt_of_le (lt_size e) I.ok.above);have j:∀b o,X.s₀.heap.get? b=some o->b∉X.ex->b∉ch:=fun b o e a y=>by
  rcases(f b y).1 with z|z;.exact a z
  .exact absurd (lt_of_lt_of_le (lt_size e) z) (lt_irrefl _)
 have g:∀x c,X.env.cells.lookup x=some c->∀v,s.heap.IsCell c v->h'.IsCell c v:=fun x c e v⟨o,ho,hd⟩=>by
  have E:c∉ch:=fun z=>(f c z).2.2.1 x c e rfl;by_cases hc:c∈X.fs;.obtain⟨sl,q⟩:=slot c o (I.QT x c e) hc E ho (I.lB x c e);exact⟨_,q,hd⟩
  .exact⟨o,keep c o (I.QT x c e) hc E ho (I.lB x c e),hd⟩
 refine⟨I.ok,I.os,O,⟨fun b o e n y a=>?_,fun b o e n y a=>?_,fun b o e n a=>?_,fun b o e a=>?_,fun b xs e=>tups b xs (I.base.tups b xs e),fun b o xs e=>vL b o xs (I.base.vL b o xs e),fun b ps e=>?_⟩,?_,fun x c e=>?_,?_,fun x c e=>?_,fun p L=>?_,hok,I.len⟩;.exact keep b o (C b o e) y (j b o e a) (I.base.keep b o e n y a) (I.base.free b o e n a)
 .obtain⟨sl,t⟩:=I.base.slot b o e n y a;obtain⟨J,G⟩:=slot b _ (C b o e) y (j b o e a) t (I.base.free b o e n a);exact⟨J,G⟩
 .obtain⟨B,t⟩:=I.base.there b o e a;exact free b B (j b o e a) t (I.base.free b o e n a)
 .obtain⟨B,t⟩:=I.base.there b o e a;exact there b B (j b o e a) t
 .obtain⟨m1,t⟩:=I.base.yg b ps e;obtain⟨Q,G⟩:=yg b _ t;exact⟨m1++Q,by rw[G,Array.append_assoc]⟩
 . obtain⟨m,U,W⟩:=I.loc;refine⟨m,ns m U,fun i x v t G Y=>?_⟩;obtain⟨u,r,l⟩:=W i x v t G Y;refine⟨u,r,?_⟩;rcases l with l|⟨k,c,e,z⟩;.exact .inl l
   .exact .inr ⟨k,c,e,g x c e _ z⟩
 .obtain⟨v,z⟩:=I.cell x c e;exact⟨v,g x c e v z⟩
 .obtain⟨m,⟨o,_,_,ho,_⟩,_⟩:=I.loc;exact free _ o (fun z=>(f _ z).2.1 rfl) ho I.free
 .obtain⟨v,o,ho,hd⟩:=I.cell x c e;exact free c o (fun z=>(f c z).2.2.1 x c e rfl) ho (I.lB x c e)
 .obtain⟨e,n,ne,N,d⟩:=I.pin p L;have E:p.1∉ch:=fun z=>(f p.1 z).2.2.2 p L rfl;exact⟨keep p.1 p.2 ne N E e n,free p.1 p.2 E e n,ne,N,d⟩
theorem Inv.un(I:Inv X pins σ H s)(u:Un X.fs [] H H' s.heap h')(hok:m7 X.prog X.w H' h'):Inv X pins σ H' {s with heap:=h',toks:=t'}:=by obtain⟨m,⟨o,es,ep,ho,r⟩,_⟩:=id I.loc;obtain⟨sl,j⟩:=u.any ho I.free (by simp);exact I.step (g':=s.gens) (d':=s.drawn) (ch:=[]) (fun _ z=>nomatch z) (fun b o _ c _ e n=>u.keep b o e n c (by simp)) (fun b o _ c _ e n=>u.slot b o e n c (by simp)) (fun b o _ e n=>u.free b o e n (by simp)) (fun b o _ e=>u.there b o e (by simp)) u.tups u.vL u.yg (fun p k=>by obtain⟨q,f,g,a,l⟩:=k;rw[ho]at a;cases a;exact⟨_,f,g,j,l⟩) hok I.bare
theorem Inv.call{g':Array GenState}{d':Drawn}{ch:List Addr}(I:Inv X pins σ H s)(u:Un (frs X.stack) ch H H' s.heap h')(hok:m7 X.prog X.w H' h')(l:AllBare g')(a:∀b∈ch,(b∈X.ex\/X.s₀.heap.objs.size<=b)/\b≠X.env.locals/\(∀x c,X.env.cells.lookup x=some c->c≠b)/\∀p∈X.pn++pins,p.1≠b):Inv X pins σ H' {s with heap:=h',gens:=g',drawn:=d',toks:=t'}:=by obtain⟨m,⟨o,es,ep,ho,r⟩,_⟩:=id I.loc;obtain⟨sl,g⟩:=u.any ho I.free fun z=>(a _ z).2.1 rfl;exact I.step (ch:=ch) a (fun b o g q hc e n=>u.keep b o e n (fun z=>(mem_cons.mp (I.vB b z)).elim g q) hc) (fun b o _ _ hc e n=>u.any e n hc) (fun b o hc e n=>u.free b o e n hc) (fun b o hc e=>u.there b o e hc) u.tups u.vL u.yg (fun y t=>by obtain⟨B,j,k,f,v⟩:=t;rw[ho]at f;cases f;exact⟨_,j,k,g,v⟩) hok l
theorem Inv.turned{it:Addr}(I:Inv X pins σ H s)(k:∀b o,b≠it->s.heap.get? b=some o->h'.get? b=some o)(g:H it=none)(f:it≠X.env.locals)(h1:it∈X.ex\/X.s₀.heap.objs.size<=it)(j:∀x c,X.env.cells.lookup x=some c->c≠it)(l:∀p∈X.pn++pins,p.1≠it):Inv X pins σ H {s with heap:=h',toks:=t'}:=by
 have a:∀b u,H b=some u->b≠it:=fun b u e z=>by rw[z,g]at e;cases e
 refine I.step (g':=s.gens) (d':=s.drawn) (ch:=[it]) (fun b t=>?_) (fun b o _ _ hc e _=>k b o (fun z=>hc (by simp[z])) e) (fun b o _ _ hc e _=>⟨o.slots,k b o (fun z=>hc (by simp[z])) e⟩) (fun _ _ _ _ n=>n) (fun b o hc e=>⟨o,k b o (fun z=>hc (by simp[z])) e⟩) (fun _ _ e=>e) (fun _ _ _ e=>e) (fun b ps e=>⟨#[],by rw[e];simp⟩) (fun m y=>?_) (fun b u e=>?_) I.bare
 . have e:b=it:=by simpa using t
   subst e;exact⟨h1,f,j,l⟩
 .obtain⟨o,es,ep,ho,r⟩:=y;exact⟨o,es,ep,k _ o (Ne.symm f) ho,r⟩
 . refine(I.hok b u e).stay (fun c v hc q=>k c v ?_ q) (fun _ q=>q) fun _ _ q=>q;rcases hc with z|z;.rw[z];exact a b u e
   .exact a c _ z
theorem Inv.tok(I:Inv X pins σ H s)(t:Nat):Inv X pins σ H {s with toks:=t}:=I.un (h':=s.heap) (t':=t) Un.refl I.hok
theorem Inv.kept{t':Nat}(I:Inv X pins σ H s)(k:∀b u,s.heap.get? b=some u->h'.get? b=some u):Inv X pins σ H {s with heap:=h',toks:=t'}:=I.un (Un.kept k) (I.hok.kept k)
theorem Inv.laid{a:Addr}{o:HO}{t':Nat}(I:Inv X pins σ H s)(k:∀b u,s.heap.get? b=some u->h'.get? b=some u)(c:s.heap.objs.size<=a)(e:bJ X.prog X.w (upd H a o) h' a o):Inv X pins σ (upd H a o) {s with heap:=h',toks:=t'}:=I.un (Un.laid k c (I.hok.fresh c)) (I.hok.laid k c e)
theorem Inv.write{x e:Addr}{o:HO}{t':Nat}(I:Inv X pins σ H s)(f:ZR (H x))(he:e=x\/H e=some (.own x))(k:∀b u,b≠e->s.heap.get? b=some u->h'.get? b=some u)(a:∃u,h'.get? e=some u)(c:bJ X.prog X.w (upd H x o) h' x o):Inv X pins σ (upd H x o) {s with heap:=h',toks:=t'}:=I.un (Un.write f he k a) (I.hok.write f he k a c)
theorem Inv.BK{a:List (Addr×Obj)}(I:Inv X pins σ H s)(h:∀p∈a,s.heap.get? p.1=some p.2/\H p.1=none/\p.1≠X.env.locals/\p.1∉X.fs/\∀v,p.2.data≠.cell v):Inv X a σ H s:=⟨I.ok,I.os,I.bare,I.base,I.loc,I.cell,I.free,I.lB,fun p b=>(mem_append.mp b).elim (fun z=>I.pin p (List.mem_append_left _ z)) (h p),I.hok,I.len⟩
theorem wN{N:List Str}(c:N.Nodup){j:Nat}{x:Str}(a:N[i]?=some x)(b:N[j]?=some x):i=j:=by obtain⟨h1,e⟩:=dB a;obtain⟨g,f⟩:=dB b;exact(List.getElem_inj c).mp (e.trans f.symm)
theorem ue{E:Value->Shared->Prop}{x:Str}{v:V}{u:Value}{Q:Unit->Shared->Prop}(I:Inv X pins σ H s)(hN:X.N.Nodup)(hi:X.N[i]?=some x)(l:Loc X.env.scope x)(r:RelV v u)(h:∀s',Inv X pins (σ.set i (some v)) H s'->(∃a,SameBut a s.heap s'.heap/\(a=X.env.locals\/X.env.cells.lookup x=some a))->Q () s')(hf:X.fn x=true\/X.env.scope.names.lookup x=some .local:=by first|exact .inl rfl|exact .inr rfl|assumption):wpAny M A (storeName X.env x u) Q E s:=by
 obtain⟨m,hn,hl⟩:=id I.loc;have O:(X.env.scope.kind==.class||(X.env.scope.kind==.module&&X.env.locals !=X.env.globals))=false:=by rw[I.ok.kind];rfl
 have C:i<σ.length:=by rw[I.len];exact(dB hi).1
 have QT:=I.QT;have f:∀{a:Addr}{h':Heap},(∃o,s.heap.get? a=some o/\H a=none)->SameBut a s.heap h'->m7 X.prog X.w H h':=fun{a h'}ha hs b ob e=>by
  obtain⟨_,_,t⟩:=ha;refine(I.hok b ob e).stay (fun c Z hc q=>(hs.2 c ?_).trans q) (fun _ q=>q) fun _ _ q=>q;rintro rfl;rcases hc with rfl|hc;.rw[t]at e;cases e
  .rw[t]at hc;cases hc
 rcases l with hk|hk
 . refine wpAny_storeName_local hk hn (fun h' ac hs=>?_) O;obtain⟨oL,_,_,ae,_⟩:=id hn;refine h _ ⟨I.ok,I.os,I.bare,⟨fun b o e n G l=>?_,fun b o e n G l=>?_,I.base.free,fun b o e l=>?_,I.base.tups,I.base.vL,I.base.yg⟩,⟨_,ac,fun j y v' g B e3=>?_⟩,fun y c e=>?_,I.free,I.lB,fun p hp=>?_,f ⟨oL,ae,I.free⟩ hs,by simpa using I.len⟩ ⟨_,hs,.inl rfl⟩;.exact(hs.2 b (ne_of_lt (lt_of_lt_of_le (lt_size e) I.ok.above))).trans (I.base.keep b o e n G l)
   .obtain⟨sl,g⟩:=I.base.slot b o e n G l;exact⟨sl,(hs.2 b (ne_of_lt (lt_of_lt_of_le (lt_size e) I.ok.above))).trans g⟩
   .obtain⟨o',g⟩:=I.base.there b o e l;exact⟨o',(hs.2 b (ne_of_lt (lt_of_lt_of_le (lt_size e) I.ok.above))).trans g⟩
   . by_cases J:j=i;.subst J;rw[hi]at g;cases g;rw[getElem?_set_self C]at B;cases B;exact⟨u,r,.inl ⟨hk,by simp⟩⟩
     . rw[fH J]at B;obtain⟨u',r',q⟩:=hl j y v' g B e3;refine⟨u',r',?_⟩;rcases q with⟨k,e⟩|⟨k,c,e,z⟩;.refine .inl ⟨k,?_⟩;have:y≠x:=fun e=>J (wN hN g (e▸hi));simp[this,e]
       .exact .inr ⟨k,c,e,z.sameBut hs (QT y c e)⟩
   .obtain⟨Z,z⟩:=I.cell y c e;exact⟨Z,z.sameBut hs (QT y c e)⟩
   .obtain⟨e,n,ne,nf,d⟩:=I.pin p hp;exact⟨(hs.2 p.1 ne).trans e,n,ne,nf,d⟩
 . have L:X.fn x=true:=by
    rcases hf with z|z;.exact z
    .rw[z]at hk;cases hk
   obtain⟨c,hc⟩:=I.ok.has x (.inl hk);obtain⟨Z,z⟩:=I.cell x c hc;refine wpAny_storeName_cell I.ok.kind hk hc z (fun h' U hs=>?_);obtain⟨oc,W,af⟩:=id z;refine h {s with heap:=h'} ⟨I.ok,I.os,I.bare,⟨fun b o e n G l=>?_,fun b o e n G l=>?_,I.base.free,fun b o e l=>?_,I.base.tups,I.base.vL,I.base.yg⟩,⟨m,hn.sameBut hs (Ne.symm (QT x c hc)),fun j y v' g B e3=>?_⟩,fun y c' e=>?_,I.free,I.lB,fun p hp=>?_,f ⟨oc,W,I.lB x c hc⟩ hs,by simpa using I.len⟩ ⟨c,hs,.inr hc⟩;.exact(hs.2 b (ne_of_lt (lt_of_lt_of_le (lt_size e) (I.ok.cab x c L hc)))).trans (I.base.keep b o e n G l)
   .obtain⟨sl,g⟩:=I.base.slot b o e n G l;exact⟨sl,(hs.2 b (ne_of_lt (lt_of_lt_of_le (lt_size e) (I.ok.cab x c L hc)))).trans g⟩
   .obtain⟨o',g⟩:=I.base.there b o e l;exact⟨o',(hs.2 b (ne_of_lt (lt_of_lt_of_le (lt_size e) (I.ok.cab x c L hc)))).trans g⟩
   . by_cases J:j=i;.subst J;rw[hi]at g;cases g;rw[getElem?_set_self C]at B;cases B;exact⟨u,r,.inr ⟨.inl hk,c,hc,U⟩⟩
     . rw[fH J]at B;obtain⟨u',r',q⟩:=hl j y v' g B e3;refine⟨u',r',?_⟩;rcases q with q|⟨k,c',e,z'⟩;.exact .inl q
       .refine .inr ⟨k,c',e,z'.sameBut hs ?_⟩;rintro rfl;exact J (wN hN g (I.ok.inj _ _ _ e hc▸hi))
   . by_cases Y:c'=c;.subst Y;exact⟨_,U⟩
     .obtain⟨w2,z2⟩:=I.cell y c' e;exact⟨w2,z2.sameBut hs Y⟩
   .obtain⟨e,n,ne,nf,d⟩:=I.pin p hp;refine⟨(hs.2 p.1 ?_).trans e,n,ne,nf,d⟩;intro q;rw[q,W]at e;have q':oc=p.2:=Option.some.inj e;exact d Z (by rw[<-q'];exact af)
theorem jt{E:Value->Shared->Prop}{x:Str}{v:V}{u:Value}{Q:Unit->Shared->Prop}(I:Inv X pins σ H s)(b:X.N.Nodup)(hi:X.N[i]?=some x)(c:Loc X.env.scope x)(r:RelV v u)(h:∀a,Inv X pins (σ.set i (some v)) H a->Q () a)(e:X.fn x=true\/X.env.scope.names.lookup x=some .local:=by first|exact .inl rfl|exact .inr rfl|assumption):wpAny M A (storeName X.env x u) Q E s:=ue I b hi c r (fun a f _=>h a f) e
end
abbrev XK:=Value->Option Addr->Hp->Prop
noncomputable abbrev St:=List (Option V)
abbrev VK:=V->Hp->Prop
abbrev TE:=St->Hp->VK->Prop
variable{te:TE}
abbrev TT:=St->Hp->(Bool->Hp->Prop)->Prop
abbrev TA:=St->Hp->(List V->Hp->Prop)->Prop
structure Ends where
 nx:St->Hp->Prop
 rt:VK
 bk:St->Hp->Prop:=fun _ _=>False
 ct:St->Hp->Prop:=fun _ _=>False
abbrev TS:=Ends->St->Hp->Prop
inductive EP(X:Cx)(pins:List (Addr×Obj))(σ:St)(Q:VK)(u:Value)(s':Shared):Prop where|mk(v:V)(H':Hp)(q0:Inv X pins σ H' s')(q1:RelV v u)(q2:Q v H')
def TP(X:Cx)(pins:List (Addr×Obj))(σ:St)(Q:Bool->Hp->Prop)(b:Bool)(c:Shared):Prop:=∃a,Inv X pins σ a c/\Q b a
inductive AP(X:Cx)(pins:List (Addr×Obj))(σ:St)(Q:List V->Hp->Prop)(us:List Value)(s':Shared):Prop where|mk(vs:List V)(H':Hp)(q0:Inv X pins σ H' s')(q1:Vals vs us)(q2:Q vs H')
def SP(X:Cx)(pins:List (Addr×Obj))(D:Ends)(f:Flow)(c:Shared):Prop:=match f with|.next=>∃a b,Inv X pins a b c/\D.nx a b|.brk=>∃a b,Inv X pins a b c/\D.bk a b|.cont=>∃a b,Inv X pins a b c/\D.ct a b|.ret u=>∃v a b,Inv X pins a b c/\RelV v u/\D.rt v b
def PE(X:Cx)(e:Expr)(t:TE):Prop:=∀(pins:List (Addr×Obj))(s:Shared)(σ:St)(H:Hp)(Q:VK),Inv X pins σ H s->t σ H Q->wpAny (model X.prog X.w) X.A (eval e X.env) (EP X pins σ Q) X.xe s
def PT(X:Cx)(e:Expr)(t:TT):Prop:=∀(pins:List (Addr×Obj))(s:Shared)(σ:St)(H:Hp)(Q:Bool->Hp->Prop),Inv X pins σ H s->t σ H Q->wpAny (model X.prog X.w) X.A (isTrue e X.env (eval e X.env)) (TP X pins σ Q) X.xe s
def PW(X:Cx)(e:Expr)(t:TT):Prop:=∀(a:Sem Value)(pins:List (Addr×Obj))(s:Shared)(σ:St)(H:Hp)(Q:Bool->Hp->Prop),Inv X pins σ H s->t σ H Q->wpAny (model X.prog X.w) X.A (isTrue e X.env a) (TP X pins σ Q) X.xe s
theorem PW.pt{e:Expr}{t:TT}(h:PW X e t):PT X e t:=h _
def PA(X:Cx)(es:List Expr)(t:TA):Prop:=∀(pos:Pos)(pins:List (Addr×Obj))(s:Shared)(σ:St)(H:Hp)(Q:List V->Hp->Prop),Inv X pins σ H s->t σ H Q->wpAny (model X.prog X.w) X.A (spliced (backTo pos (starEach es X.env))) (AP X pins σ Q) X.xe s
def PS(X:Cx)(st:Stmt)(t:TS):Prop:=∀(pins:List (Addr×Obj))(s:Shared)(σ:St)(H:Hp)(D:Ends),Inv X pins σ H s->t D σ H->wpAny (model X.prog X.w) X.A (exec st X.env) (SP X pins D) X.xe s
def xn(X:Cx)(st:List Stmt)(t:TS):Prop:=∀(pins:List (Addr×Obj))(s:Shared)(σ:St)(H:Hp)(D:Ends),Inv X pins σ H s->t D σ H->wpAny (model X.prog X.w) X.A (execs st X.env) (SP X pins D) X.xe s
theorem bR{b:Type}{t:Sem b}{Q c:b->Shared->Prop}{E:Value->Shared->Prop}(h:wpAny M A t Q E s)(e:∀a s,Q a s->c a s):wpAny M A t c E s:=wpAny_mono h e fun _ _ x=>x
section
variable{X:Cx}
def Rf(i:Nat):TE:=fun σ H Q=>∃v,σ[i]?=some (some v)/\Q v H
def tC(v:V):TE:=fun _ H Q=>Q v H
theorem fC{x:Str}(f:X.N[i]?=some x)(g:vV X.env.scope x)(hd:(x==("__debug__":Str))=false:=by decide)(b:(x==("__classdict__":Str))=false:=by decide):PE X (.Name x pos) (Rf i):=by
 intro pins s σ H Q I h;obtain⟨v,e,h⟩:=h;obtain⟨m,j,k⟩:=I.loc;obtain⟨u,r,l⟩:=k i x v f e g;have fin:EP X pins σ Q u s:=⟨v,H,I,r,h⟩;rcases l with⟨hk,n⟩|⟨hk,c,hc,a⟩;.exact wpAny_Name (wpAny_loadName_local I.ok.kind hk j n fin) hd
 . rcases hk with hk|hk;.exact wpAny_Name (wpAny_loadName_cell I.ok.kind hk hc a fin) hd
   .exact wpAny_Name (wpAny_loadName_free I.ok.kind hk hc a fin b) hd
theorem qY{i j pos}:PE X (.Constant (.int i) j pos) (tC (.int i)):=fun _ _ _ H _ I h=>wpAny_Constant_int ⟨.int i,H,I.tok _,⟨_,rfl⟩,h⟩
theorem ZP{b j pos}:PE X (.Constant (.bool b) j pos) (tC (.bl b)):=fun _ _ _ H _ I h=>Constant_bool ⟨.bl b,H,I,rfl,h⟩
theorem RB{j pos}:PE X (.Constant .none j pos) (tC .non):=fun _ _ _ H _ I h=>Constant_none ⟨.non,H,I,rfl,h⟩
def Gl(X:Cx)(x:Str):Prop:=X.env.kindOf x=some .globalImplicit
theorem BL{E:Value->Shared->Prop}{σ:St}{x:Str}{u:Value}{Q:Value->Shared->Prop}(I:Inv X pins σ H s)(a:Gl X x)(b:X.mg x=some u)(h:Q u s)(hd:(x==("__debug__":Str))=false:=by decide):wpAny (model X.prog X.w) X.A (eval (.Name x pos) X.env) Q E s:=Calls.Name_function_global I.ok.kind a (Calls.loadGlobal_global (by rw[I.ok.glob];exact I.mod.glob.keeps I.bk) b h) hd
theorem gn{E:Value->Shared->Prop}{σ:St}{x:Str}{u:Value}{Q:Value->Shared->Prop}(I:Inv X pins σ H s)(a:Gl X x)(b:X.mg x=none)(c:bootBuiltins x=some u)(h:Q u s)(e:x≠"__name__":=by decide)(hd:(x==("__debug__":Str))=false:=by decide):wpAny (model X.prog X.w) X.A (eval (.Name x pos) X.env) Q E s:=by obtain⟨g,h1,f⟩:=I.mod.blt;exact Calls.Name_function_global I.ok.kind a (Calls.loadGlobal_builtin (by rw[I.ok.glob];exact I.mod.glob.keeps I.bk) b (by rw[I.ok.blt];exact h1.keeps I.bk) ((f x e).trans c) h) hd
theorem K8{x:Str}{v:V}{u:Value}(a:Gl X x)(b:X.mg x=some u)(r:RelV v u)(hd:(x==("__debug__":Str))=false:=by decide):PE X (.Name x pos) (tC v):=fun _ _ _ H _ I h=>BL I a b ⟨v,H,I,r,h⟩ hd
theorem BJ{x:Str}{v:V}{u:Value}(a:Gl X x)(b:X.mg x=none)(c:bootBuiltins x=some u)(r:RelV v u)(e:x≠"__name__":=by decide)(hd:(x==("__debug__":Str))=false:=by decide):PE X (.Name x pos) (tC v):=fun _ _ _ H _ I h=>gn I a b c ⟨v,H,I,r,h⟩ e hd
variable{a b:Expr}{ta tb:TE}{pos:Pos}
def PC(X:Cx)(op:CmpOp)(a b:Expr)(t:TE):Prop:=∀(pins:List (Addr × Obj))(s:Shared)(σ:St)(H:Hp)(Q:VK),Inv X pins σ H s->t σ H Q->wpAny (model X.prog X.w) X.A (eval a X.env) (fun v c=>wpAny (model X.prog X.w) X.A (eval b X.env) (fun u e=>wpAny (model X.prog X.w) X.A (compareOp op v u) (EP X pins σ Q) X.xe e) X.xe c) X.xe s
def tB(t:TE):TT:=fun σ H Q=>t σ H fun x e=>∃c,x=.bl c/\Q c e
theorem Ug{t:TE}(h:PC X op a b t)(h1:behindInMarks op b=false:=by first|exact Z0 _ (by decide) (by decide)|rfl):PT X (.Compare a [op] [b] pos) (tB t):=by intro pins s σ H Q I e;refine wpAny_isTrue_Compare1 (bR (h pins s σ H _ I e) fun v s1 h1=>bR h1 fun u s2 f=>bR f fun c s3⟨x,H1,I1,r1,q1⟩=>?_) h1;obtain⟨d,rfl,q⟩:=q1;cases r1;exact wpAny_truthy_bool ⟨H1,I1,q⟩
theorem Qz{e:Expr}{t:TE}(h:PE X e t)(he:∀c,isTrue e X.env c=(do let v<-c;standAt e.pos;holding [v] (truthy v)):=by intro _;rfl):PT X e (tB t):=by intro pins s σ H Q I f;refine isTrue_plain (bR (h pins s σ H _ I f) fun v s1⟨x,H1,I1,r1,q1⟩=>?_) (he _);obtain⟨d,rfl,q⟩:=q1;cases r1;exact wpAny_truthy_bool ⟨H1,I1,q⟩
variable{tA tB':TT}{rest:List Expr}
def adO(t u:TT):TT:=fun σ H Q=>t σ H fun c e=>if c=true then u σ e Q else Q false e
def tOr(t u:TT):TT:=fun σ H Q=>t σ H fun c e=>if c=true then Q true e else u σ e Q
def aek(t:TT):TT:=fun σ H Q=>t σ H fun c e=>Q (!c) e
theorem Lk(f:PT X a tA):PW X (.BoolOp .And [a] pos) tA:=by intro wh pins s σ H Q I h;refine isTrue_and (bR (f pins s σ H Q I h) fun c s1 e=>?_);cases c with|true=>exact isTrue_and_nil e|false=>exact e
theorem RX(f:PT X a tA):PW X (.BoolOp .Or [a] pos) tA:=by intro wh pins s σ H Q I h;refine isTrue_or (bR (f pins s σ H Q I h) fun c s1 e=>?_);cases c with|false=>exact isTrue_or_nil e|true=>exact e
theorem Vc(f:PT X a tA)(g:PW X (.BoolOp .And (b::rest) pos) tB'):PW X (.BoolOp .And (a::b::rest) pos) (adO tA tB'):=by intro wh pins s σ H Q I h;refine isTrue_and (bR (f pins s σ H _ I h) fun c s1⟨e,I1,q1⟩=>?_);cases c with|true=>exact g wh pins s1 σ e Q I1 q1|false=>exact⟨e,I1,q1⟩
theorem ZD(f:PT X a tA)(g:PW X (.BoolOp .Or (b::rest) pos) tB'):PW X (.BoolOp .Or (a::b::rest) pos) (tOr tA tB'):=by intro wh pins s σ H Q I h;refine isTrue_or (bR (f pins s σ H _ I h) fun c s1⟨e,I1,q1⟩=>?_);cases c with|true=>exact⟨e,I1,q1⟩|false=>exact g wh pins s1 σ e Q I1 q1
theorem RZ(e:PT X a tA):PT X (.UnaryOp .Not a pos) (aek tA):=by intro pins s σ H Q I h;exact isTrue_not (e pins s σ H (fun c f=>Q (!c) f) I h)
def Zi(ta tb:TE):TE:=fun σ H Q=>ta σ H fun x e=>∃c,x=.bl c/\if c=true then tb σ e Q else Q (.bl false) e
def acA(ta tb:TE):TE:=fun σ H Q=>ta σ H fun x e=>∃c,x=.bl c/\if c=true then Q (.bl true) e else tb σ e Q
def Y9(ta:TE):TE:=fun σ H Q=>ta σ H fun x e=>∃c,x=.bl c/\Q (.bl (!c)) e
theorem UL{op}{t:TE}(h:PE X a t):PE X (.BoolOp op [a] pos) t:=fun pins s σ H Q I c=>BoolOp_one (h pins s σ H Q I c)
theorem S6(f:PE X a ta)(g:PE X (.BoolOp .And (b::rest) pos) tb):PE X (.BoolOp .And (a::b::rest) pos) (Zi ta tb):=by intro pins s σ H Q I h;refine BoolOp_and (bR (f pins s σ H _ I h) fun v s1⟨x,H1,I1,r1,e⟩=>?_);obtain⟨c,rfl,e⟩:=e;cases r1;refine wpAny_truthy_bool ?_;cases c with|true=>exact g pins s1 σ H1 Q I1 e|false=>exact⟨.bl false,H1,I1,rfl,e⟩
theorem Hd(f:PE X a ta)(g:PE X (.BoolOp .Or (b::rest) pos) tb):PE X (.BoolOp .Or (a::b::rest) pos) (acA ta tb):=by intro pins s σ H Q I h;refine BoolOp_or (bR (f pins s σ H _ I h) fun v s1⟨x,H1,I1,r1,e⟩=>?_);obtain⟨c,rfl,e⟩:=e;cases r1;refine wpAny_truthy_bool ?_;cases c with|false=>exact g pins s1 σ H1 Q I1 e|true=>exact⟨.bl true,H1,I1,rfl,e⟩
theorem RV(f:PE X a ta):PE X (.UnaryOp .Not a pos) (Y9 ta):=by intro pins s σ H Q I h;refine UnaryOp_ (bR (f pins s σ H _ I h) fun v s1⟨x,H1,I1,r1,e⟩=>?_);obtain⟨c,rfl,e⟩:=e;cases r1;exact not_of (wpAny_truthy_bool ⟨.bl (!c),H1,I1,rfl,e⟩)
def tIf(t:TT)(ta tb:TE):TE:=fun σ H Q=>t σ H fun c e=>if c=true then ta σ e Q else tb σ e Q
theorem Ik{c:Expr}(hc:PT X c tA)(f:PE X a ta)(g:PE X b tb):PE X (.IfExp c a b pos) (tIf tA ta tb):=by intro pins s σ H Q I h;refine wpAny_IfExp (bR (hc pins s σ H _ I h) fun d s1⟨e,I1,q1⟩=>?_);cases d with|true=>exact f pins s1 σ e Q I1 q1|false=>exact g pins s1 σ e Q I1 q1
end
def eV(K:PySem.W.Frag)(H:Hp)(a:Addr)(xs:List V):Prop:=Rd H a (.lst xs)\/∃(o:Obj)(b:Array Value)(n:Nat),K.lookup a=some o/\o.cls=.type "list"/\o.dict=none/\o.data=.seq b n/\b.size<=sizeLine/\Vals xs b.toList
def iQ(K:PySem.W.Frag)(H:Hp)(a:Addr)(xs:List V):Prop:=Rd H a (.tup xs)\/∃(o:Obj)(b:Array Value)(n:Nat),K.lookup a=some o/\o.cls=.type "tuple"/\o.data=.seq b n/\b.size<=sizeLine/\Vals xs b.toList
noncomputable def aeE:Value->Option V|.none=>some .non|.bool b=>some (.bl b)|.int i _=>some (.int i)|.str x _=>some (.str x)|.bytes b _=>some (.byt b)|.float b _=>some (.flt b)|.ref a=>some (.ref a)|.type n=>some (.ty n)|_=>none
theorem RelV.abs{x:V}{u:Value}(r:RelV x u):aeE u=some x:=by cases x with|non=>cases r;rfl|bl _=>cases r;rfl|int _=>obtain⟨t,rfl⟩:=r;rfl|str _=>obtain⟨t,rfl⟩:=r;rfl|byt _=>obtain⟨t,rfl⟩:=r;rfl|flt _=>obtain⟨t,rfl⟩:=r;rfl|ref _=>cases r;rfl|ty _=>cases r;rfl
theorem RelV.inj{x y:V}{u:Value}(r:RelV x u)(q:RelV y u):x=y:=Option.some.inj (r.abs.symm.trans q.abs)
theorem Vals.inj:∀{xs ys:List V}{us:List Value},Vals xs us->Vals ys us->xs=ys|_,_,_,.nil,.nil=>rfl|_,_,_,.cons r t,.cons a t'=>by rw[r.inj a,Vals.inj t t']
section
variable{X:Cx}{pins:List (Addr×Obj)}{σ:St}{H:Hp}{s:Shared}{a:Addr}{xs ys:List V}
theorem eV.of(h:H a=some (.lst xs)):eV K H a xs:=.inl (.inl h)
theorem iQ.of(h:H a=some (.tup xs)):iQ K H a xs:=.inl (.inl h)
theorem Inv.list(I:Inv X pins σ H s)(h:eV X.K H a xs):∃b:List Value,Vals xs b/\PlainL s.heap a b.toArray/\xs.length<=sizeLine:=by
 rcases h with h|⟨o,b,n,c,hc,hd,hs,hz,r⟩;.obtain⟨z,b,n,r,e⟩:=h.ok I.hok;exact⟨b,r,⟨_,n,e,rfl,rfl,rfl⟩,z⟩
 .refine⟨b.toList,r,⟨o,n,I.Pb a o c,hc,hd,by simpa using hs⟩,?_⟩;have e:=r.length;simp only[length_toList]at e;omega
theorem Inv.tuple(I:Inv X pins σ H s)(h:iQ X.K H a xs):∃b:List Value,Vals xs b/\IsTup s.heap a b.toArray/\xs.length<=sizeLine:=by
 rcases h with h|⟨o,b,n,c,hc,hs,hz,r⟩;.obtain⟨z,b,r,p⟩:=h.ok I.hok;exact⟨b,r,p,z⟩
 .refine⟨b.toList,r,⟨o,I.Pb a o c,hc,n,by simpa using hs⟩,?_⟩;have e:=r.length;simp only[length_toList]at e;omega
theorem Inv.mW(I:Inv X pins σ H s)(h:eV X.K H a xs)(h':eV X.K H a ys):xs=ys:=by
 obtain⟨b,r,⟨o,n,e,_,_,d⟩,_⟩:=I.list h;obtain⟨its',f,⟨g,j,c,_,_,d'⟩,_⟩:=I.list h';rw[e]at c;cases c;rw[d]at d';injection d' with d1 _;have:b=its':=by simpa using congrArg toList d1
 subst this;exact r.inj f
theorem Inv.kj(I:Inv X pins σ H s)(h:iQ X.K H a xs)(h':iQ X.K H a ys):xs=ys:=by
 obtain⟨b,r,⟨o,e,_,n,d⟩,_⟩:=I.tuple h;obtain⟨its',f,⟨g,c,_,j,d'⟩,_⟩:=I.tuple h';rw[e]at c;cases c;rw[d]at d';injection d' with d1 _;have:b=its':=by simpa using congrArg toList d1
 subst this;exact r.inj f
end
noncomputable abbrev Cx.wish(X:Cx)(E:Value->Shared->Prop):Cx:={X with xe:=E}
noncomputable abbrev Cx.ZJ(X:Cx):Cx:=X.wish fun _ _=>False
theorem Cx.Ok.wish{X:Cx}(ok:X.Ok)(E:Value->Shared->Prop):(X.wish E).Ok:=⟨ok.mod,ok.kind,ok.glob,ok.blt,ok.above,ok.inj,ok.has,ok.cab,ok.hd,ok.frames,ok.stk,ok.exf,ok.bs,ok.Qi,ok.JM,ok.N5,ok.rE,ok.Xa⟩
theorem Cx.Ok.jK{E:Value->Shared->Prop}(ok:(X.wish E).Ok):X.Ok:=⟨ok.mod,ok.kind,ok.glob,ok.blt,ok.above,ok.inj,ok.has,ok.cab,ok.hd,ok.frames,ok.stk,ok.exf,ok.bs,ok.Qi,ok.JM,ok.N5,ok.rE,ok.Xa⟩
section
variable{X:Cx}{pins:List (Addr×Obj)}{σ:St}{H:Hp}{s:Shared}{E:Value->Shared->Prop}
theorem Inv.wish(I:Inv X pins σ H s)(E:Value->Shared->Prop):Inv (X.wish E) pins σ H s:=⟨I.ok.wish E,I.os,I.bare,I.base,I.loc,I.cell,I.free,I.lB,I.pin,I.hok,I.len⟩
theorem Inv.jK(I:Inv (X.wish E) pins σ H s):Inv X pins σ H s:=⟨I.ok.jK,I.os,I.bare,I.base,I.loc,I.cell,I.free,I.lB,I.pin,I.hok,I.len⟩
theorem SP.jK{D:Ends}{f:Flow}{c:Shared}(h:SP (X.wish E) pins D f c):SP X pins D f c:=by cases f with|next=>obtain⟨a,b,I,q⟩:=h;exact⟨a,b,I.jK,q⟩|brk=>obtain⟨a,b,I,q⟩:=h;exact⟨a,b,I.jK,q⟩|cont=>obtain⟨a,b,I,q⟩:=h;exact⟨a,b,I.jK,q⟩|ret u=>obtain⟨v,a,b,I,r,q⟩:=h;exact⟨v,a,b,I.jK,r,q⟩
theorem xn.ZJ{st:List Stmt}{t:TS}(h:xn X.ZJ st t):xn X st t:=fun pins s σ H D I a=>wpAny_mono (h pins s σ H D (I.wish _) a) (fun _ _ q=>q.jK) fun _ _ z=>False.elim z
end
section
variable{X:Cx}{st:Stmt}{rest:List Stmt}{t u:TS}{e:Expr}{te:TE}{pos:Pos}
def YX:TS:=fun D σ H=>D.nx σ H
def aeM(t u:TS):TS:=fun D σ H=>t {D with nx:=u D} σ H
theorem CQ:xn X [] YX:=fun _ _ σ H _ I h=>wpAny_execs_nil ⟨σ,H,I,h⟩
theorem lX(h1:PS X st t)(b:xn X rest u):xn X (st::rest) (aeM t u):=by intro pins s σ H D I h;refine wpAny_execs_cons (bR (h1 pins s σ H {D with nx:=u D} I h) fun f s1 q=>?_);cases f with|next=>obtain⟨a,c,g,q⟩:=q;exact b pins s1 a c D g q|ret v=>exact q|brk=>exact q|cont=>exact q
theorem Inv.quiet{σ:St}(I:Inv X pins σ H s):interactive X.env=false:=by simp[interactive,I.ok.kind]
def YD(te:TE):TS:=fun D σ H=>te σ H fun _ a=>D.nx σ a
theorem pW(he:PE X e te)(hs:swapsWith e none pos.line X.env=pure false:=by rfl):PS X (.Expr e pos) (YD te):=by intro pins s σ H D I h;exact wpAny_Expr_any (bR (he pins s σ H _ I h) fun v s1⟨x,H1,I1,r1,q1⟩=>⟨σ,H1,I1,q1⟩) I.quiet hs
def adM(te:TE):TS:=fun D σ H=>te σ H D.rt
theorem Jm(he:PE X e te):PS X (.Return (some e) pos) (adM te):=by intro pins s σ H D I h;exact wpAny_Return_some (bR (he pins s σ H _ I h) fun v s1⟨x,H1,I1,r1,q1⟩=>⟨x,σ,H1,I1,r1,q1⟩)
def acP(c:TT)(t u:TS):TS:=fun D σ H=>c σ H fun b a=>if b=true then t D σ a else u D σ a
theorem Oz{c:Expr}{a b:List Stmt}{f:TT}(hc:PT X c f)(j:xn X a t)(k:xn X b u):PS X (.If c a b pos) (acP f t u):=by intro pins s σ H D I h;refine wpAny_If (bR (hc pins s σ H _ I h) fun d s1⟨g,I1,q1⟩=>?_);cases d with|true=>exact j pins s1 σ g D I1 q1|false=>exact k pins s1 σ g D I1 q1
def U6:TS:=fun _ _ _=>False
theorem GF:PS X st U6:=fun _ _ _ _ _ _ h=>h.elim
end
abbrev TG:=V->St->Hp->(St->Hp->Prop)->Prop
abbrev FP:=List V->St->Hp->(St->Hp->Prop)->Prop
def PG(X:Cx)(a:Expr)(t:TG):Prop:=∀(pins:List (Addr × Obj))(s:Shared)(σ:St)(H:Hp)(v:V)(u:Value)(Q:St->Hp->Prop),Inv X pins σ H s->RelV v u->t v σ H Q->wpAny (model X.prog X.w) X.A (assign a X.env u) (fun _ e=>∃b c,Inv X pins b c e/\Q b c) X.xe s
def PGs(X:Cx)(c:List Expr)(t:FP):Prop:=∀(pins:List (Addr × Obj))(s:Shared)(σ:St)(H:Hp)(vs:List V)(us:List Value)(Q:St->Hp->Prop),Inv X pins σ H s->Vals vs us->t vs σ H Q->wpAny (model X.prog X.w) X.A (assignInOrder ((assignEach c X.env).map (·.2)) us) (fun _ e=>∃a b,Inv X pins a b e/\Q a b) X.xe s
abbrev Jv:=V->V->V->Hp->(Hp->Prop)->Prop
def Q0(X:Cx)(t:Jv):Prop:=∀(pins:List (Addr × Obj))(s:Shared)(σ:St)(H:Hp)(o i v:V)(a iv u:Value)(Q:Hp->Prop),Inv X pins σ H s->RelV o a->RelV i iv->RelV v u->t o i v H Q->wpAny (model X.prog X.w) X.A (setItem a iv u) (fun _ c=>∃b,Inv X pins σ b c/\Q b) X.xe s
abbrev V7:=V->V->Hp->VK->Prop
def Ou(X:Cx)(op:Operator)(t:V7):Prop:=∀(pins:List (Addr × Obj))(s:Shared)(σ:St)(H:Hp)(x y:V)(v u:Value)(Q:VK),Inv X pins σ H s->RelV x v->RelV y u->t x y H Q->wpAny (model X.prog X.w) X.A (inplaceOp op v u) (EP X pins σ Q) X.xe s
section
variable{X:Cx}{pos:Pos}
def jD(i:Nat):TG:=fun v σ H Q=>Q (σ.set i (some v)) H
theorem aL{x:Str}(a:X.N.Nodup)(hi:X.N[i]?=some x)(b:Loc X.env.scope x)(c:X.fn x=true\/X.env.scope.names.lookup x=some .local:=by first|exact .inl rfl|exact .inr rfl|assumption):PG X (.Name x pos) (jD i):=by intro pins s σ H v u Q I r h;exact wpAny_assign_Name (jt I a hi b r (fun f e=>⟨_,H,e,h⟩) c)
def Qw:FP:=fun vs σ H Q=>vs=[]/\Q σ H
def Gz(t:TG)(u:FP):FP:=fun vs σ H Q=>∃v r,vs=v::r/\t v σ H fun a b=>u r a b Q
theorem dF:PGs X [] Qw:=by intro pins s σ H vs us Q I r h;obtain⟨e,h⟩:=h;subst e;cases r;exact assignInOrder_nil ⟨σ,H,I,h⟩
theorem aV{e:Expr}{es:List Expr}{t:TG}{u:FP}(h1:PG X e t)(b:PGs X es u)(hs:(assignEach (e::es) X.env).map (·.2)=assign e X.env::(assignEach es X.env).map (·.2):=by rfl):PGs X (e::es) (Gz t u):=by intro pins s σ H vs us Q I r h;obtain⟨v,g,c,h⟩:=h;subst c;cases r with|cons r f=>rw[hs];refine assignInOrder_cons (bR (h1 pins s σ H _ _ _ I r h) fun _ s1⟨a,H1,I1,q1⟩=>?_);exact b pins s1 a H1 _ _ Q I1 f q1
def T7(K:PySem.W.Frag)(n:Nat)(t:FP):TG:=fun v σ H Q=>∃a xs,v=.ref a/\iQ K H a xs/\xs.length=n/\t xs σ H Q
theorem fJ{es:List Expr}{k:Nat}{t:FP}{n:Nat}(hc:X.calm=true)(h:PGs X es t)(g:(assignEach es X.env).length=n:=by rfl)(hst:(assignEach es X.env).findIdx? (·.1)=none:=by rfl):PG X (.Tuple es k pos) (T7 X.K n t):=by intro pins s σ H v u Q I r c;obtain⟨a,xs,j,l,m,c⟩:=c;subst j;cases r;obtain⟨p,f,ht,hz⟩:=I.tuple l;refine assign_Tuple_tuple (I.ok.hd hc) ht (by simp[g,<-m,f.length]) hst fun h' q=>?_;have x:Inv X pins σ H {s with heap:=h'}:=I.kept (t':=s.toks) fun b o e=>q b o (ne_of_lt (lt_size e)) e;exact h pins _ σ H xs _ Q x (by simpa using f) c
def adt(to a:TE)(t:Jv):TG:=fun v σ H Q=>to σ H fun o b=>a σ b fun i c=>t o i v c fun e=>Q σ e
theorem Rb{o i:Expr}{to b:TE}{t:Jv}(ho:PE X o to)(hi:PE X i b)(hs:Q0 X t)(c:∀ v,assign (.Subscript o i pos) X.env v=(do
  let a<-holding [v] (eval o X.env)let iv<-holding [v,a] (eval i X.env)standAt pos
  holding [v,a,iv] (setItem a iv v)release [v,a,iv] []):=by intro _;rfl):PG X (.Subscript o i pos) (adt to b t):=by intro pins s σ H v u Q I r h;rw[c];refine wpAny_bind (wpAny_holding (bR (ho pins s σ H _ I h) fun a s1⟨x,H1,I1,r1,q1⟩=>?_));refine wpAny_bind (wpAny_holding (bR (hi pins s1 σ H1 _ I1 q1) fun iv s2⟨y,H2,I2,r2,q2⟩=>?_));refine wpAny_bind (wpAny_standAt (wpAny_bind (wpAny_holding (bR (hs pins s2 σ H2 x y v a iv u _ I2 r1 r2 r q2) fun _ s3⟨e,I3,q3⟩=>?_))));exact wpAny_release ⟨σ,e,I3,q3⟩
def Sd(te:TE)(g:TG):TS:=fun D σ H=>te σ H fun x a=>g x σ a D.nx
theorem GQ{e:Expr}{g:TG}(he:PE X e te)(a:PG X tg g)(hs:swapsWithSole [tg] e pos.line X.env=pure false:=by rfl)(b:swappedStores [tg] e X.env=pure none:=by rfl)(h1:(assignEach [tg] X.env).map (·.2)=[assign tg X.env]:=by rfl):PS X (.Assign [tg] e pos) (Sd te g):=by intro pins s σ H D I h;refine wpAny_Assign_stores (bR (he pins s σ H _ I h) fun v s1⟨x,H1,I1,r1,q1⟩=>?_) hs b;rw[h1];exact bR (a pins s1 σ H1 x v _ I1 r1 q1) fun _ s2 q=>q
theorem u6{x:Str}{e:Expr}{a:Pos}(b:X.N.Nodup)(hi:X.N[i]?=some x)(c:Loc X.env.scope x)(he:PE X e te)(hs:swapsWith e (some (.Name x a)) pos.line X.env=pure false:=by rfl)(f:X.fn x=true\/X.env.scope.names.lookup x=some .local:=by first|exact .inl rfl|exact .inr rfl|assumption):PS X (.Assign [.Name x a] e pos) (Sd te (jD i)):=by intro pins s σ H D I h;refine wpAny_Assign_Name (bR (he pins s σ H _ I h) fun v s1⟨y,H1,I1,r1,q1⟩=>?_) hs;exact jt I1 b hi c r1 (fun s2 g=>⟨_,H1,g,q1⟩) f
def ae0(i j:Nat)(a:TA):TS:=fun D σ H=>a σ H fun vs b=>∃v w,vs=[v,w]/\D.nx ((σ.set i (some v)).set j (some w)) b
theorem RD{j:Nat}{x y:Str}{a b:Expr}{r:TA}{g k pt:Pos}{kt k2 Vf}(hc:X.calm=true)(t:X.N.Nodup)(hi:X.N[i]?=some x)(C:X.N[j]?=some y)(l:i≠j)(u:X.env.scope.names.lookup x=some .local)(z:X.env.scope.names.lookup y=some .local)(E:PA X [a,b] r)(G:swappedStores [.Tuple [.Name x g,.Name y k] kt pt] (.Tuple [a,b] k2 Vf) X.env=pure (some [x,y]))(hs:swapsWithSole [.Tuple [.Name x g,.Name y k] kt pt] (.Tuple [a,b] k2 Vf) pos.line X.env=pure false:=by rfl):PS X (.Assign [.Tuple [.Name x g,.Name y k] kt pt] (.Tuple [a,b] k2 Vf) pos) (ae0 i j r):=by
 intro pins s σ H D I h;rw[exec_Assign_arm];refine wpAny_bind (wpAny_standAt ?_);rw[hs];refine wpAny_bind (wpAny_pure ?_);rw[if_neg (by decide)];refine wpAny_bind (Tuple_ (bR (E _ pins s σ H _ I h) fun us s1⟨vs,H1,I1,r1,m⟩=>?_));obtain⟨v,w,J,m⟩:=m;subst J;obtain⟨c,f,rfl,L,O⟩:∃c f,us=[c,f]/\RelV v c/\RelV w f:=by cases r1 with|cons p q=>cases q with|cons Q U=>cases U;exact⟨_,_,rfl,p,Q⟩
 refine wpAny_newObj_type ?_ (by show 2<=sizeLine;decide);have W:Inv X pins σ H1 {s1 with heap:=s1.heap.push {cls:=.type "tuple",data:=.seq [c,f].toArray}}:=I1.kept (t':=s1.toks) fun b o e=>dG e;rw[G];refine wpAny_bind (wpAny_pure ?_);show wpAny (model X.prog X.w) X.A (do rule "assign.swapped-stores";let items<-unpackItems (.ref s1.heap.objs.size) 2 none;assignInOrder [fun v=>bindName X.env y v,fun v=>bindName X.env x v] items.reverse;pure Flow.next) _ _ _;refine wpAny_bind (wpAny_rule (wpAny_bind (unpackItems_tuple (items:=#[c,f]) (I.ok.hd hc) (IsTup.new s1.heap _) fun h' n=>?_)));have Y:=W.kept (h':=h') (t':=s1.toks) fun b o e=>n b o (ne_of_lt (lt_size e)) e;show wpAny _ _ (assignInOrder [fun v=>bindName X.env y v,fun v=>bindName X.env x v] [f,c]>>=fun _=>pure Flow.next) _ _ _;refine wpAny_bind (assignInOrder_cons (wpAny_bindName (jt Y t C (.inl z) O (fun s2 Z=>?_) (.inr z))));refine assignInOrder_cons (wpAny_bindName (jt Z t hi (.inl u) L (fun s3 B=>assignInOrder_nil (wpAny_pure ?_)) (.inr u)));rw[List.set_comm _ _ (Ne.symm l)]at B;exact⟨_,H1,B,m⟩
def adY(i:Nat)(te:TE)(a:V7):TS:=fun D σ H=>∃x,σ[i]?=some (some x)/\te σ H fun y b=>a x y b fun z c=>D.nx (σ.set i (some z)) c
theorem U5{x:Str}{e:Expr}{op:Operator}{o:V7}{b:Pos}(p:X.N.Nodup)(hi:X.N[i]?=some x)(j:Loc X.env.scope x)(he:PE X e te)(ho:Ou X op o)(q:X.fn x=true\/X.env.scope.names.lookup x=some .local:=by first|exact .inl rfl|exact .inr rfl|assumption):PS X (.AugAssign (.Name x b) op e pos) (adY i te o):=by
 intro pins s σ H D I h;obtain⟨v,t,h⟩:=h;obtain⟨m,B,C⟩:=I.loc;have n:vV X.env.scope x:=by rcases j with k|k;exact .inl k;exact .inr (.inl k)
 obtain⟨u,r,l⟩:=C i x v hi t n;refine wpAny_AugAssign_Name ?_;have go:wpAny (model X.prog X.w) X.A (eval e X.env) (fun w f=>wpAny (model X.prog X.w) X.A (inplaceOp op u w) (fun r g=>wpAny (model X.prog X.w) X.A (storeName X.env x r) (fun _=>SP X pins D .next) X.xe g) X.xe f) X.xe s:=by refine bR (he pins s σ H _ I h) fun w s1⟨y,H1,I1,r1,q1⟩=>?_;refine bR (ho pins s1 σ H1 v y u w _ I1 r r1 q1) fun z s2⟨J,H2,I2,r2,q2⟩=>?_;exact jt I2 p hi j r2 (fun s3 E=>⟨_,H2,E,q2⟩) q
 rcases l with⟨hk,G⟩|⟨hk,c,hc,a⟩;.exact wpAny_loadName_local I.ok.kind hk B G go
 . rcases hk with hk|hk;.exact wpAny_loadName_cell I.ok.kind hk hc a go
   . rcases j with k|k;.have:X.env.scope.names.lookup x=some .free:=hk;rw[k]at this;cases this
     .have:X.env.scope.names.lookup x=some .free:=hk;rw[k]at this;cases this
def Yz(to b te:TE)(c:V->V->Hp->VK->Prop)(a:V7)(e:Jv):TS:=fun D σ H=>to σ H fun o f=>b σ f fun i g=>c o i g fun x j=>te σ j fun y k=>a x y k fun z l=>e o i z l fun m=>D.nx σ m
def Yc(X:Cx)(t:V->V->Hp->VK->Prop):Prop:=∀(pins:List (Addr × Obj))(s:Shared)(σ:St)(H:Hp)(o i:V)(a iv:Value)(Q:VK),Inv X pins σ H s->RelV o a->RelV i iv->t o i H Q->wpAny (model X.prog X.w) X.A (getItem a iv) (EP X pins σ Q) X.xe s
theorem Mz{o i e:Expr}{to j:TE}{k:V->V->Hp->VK->Prop}{c:V7}{l:Jv}{op:Operator}{f:Pos}(ho:PE X o to)(hi:PE X i j)(p:Yc X k)(he:PE X e te)(q:Ou X op c)(hs:Q0 X l)(r:∀b iv a,augStore i b iv a=(do holding [a,b,iv] (setItem b iv a);release [a,b,iv] [];pure .next):=by intros;rfl):PS X (.AugAssign (.Subscript o i f) op e pos) (Yz to j te k c l):=by intro pins s σ H D I h;refine wpAny_AugAssign_SubscriptAny (bR (ho pins s σ H _ I h) fun b s1⟨m,H1,I1,r1,q1⟩=>?_) r;refine bR (hi pins s1 σ H1 _ I1 q1) fun iv s2⟨n,H2,I2,r2,q2⟩=>?_;refine bR (p pins s2 σ H2 m n b iv _ I2 r1 r2 q2) fun g s3⟨t,H3,I3,r3,q3⟩=>?_;refine bR (he pins s3 σ H3 _ I3 q3) fun v s4⟨u,H4,I4,r4,q4⟩=>?_;refine bR (q pins s4 σ H4 t u g v _ I4 r3 r4 q4) fun a s5⟨x,H5,I5,r5,q5⟩=>?_;exact bR (hs pins s5 σ H5 m n x b iv a _ I5 r1 r2 r5 q5) fun _ s6⟨y,I6,q6⟩=>⟨σ,y,I6,q6⟩
def Vz(f:Int->Int->Int):V7:=fun x y H Q=>∃i j,x=.int i/\y=.int j/\Q (.int (f i j)) H
theorem Tr:Ou X .Add (Vz fun i j=>i+j):=by intro pins s σ H x y v u Q I r1 a h;obtain⟨i,j,b,c,q⟩:=h;subst b;subst c;obtain⟨t,rfl⟩:=r1;obtain⟨t',rfl⟩:=a;exact iadd_int ⟨.int _,H,I.tok _,⟨_,rfl⟩,q⟩
theorem Vd:Ou X .Sub (Vz fun i j=>i-j):=by intro pins s σ H x y v u Q I r1 a h;obtain⟨i,j,b,c,q⟩:=h;subst b;subst c;obtain⟨t,rfl⟩:=r1;obtain⟨t',rfl⟩:=a;exact isub_int ⟨.int _,H,I.tok _,⟨_,rfl⟩,q⟩
end
section
variable{X:Cx}{pos:Pos}
def S5(c:TT)(j:TS):TS:=fun D σ H=>∃W:Nat->St->Hp->Prop,(∃m,W m σ H)/\∀m σ H,W m σ H->c σ H fun b e=>if b=true then ∃N:St->Hp->Prop,(∀a f,N a f->∃g,g<m/\W g a f)/\j {D with nx:=N,ct:=N,bk:=D.nx} σ e else D.nx σ e
theorem Jy{c:Expr}{body:List Stmt}{u:TT}{x:TS}(y:PassesOwn (model X.prog X.w) X.A X.env X.xe)(hc:PT X c u)(G:xn X body x):PS X (.While c body [] pos) (S5 u x):=by intro pins s σ H D I h;obtain⟨W,⟨m0,J⟩,g⟩:=h;refine wpAny_While (codeAny_whileLoop (fun n L=>∃j z,Inv X pins j z L/\W n j z) ?_ m0 ⟨σ,H,I,J⟩);rintro n s1⟨e,B,O,Q⟩;refine wpAny_passesOwn y (bR (hc pins s1 e B _ O (g n e B Q)) fun b s2⟨C,I2,l⟩=>?_);cases b with
 |true=>obtain⟨N,E,l⟩:=l;rw[if_pos rfl];refine wpAny_passesOwn y (bR (G pins s2 e C _ I2 l) fun f s3 m=>?_);cases f with|next=>obtain⟨a,k,o,p⟩:=m;obtain⟨q,r,t⟩:=E a k p;exact⟨q,r,a,k,o,t⟩|cont=>obtain⟨a,k,o,p⟩:=m;obtain⟨q,r,t⟩:=E a k p;exact⟨q,r,a,k,o,t⟩|brk=>exact m|ret v=>exact m
 |false=>rw[if_neg Bool.false_ne_true];exact wpAny_execs_nil ⟨e,C,I2,l⟩
end
structure It where
 go:Nat->Hp->Prop
 JP:Nat->Hp->V->Hp->Prop
 stop:Nat->Hp->Prop
def nZ(X:Cx)(pins:List (Addr×Obj))(H:Hp)(b:Addr):Prop:=H b=none/\b≠X.env.locals/\b∉X.fs/\(b∈X.ex\/X.s₀.heap.objs.size<=b)/\(∀x c,X.env.cells.lookup x=some c->c≠b)/\∀p∈X.pn++pins,p.1≠b
theorem Inv.zq{σ:St}{f:Hp}{b:Addr}(I:Inv X pins σ H s)(a:s.heap.objs.size<=b)(g:f b=none):nZ X pins f b:=by
 refine⟨g,ne_of_gt (lt_of_lt_of_le I.lt a),I.adP a,.inr (le_trans I.sz a),fun x c e z=>?_,fun p j z=>?_⟩;.obtain⟨v,q⟩:=I.cell x c e;exact absurd (lt_of_lt_of_le q.lt (by rw[z];exact a)) (lt_irrefl _)
 .exact absurd (lt_of_lt_of_le (lt_size (I.pin p j).1) (by rw[z];exact a)) (lt_irrefl _)
structure Turn(P:Program)(w:World)(K:PySem.W.Frag)(tg:Expr)(J:It)(fp:List Addr)(it:Addr)(tn:Nat->Heap->Prop):Prop where
 mem:it∈fp
 obj:∀i h,tn i h->∀b∈fp,∃o,h.get? b=some o/\∀v,o.data≠.cell v
 keep:∀i h h',tn i h->(∀b∈fp,∀o,h.get? b=some o->h'.get? b=some o)->tn i h'
 item:∀(X:Cx),X.prog=P->X.w=w->X.K=K->X.calm=true->∀(i:Nat)(pins:List (Addr×Obj))(s:Shared)(σ:St)(H:Hp)(E:Value->Shared->Prop),Inv X pins σ H s->(∀b∈fp,nZ X pins H b)->tn i s.heap->J.go i H->wpAny (model P w) X.A (pyNext (.ref it)) (fun r s1=>∃u,r=some u/\wpAny (model P w) X.A (letOwnedTupleGo tg (.ref it) u) (fun _ s2=>∃x H',Inv X pins σ H' s2/\RelV x u/\J.JP i H x H'/\tn (i+1) s2.heap/\∀b∈fp,H' b=none) E s1) E s
 done:∀(X:Cx),X.prog=P->X.w=w->X.K=K->X.calm=true->∀(i:Nat)(pins:List (Addr×Obj))(s:Shared)(σ:St)(H:Hp)(E:Value->Shared->Prop),Inv X pins σ H s->(∀b∈fp,nZ X pins H b)->tn i s.heap->J.stop i H->wpAny (model P w) X.A (pyNext (.ref it)) (fun r s1=>r=none/\Inv X pins σ H s1) E s
 self:∀(A:Around)(i:Nat)(s:Shared)(Q:Value->Shared->Prop)(E:Value->Shared->Prop),tn i s.heap->Q (.ref it) s->wpAny (model P w) A (pyIter (.ref it)) Q E s
abbrev TI:=St->Hp->(It->Hp->Prop)->Prop
def PIE(X:Cx)(pins:List (Addr×Obj))(σ:St)(tg:Expr)(R:It->Hp->Prop)(a:Value)(s2:Shared):Prop:=∃(it:Addr)(e:List Addr)(f:Nat->Heap->Prop)(J:It)(c:Hp),a=.ref it/\Inv X pins σ c s2/\Turn X.prog X.w X.K tg J e it f/\f 0 s2.heap/\(∀b∈e,nZ X pins c b)/\R J c
def PI(X:Cx)(tg iter:Expr)(a:TI):Prop:=∀(pins:List (Addr × Obj))(s:Shared)(σ:St)(H:Hp)(R:It->Hp->Prop),Inv X pins σ H s->a σ H R->wpAny (model X.prog X.w) X.A (eval iter X.env) (fun v s1=>wpAny (model X.prog X.w) X.A (pyIter v) (PIE X pins σ tg R) X.xe s1) X.xe s
theorem Ca{E:Value->Shared->Prop}{it:Addr}{u:Value}{o:Obj}{n:String}{vs:Array Value}{Q:Unit->Shared->Prop}(ho:s.heap.get? it=some o)(hc:o.cls=.type n)(hd:o.data=.fields vs)(b:["enumerate","zip","dict_itemiterator","dict_reverseitemiterator","odict_iterator","itertools.zip_longest","itertools.pairwise"].contains n=false)(a:Q () s):wpAny M A (letOwnedTupleGo tg (.ref it) u) Q E s:=by unfold letOwnedTupleGo;cases tg<;>first|exact wpAny_pure a|(cases u<;>first|exact wpAny_pure a|(refine wpAny_bind (wpAny_load ho ?_);rw[hc,hd];show wpAny M A (if(["enumerate","zip","dict_itemiterator","dict_reverseitemiterator","odict_iterator","itertools.zip_longest","itertools.pairwise"].contains n&&vs[0]?==some (rawInt _))=true then _ else _) Q E s;rw[if_neg (by intro h;rw[b,Bool.false_and]at h;cases h)];exact wpAny_pure a))
noncomputable def UT(K:PySem.W.Frag)(a:Addr):It:=⟨fun i H=>∃xs x,eV K H a xs/\xs[i]?=some x,fun i H x b=>b=H/\∀xs,eV K H a xs->xs[i]?=some x,fun i H=>∃xs,eV K H a xs/\xs.length<=i⟩
noncomputable def W5(K:PySem.W.Frag)(a:Addr):It:=⟨fun i H=>∃xs x,iQ K H a xs/\xs[i]?=some x,fun i H x b=>b=H/\∀xs,iQ K H a xs->xs[i]?=some x,fun i H=>∃xs,iQ K H a xs/\xs.length<=i⟩
noncomputable def V4(lo:Int)(n:Nat):It:=⟨fun i _=>i<n,fun i H x a=>a=H/\x=.int (lo+i),fun i _=>n<=i⟩
theorem EY{P:Program}(a it:Addr):Turn P w K tg (UT K a) [it] it (fun i h=>h.IsListIter it a i)where
 mem:=by simp
 obj:=fun i h st b f=>by
  have e:b=it:=by simpa using f
  subst e;obtain⟨o,e,c,d⟩:=st;exact⟨o,e,fun v z=>by rw[d]at z;cases z⟩
 keep:=fun i h h' st k=>st.at fun o e=>k it (by simp) o e;item:=by intro X m n q hc i pins s σ H E I j st r;subst m n q;obtain⟨xs,x,l,t⟩:=r;obtain⟨y,B,p,hz⟩:=I.list l;obtain⟨u,C,G⟩:=B.get t;obtain⟨f0,f1,f2,f3,f4,f5⟩:=j it (by simp);refine wpAny_pyNext_list_item st p.isList (x:=u) (by simpa using C) fun h' g J=>?_;have L:Inv X pins σ H {s with heap:=h'}:=I.turned (t':=s.toks) (fun b o f e=>(J.2 b f).trans e) f0 f1 f3 f4 f5;obtain⟨o,e,c,d⟩:=id g;exact⟨u,rfl,Ca (s:={s with heap:=h'}) e c d (by decide) ⟨x,H,L,G,⟨rfl,fun ys N=>by rw[I.mW N l];exact t⟩,g,fun b f=>(j b f).1⟩⟩
 done:=by intro X m n q hc i pins s σ H E I j st r;subst m n q;obtain⟨xs,l,t⟩:=r;obtain⟨y,B,p,hz⟩:=I.list l;obtain⟨f0,f1,f2,f3,f4,f5⟩:=j it (by simp);have Q:=B.length;exact wpAny_pyNext_list_end (I.ok.hd hc) st p.isList (by simp;omega) fun h' O=>⟨rfl,I.turned (t':=s.toks) (fun b o f e=>O b o f e) f0 f1 f3 f4 f5⟩
 self:=fun _ _ _ _ _ st h=>wpAny_pyIter_listiter st h
theorem zP{P:Program}(a it:Addr):Turn P w K tg (W5 K a) [it] it (fun i h=>h.IsTupleIter it a i)where
 mem:=by simp
 obj:=fun i h st b f=>by
  have e:b=it:=by simpa using f
  subst e;obtain⟨o,e,c,d⟩:=st;exact⟨o,e,fun v z=>by rw[d]at z;cases z⟩
 keep:=fun i h h' st k=>st.at fun o e=>k it (by simp) o e;item:=by intro X n q r hc i pins s σ H E I l st t;subst n q r;obtain⟨xs,x,m,y⟩:=t;obtain⟨g,B,p,hz⟩:=I.tuple m;obtain⟨u,C,G⟩:=B.get y;obtain⟨f0,f1,f2,f3,f4,f5⟩:=l it (by simp);refine wpAny_pyNext_tuple_item st (show s.heap.IsTuple a g.toArray from p) (x:=u) (by simpa using C) fun h' j J=>?_;have L:Inv X pins σ H {s with heap:=h'}:=I.turned (t':=s.toks) (fun b o f e=>(J.2 b f).trans e) f0 f1 f3 f4 f5;obtain⟨o,e,c,d⟩:=id j;exact⟨u,rfl,Ca (s:={s with heap:=h'}) e c d (by decide) ⟨x,H,L,G,⟨rfl,fun ys N=>by rw[I.kj N m];exact y⟩,j,fun b f=>(l b f).1⟩⟩
 done:=by intro X n q r hc i pins s σ H E I l st t;subst n q r;obtain⟨xs,m,y⟩:=t;obtain⟨g,B,p,hz⟩:=I.tuple m;obtain⟨f0,f1,f2,f3,f4,f5⟩:=l it (by simp);have Q:=B.length;exact wpAny_pyNext_tuple_end (I.ok.hd hc) st (show s.heap.IsTuple a g.toArray from p) (by simp;omega) fun h' O=>⟨rfl,I.turned (t':=s.toks) (fun b o f e=>O b o f e) f0 f1 f3 f4 f5⟩
 self:=fun _ _ _ _ _ st h=>wpAny_pyIter_tupleiter st h
theorem zT{P:Program}(it:Addr)(lo:Int)(n:Nat):Turn P w K tg (V4 lo n) [it] it (fun i h=>IsRangeIter h it (lo+(i:Nat)*1) ((n:Int)-(i:Nat)) 1)where
 mem:=by simp
 obj:=fun i h st b a=>by
  have e:b=it:=by simpa using a
  subst e;exact⟨_,st,fun v z=>by have q:Data.fields _=Data.cell v:=z;cases q⟩
 keep:=fun i h h' st k=>k it (by simp) _ st;item:=by intro X g j l hc i pins s σ H E I f st m;subst g j l;obtain⟨f0,f1,f2,f3,f4,f5⟩:=f it (by simp);have W:=Walks.range (prog:=X.prog) (w:=X.w) (I.ok.hd hc) it lo 1 n;refine W.item i s _ _ m st fun v h' p r c u=>?_;obtain⟨t,rfl⟩:=r;have x:Inv X pins σ H {s with heap:=h',toks:=p}:=I.turned (fun b o a e=>u b o (by simpa using a) e) f0 f1 f3 f4 f5;refine⟨_,rfl,Ca (s:={s with heap:=h',toks:=p}) (n:="range_iterator") c rfl rfl (by decide) ⟨.int (lo+i),H,x,⟨t,?_⟩,⟨rfl,rfl⟩,c,fun b a=>(f b a).1⟩⟩;rw[mul_one]
 done:=by intro X g j l hc i pins s σ H E I f st m;subst g j l;obtain⟨f0,f1,f2,f3,f4,f5⟩:=f it (by simp);exact wpAny_pyNext_range_end (I.ok.hd hc) st (by have:n<=i:=m;omega) fun h' y=>⟨rfl,I.turned (t':=s.toks) (fun b o a e=>y b o a e) f0 f1 f3 f4 f5⟩
 self:=fun _ _ _ _ _ st h=>wpAny_pyIter_rangeiter st h
section
variable{X:Cx}{tg:Expr}
theorem wC{σ:St}{R:It->Hp->Prop}{E:Value->Shared->Prop}{lo hi:Int}{t u v:Tok}{a:Nat}(I:Inv X pins σ H s)(h1:-(2^62)<=lo)(f:lo<2^62)(g:-(2^62)<=hi)(j:hi<2^62)(q:R (V4 lo (hi-lo).toNat) H):wpAny (model X.prog X.w) X.A (pyIter (.ref s.heap.objs.size)) (PIE X pins σ tg R) E {s with heap:=s.heap.push {cls:=.type "range",data:=.fields #[.int lo t,.int hi u,.int 1 v]},toks:=a}:=by
 refine wpAny_pyIter_range (IsRange.new ..) (small_one h1 f g j) ?_;have c:Inv X pins σ H {s with heap:=s.heap.push {cls:=.type "range",data:=.fields #[.int lo t,.int hi u,.int 1 v]},toks:=a}:=I.kept fun b o e=>dG e;refine⟨(s.heap.push {cls:=.type "range",data:=.fields #[.int lo t,.int hi u,.int 1 v]}).objs.size,[(s.heap.push {cls:=.type "range",data:=.fields #[.int lo t,.int hi u,.int 1 v]}).objs.size],_,_,H,rfl,c.kept (t':=a) fun b o e=>dG e,zT _ lo (hi-lo).toNat,?_,fun b k=>?_,q⟩
 . have l:lo+((0:Nat):Int)*1=lo:=by simp
   have m:(((hi-lo).toNat:Nat):Int)-((0:Nat):Int)=Builtin.Range.rangeSize lo hi 1:=by rw[rangeSize_one];split<;>omega
   show IsRangeIter _ _ (lo+((0:Nat):Int)*1) ((((hi-lo).toNat:Nat):Int)-((0:Nat):Int)) 1;rw[l,m];exact get?_push_size _ rfl
 . have e:b=(s.heap.push {cls:=.type "range",data:=.fields #[.int lo t,.int hi u,.int 1 v]}).objs.size:=by simpa using k
   subst e;exact c.zq (dz) (c.hok.fresh (dz))
def YF(a:TA):TI:=fun σ H R=>a σ H fun vs b=>∃j:Int,vs=[.int j]/\-(2^62)<=j/\j<2^62/\R (V4 0 j.toNat) b
def XC(a:TA):TI:=fun σ H R=>a σ H fun vs b=>∃i j:Int,vs=[.int i,.int j]/\(-(2^62)<=i/\i<2^62/\-(2^62)<=j/\j<2^62)/\R (V4 i (j-i).toNat) b
theorem tW{a:Expr}{c:TA}{p:Pos}(f:Gl X "range")(g:X.mg "range"=none)(k:PA X [a] c)(hs:starEach [a] X.env=[(false,eval a X.env)]:=by rfl):PI X tg (.Call (.Name "range" p) [a] [] pos) (YF c):=by intro pins s σ H R I h;refine Call_ (gn I f g boot_range (PyProof.Rows.callWith_type1 (bR (k pos pins s σ H _ I h) fun us s1⟨vs,H1,I1,r1,b⟩=>?_) hs rfl));obtain⟨j,e,b,l,q⟩:=b;subst e;cases r1 with|cons r m=>cases m;obtain⟨t,rfl⟩:=r;exact call_range_1 (wC I1 (by omega) (by omega) b l (by simpa using q))
theorem Ei{a b:Expr}{k:TA}{p:Pos}(l:Gl X "range")(m:X.mg "range"=none)(n:PA X [a,b] k)(hs:starEach [a,b] X.env=[(false,eval a X.env),(false,eval b X.env)]:=by rfl)(c:starEach [b] X.env=[(false,eval b X.env)]:=by rfl):PI X tg (.Call (.Name "range" p) [a,b] [] pos) (XC k):=by intro pins s σ H R I h;refine Call_ (gn I l m boot_range (PyProof.Rows.callWith_type1 (bR (n pos pins s σ H _ I h) fun us s1⟨vs,H1,I1,r1,f⟩=>?_) (by rw[hs,c]) (by rw[c];rfl)));obtain⟨i,j,e,⟨f,o,u,v⟩,q⟩:=f;subst e;cases r1 with|cons r g=>cases g with|cons x g=>cases g;obtain⟨t,rfl⟩:=r;obtain⟨t',rfl⟩:=x;exact call_range_2 (wC I1 f o u v q)
def ae5(f:TI)(g:TG)(j:TS):TS:=fun D σ H=>f σ H fun J k=>∃W:Nat->Nat->St->Hp->Prop,(∃m,W 0 m σ k)/\∀i m σ H,W i m σ H->(J.stop i H/\D.nx σ H)\/(J.go i H/\∃N:St->Hp->Prop,(∀a b,N a b->∃e,e<m/\W (i+1) e a b)/\∀x b,J.JP i H x b->g x σ b fun c l=>j {D with nx:=N,ct:=N,bk:=D.nx} c l)
noncomputable def qy(a:List Addr)(h:Heap):List (Addr×Obj):=a.filterMap fun b=>(h.get? b).map fun o=>(b,o)
theorem iR{a:List Addr}{b:Addr}{o:Obj}(c:b∈a)(e:h.get? b=some o):(b,o)∈qy a h:=List.mem_filterMap.mpr ⟨b,c,by rw[e];rfl⟩
theorem Ft{a:List Addr}{p:Addr×Obj}(c:p∈qy a h):p.1∈a/\h.get? p.1=some p.2:=by obtain⟨b,f,e⟩:=List.mem_filterMap.mp c;cases q:h.get? b with|none=>rw[q]at e;cases e|some o=>rw[q]at e;have g:(b,o)=p:=Option.some.inj e;subst g;exact⟨f,q⟩
theorem Inv.pinned{σ:St}{a:List Addr}(I:Inv X pins σ H s)(g:∀b∈a,nZ X pins H b)(ho:∀b∈a,∃o,s.heap.get? b=some o/\∀v,o.data≠.cell v):Inv X (pins++qy a s.heap) σ H s:=I.BK fun p j=>(mem_append.mp j).elim (fun z=>I.pin p (mem_append_right _ z)) fun z=>by obtain⟨c,e⟩:=Ft z;obtain⟨f0,f1,f2,_⟩:=g p.1 c;obtain⟨o,f,d⟩:=ho p.1 c;rw[e]at f;cases f;exact⟨e,f0,f1,f2,d⟩
theorem Inv.mY{a:List (Addr×Obj)}{σ:St}(I:Inv X (pins++a) σ H s):Inv X pins σ H s:=I.BK fun p b=>I.pin p (mem_append_right _ (List.mem_append_left _ b))
theorem JH{iter:Expr}{body:List Stmt}{Z:TI}{g:TG}{tb:TS}(z:PassesOwn (model X.prog X.w) X.A X.env X.xe)(hc:X.calm=true)(hi:PI X tg iter Z)(hg:PG X tg g)(c:xn X body tb)(hs:∀x,foldedSetIterable iter X.env x=pure x:=by intro _;rfl):PS X (.For tg iter body [] pos) (ae5 Z g tb):=by
 intro pins s σ H D I h;refine wpAny_For (bR (hi pins s σ H _ I h) fun v s1 h1=>bR h1 fun ac s2 h2=>?_) hs;obtain⟨it,B,tn,J,H2,e,I2,T,Q,f2,W,⟨m0,w0⟩,C⟩:=h2;subst e--what stays true of the iterator's objects through the loop
 have j:∀{t:Hp},(∀b∈B,t b=none)->∀b∈B,nZ X pins t b:=fun hn b c=>⟨hn b c,(f2 b c).2⟩;refine codeAny_forLoop_any (fun n s'=>∃i k t,Inv X pins k t s'/\tn i s'.heap/\(∀b∈B,t b=none)/\W i n k t) ?_ m0 ⟨0,σ,H2,I2,Q,fun b c=>(f2 b c).1,w0⟩;rintro n s3⟨i,l,O,I3,E,G,w3⟩;rcases C i n l O w3 with⟨stop,qn⟩|⟨go,N,hN,step⟩;.refine wpAny_passesOwn z (bR (T.done X rfl rfl rfl hc i pins s3 l O X.xe I3 (j G) E stop) fun r s4⟨hr,I4⟩=>?_);subst hr;exact wpAny_execs_nil ⟨l,O,I4,qn⟩
 . refine wpAny_passesOwn z (bR (T.item X rfl rfl rfl hc i pins s3 l O X.xe I3 (j G) E go) fun r s4⟨u,hr,h4⟩=>?_);subst hr;refine wpAny_passesOwn z (bR h4 fun _ s5⟨x,H5,I5,r5,y5,st5,fr5⟩=>?_);have U:=I5.pinned (j fr5) (T.obj _ _ st5);refine wpAny_passesOwn z (bR (hg _ s5 l H5 x u _ U r5 (step x H5 y5)) fun _ s6⟨Y,H6,I6,q6⟩=>?_);refine wpAny_passesOwn z (bR (c _ s6 Y H6 _ I6 q6) fun f s7 y=>?_);have again:∀{a:St}{p:Hp},Inv X (pins++qy B s5.heap) a p s7->N a p->∃m,m<n/\∃i k t,Inv X pins k t s7/\tn i s7.heap/\(∀b∈B,t b=none)/\W i m k t:=fun{a p}q L=>by obtain⟨m',hm,w7⟩:=hN a p L;refine⟨m',hm,i+1,a,p,q.mY,T.keep _ _ _ st5 fun b c o e=>(q.pin (b,o) (mem_append_right _ (mem_append_right _ (iR c e)))).1,fun b c=>?_,w7⟩;obtain⟨o,e,d⟩:=T.obj _ _ st5 b c;exact(q.pin (b,o) (mem_append_right _ (mem_append_right _ (iR c e)))).2.1
   cases f with|next=>obtain⟨a,p,q,L⟩:=y;exact again q L|cont=>obtain⟨a,p,q,L⟩:=y;exact again q L|brk=>obtain⟨a,p,q,y⟩:=y;exact⟨a,p,q.mY,y⟩|ret v=>obtain⟨x7,a,p,q,r7,y⟩:=y;exact⟨x7,a,p,q.mY,r7,y⟩
end
abbrev R2:=V->V->Hp->VK->Prop
def gb(X:Cx)(f:Value->Value->Sem Value)(r:R2):Prop:=∀(pins:List (Addr × Obj))(s:Shared)(σ:St)(H:Hp)(x y:V)(v u:Value)(Q:VK),Inv X pins σ H s->RelV x v->RelV y u->r x y H Q->wpAny (model X.prog X.w) X.A (f v u) (EP X pins σ Q) X.xe s
def UnR(X:Cx)(f:Value->Sem Value)(r:V->Hp->VK->Prop):Prop:=∀(pins:List (Addr × Obj))(s:Shared)(σ:St)(H:Hp)(x:V)(v:Value)(Q:VK),Inv X pins σ H s->RelV x v->r x H Q->wpAny (model X.prog X.w) X.A (f v) (EP X pins σ Q) X.xe s
def dI(X:Cx)(f:Value)(r:List V->Hp->VK->Prop):Prop:=∀(pins:List (Addr × Obj))(s:Shared)(σ:St)(H:Hp)(xs:List V)(us:List Value)(Q:VK),Inv X pins σ H s->Vals xs us->r xs H Q->wpAny (model X.prog X.w) X.A (call f us) (EP X pins σ Q) X.xe s
def S9(r:R2)(a b:TE):TE:=fun σ H Q=>a σ H fun x c=>b σ c fun y e=>r x y e Q
def tUn(r:V->Hp->VK->Prop)(a:TE):TE:=fun σ H Q=>a σ H fun x b=>r x b Q
def rI(C:Int->Int->Prop)(g:Int->Int->V):R2:=fun x y H Q=>∃i j,x=.int i/\y=.int j/\C i j/\Q (g i j) H
def Kg(g:Int->Int->V):R2:=fun x y H Q=>∃i j,x=.int i/\y=.int j/\Q (g i j) H
def rU(g:Int->V):V->Hp->VK->Prop:=fun x H Q=>∃i,x=.int i/\Q (g i) H
section
variable{X:Cx}{a b c:Expr}{ta tb tc:TE}{pos:Pos}
theorem Ue(l:PE X a ta)(m:PE X b tb){σ:St}{R:V->V->Hp->Prop}(I:Inv X pins σ H s)(h:ta σ H fun x k=>tb σ k fun y e=>R x y e){Q:Value->Shared->Prop}{f:Value->Value->Sem Value}(n:∀v u s2 x y e,Inv X pins σ e s2->RelV x v->RelV y u->R x y e->wpAny (model X.prog X.w) X.A (f v u) Q X.xe s2):wpAny (model X.prog X.w) X.A (eval a X.env) (fun v g=>wpAny (model X.prog X.w) X.A (eval b X.env) (fun u j=>wpAny (model X.prog X.w) X.A (f v u) Q X.xe j) X.xe g) X.xe s:=by refine bR (l pins s σ H _ I h) fun v s1⟨x,k,I1,r1,q1⟩=>?_;refine bR (m pins s1 σ k _ I1 q1) fun u s2⟨y,e,I2,r2,q2⟩=>?_;exact n v u s2 x y e I2 r1 r2 q2
theorem Y6{op:Operator}{r:R2}(ho:gb X (binaryOp op) r)(e:PE X a ta)(f:PE X b tb):PE X (.BinOp a op b pos) (S9 r ta tb):=by intro pins s σ H Q I h;exact wpAny_BinOp (Ue e f I h fun v u s2 x y g j k l q=>ho pins s2 σ g x y v u Q j k l q)
theorem XD{op:UnaryOp}{r:V->Hp->VK->Prop}(ho:UnR X (unaryOp op) r)(e:PE X a ta):PE X (.UnaryOp op a pos) (tUn r ta):=by intro pins s σ H Q I h;exact UnaryOp_ (bR (e pins s σ H _ I h) fun v s1⟨x,H1,I1,r1,q1⟩=>ho pins s1 σ H1 x v Q I1 r1 q1)
theorem opI{f:Value->Value->Sem Value}{C:Int->Int->Prop}{g:Int->Int->Int}(rule:∀(i j:Int)(t u:Tok)(s:Shared)(Q:Value->Shared->Prop)(E:Value->Shared->Prop),C i j->Q (.int (g i j) s.toks) {s with toks:=s.toks+1}->wpAny (model X.prog X.w) X.A (f (.int i t) (.int j u)) Q E s):gb X f (rI C fun i j=>.int (g i j)):=by intro pins s σ H x y v u Q I e k h;obtain⟨i,j,rfl,rfl,hc,q⟩:=h;obtain⟨t,rfl⟩:=e;obtain⟨t',rfl⟩:=k;exact rule i j t t' s _ _ hc ⟨.int (g i j),H,I.tok _,⟨_,rfl⟩,q⟩
theorem YG{f:Value->Value->Sem Value}{g:Int->Int->Int}(rule:∀(i j:Int)(t u:Tok)(s:Shared)(Q:Value->Shared->Prop)(E:Value->Shared->Prop),Q (.int (g i j) s.toks) {s with toks:=s.toks+1}->wpAny (model X.prog X.w) X.A (f (.int i t) (.int j u)) Q E s):gb X f (Kg fun i j=>.int (g i j)):=by intro pins s σ H x y v u Q I e k h;obtain⟨i,j,rfl,rfl,q⟩:=h;obtain⟨t,rfl⟩:=e;obtain⟨t',rfl⟩:=k;exact rule i j t t' s _ _ ⟨.int (g i j),H,I.tok _,⟨_,rfl⟩,q⟩
theorem Li{f:Value->Value->Sem Value}{g:Int->Int->Bool}(rule:∀(i j:Int)(t u:Tok)(s:Shared)(Q:Value->Shared->Prop)(E:Value->Shared->Prop),Q (.bool (g i j)) s->wpAny (model X.prog X.w) X.A (f (.int i t) (.int j u)) Q E s):gb X f (Kg fun i j=>.bl (g i j)):=by intro pins s σ H x y v u Q I e k h;obtain⟨i,j,rfl,rfl,q⟩:=h;obtain⟨t,rfl⟩:=e;obtain⟨t',rfl⟩:=k;exact rule i j t t' s _ _ ⟨.bl (g i j),H,I,rfl,q⟩
def adZ(i j:Int):Prop:=0<=j/\j<=1000000/\i.natAbs<2^64
def R0(i j:Int):Prop:=(-(2^64)<i/\i<2^64)\/(-(2^64)<j/\j<2^64)
theorem R0.ok{i j:Int}(h:R0 i j):IntMulOk i j:=by
 rcases h with⟨h1,e⟩|⟨h1,e⟩;.exact .of_left (intBits_le_64 h1 e)
 .exact .of_right (intBits_le_64 h1 e)
theorem Sy:gb X (binaryOp .Add) (Kg fun i j=>.int (i+j)):=YG fun _ _ _ _ _ _ _ q=>add_int q
theorem R5:gb X (binaryOp .Sub) (Kg fun i j=>.int (i-j)):=YG fun _ _ _ _ _ _ _ q=>sub_int q
theorem Ss:gb X (binaryOp .Mult) (rI R0 fun i j=>.int (i*j)):=opI fun _ _ _ _ _ _ _ hc q=>mul_int q hc.ok
theorem Sw:gb X (binaryOp .Mod) (rI (fun _ j=>0<j) fun i j=>.int (i%j)):=opI fun i j _ _ _ _ _ hc q=>by have h1:(0:Int)<j:=hc;exact mod_int' (by omega) (by rw[Int.fmod_eq_emod_of_nonneg i (by omega)];exact q)
theorem Te:gb X (binaryOp .Pow) (rI adZ fun i j=>.int (i^j.toNat)):=opI fun _ _ _ _ _ _ _ hc q=>pow_int_small hc.1 hc.2.1 hc.2.2 q
theorem unI{f:Value->Sem Value}{g:Int->Int}(rule:∀(i:Int)(t:Tok)(s:Shared)(Q:Value->Shared->Prop)(E:Value->Shared->Prop),Q (.int (g i) s.toks) {s with toks:=s.toks+1}->wpAny (model X.prog X.w) X.A (f (.int i t)) Q E s):UnR X f (rU fun i=>.int (g i)):=by intro pins s σ H x v Q I e h;obtain⟨i,rfl,q⟩:=h;obtain⟨t,rfl⟩:=e;exact rule i t s _ _ ⟨.int (g i),H,I.tok _,⟨_,rfl⟩,q⟩
theorem QQ:UnR X (unaryOp .USub) (rU fun i=>.int (-i)):=unI fun _ _ _ _ _ q=>neg_int q
end
section
variable{X:Cx}{a b c:Expr}{ta tb tc:TE}{pos:Pos}
theorem Q4{σ:St}{Q:VK}{k f:Bool}(I:Inv X pins σ H s)(q:Q (.bl k) H)(e:k=f):EP X pins σ Q (.bool f) s:=by subst e;exact⟨.bl k,H,I,rfl,q⟩
theorem Ye:gb X (compareOp .Lt) (Kg fun i j=>.bl (decide (i<j))):=Li fun _ _ _ _ _ _ _ q=>lt_int q
theorem Yp:gb X (compareOp .LtE) (Kg fun i j=>.bl (decide (i<=j))):=Li fun _ _ _ _ _ _ _ q=>le_int q
theorem Yg:gb X (compareOp .Gt) (Kg fun i j=>.bl (decide (j<i))):=Li fun _ _ _ _ _ _ _ q=>gt_int q
theorem Yl:gb X (compareOp .GtE) (Kg fun i j=>.bl (decide (j<=i))):=Li fun _ _ _ _ _ _ _ q=>ge_int q
theorem Lr:gb X (compareOp .IsNot) (fun x y H Q=>y=.non/\Q (.bl (!decide (x=.non))) H):=by intro pins s σ H x y v u Q I e f h;obtain⟨rfl,q⟩:=h;cases f;refine isnot_none_gen (Q4 I q ?_);cases x<;>first|(cases e;rfl)|(obtain⟨t,rfl⟩:=e;rfl)
theorem bA(b:Expr)(h:op≠.In:=by decide)(e:op≠.NotIn:=by decide):behindInMarks op b=false:=by
 have f:(op==CmpOp.In)=false:=by cases op<;>first|rfl|exact absurd rfl h
 have g:(op==CmpOp.NotIn)=false:=by cases op<;>first|rfl|exact absurd rfl e
 cases b<;>simp[behindInMarks,f,g]
theorem M8{r:R2}(ho:gb X (compareOp op) r)(e:PE X a ta)(f:PE X b tb)(g:behindInMarks op b=false):PE X (.Compare a [op] [b] pos) (S9 r ta tb):=by intro pins s σ H Q I h;exact wpAny_Compare1 (Ue e f I h fun v u s2 x y j k l m q=>ho pins s2 σ j x y v u Q k l m q) g
def YJ(t:TE):TT:=fun σ H Q=>t σ H fun x e=>∃k,x=.bl k/\Q k e
theorem Bk{r:R2}(ho:gb X (compareOp op) r)(f:PE X a ta)(g:PE X b tb)(j:behindInMarks op b=false):PT X (.Compare a [op] [b] pos) (YJ (S9 r ta tb)):=by intro pins s σ H Q I h;refine wpAny_isTrue_Compare1 (bR (f pins s σ H _ I h) fun v s1⟨x,H1,I1,r1,q1⟩=>bR (g pins s1 σ H1 _ I1 q1) fun u s2⟨y,H2,I2,r2,q2⟩=>bR (ho pins s2 σ H2 x y v u _ I2 r1 r2 q2) fun c s3⟨z,H3,I3,r3,k,e,q3⟩=>?_) j;subst e;cases r3;exact wpAny_truthy_bool ⟨H3,I3,q3⟩
def QL(r f:R2)(ta tb tc:TE):TE:=fun σ H Q=>ta σ H fun x g=>tb σ g fun y j=>r x y j fun z e=>∃k,z=.bl k/\(if k=true then tc σ e fun l m=>f y l m Q else Q (.bl false) e)
theorem Gv{f:CmpOp}{r j:R2}(ho:gb X (compareOp op) r)(g:gb X (compareOp f) j)(l:PE X a ta)(m:PE X b tb)(hc:PE X c tc)(n:lastMarks [op,f] [b,c]=false:=by with_unfolding_all rfl):PE X (.Compare a [op,f] [b,c] pos) (QL r j ta tb tc):=by intro pins s σ H Q I h;refine Compare_chain (bR (l pins s σ H _ I h) fun v s1⟨x,H1,I1,r1,q1⟩=>chain_link (bR (m pins s1 σ H1 _ I1 q1) fun u s2⟨y,H2,I2,r2,q2⟩=>bR (ho pins s2 σ H2 x y v u _ I2 r1 r2 q2) fun d s3⟨z,H3,I3,r3,k,e,q3⟩=>?_)) n;subst e;cases r3;refine wpAny_truthy_bool ?_;cases k with|false=>exact ite_ff ⟨.bl false,H3,I3,rfl,q3⟩|true=>exact ite_tt (chain_last (bR (hc pins s3 σ H3 _ I3 q3) fun o s4⟨p,H4,I4,r4,q4⟩=>g pins s4 σ H4 y p u o Q I4 r2 r4 q4))
theorem rM:(sizeLine:Nat)<2^63:=by rw[sizeLine_eq];decide
theorem yS:gb X (binaryOp .Add) (fun x y H Q=>∃i j,x=.str i/\y=.str j/\i.length+j.length<=sizeLine/\Q (.str (i++j)) H):=by intro pins s σ H x y v u Q I e f h;obtain⟨i,j,rfl,rfl,hz,q⟩:=h;obtain⟨t,rfl⟩:=e;obtain⟨t',rfl⟩:=f;exact add_str (fun t' g=>⟨.str (i++j),H,I.tok _,⟨_,rfl⟩,q⟩) hz
theorem vals1{x:V}(r:Vals [x] us):∃u,us=[u]/\RelV x u:=by cases r with|cons r1 e=>cases e;exact⟨_,rfl,r1⟩
theorem vals2{x y:V}(r:Vals [x,y] us):∃u e,us=[u,e]/\RelV x u/\RelV y e:=by cases r with|cons r1 f=>cases f with|cons g j=>cases j;exact⟨_,_,rfl,r1,g⟩
theorem Ho:dI X (.builtin "abs") (fun xs H Q=>∃i,xs=[.int i]/\Q (.int (if i<0 then-i else i)) H):=by intro pins s σ H xs us Q I r h;obtain⟨i,rfl,q⟩:=h;obtain⟨u,rfl,t,rfl⟩:=vals1 r;exact call_abs_int fun u e=>⟨.int (if i<0 then-i else i),H,I.tok _,⟨_,rfl⟩,q⟩
theorem Eg(hc:X.calm=true):dI X (.builtin "max") (fun xs H Q=>∃i j,xs=[.int i,.int j]/\Q (.int (if j>i then j else i)) H):=by
 intro pins s σ H xs us Q I r h;obtain⟨i,j,rfl,q⟩:=h;obtain⟨u,f,rfl,⟨t,rfl⟩,⟨t',rfl⟩⟩:=vals2 r;refine max_two_ints (I.ok.hd hc) fun h' g k=>⟨_,H,I.kept k,?_,q⟩;by_cases e:j>i;.rw[if_pos e,if_pos e];exact⟨_,rfl⟩
 .rw[if_neg e,if_neg e];exact⟨_,rfl⟩
theorem DW(hc:X.calm=true):dI X (.builtin "min") (fun xs H Q=>∃i j,xs=[.int i,.int j]/\Q (.int (if j<i then j else i)) H):=by
 intro pins s σ H xs us Q I r h;obtain⟨i,j,rfl,q⟩:=h;obtain⟨u,f,rfl,⟨t,rfl⟩,⟨t',rfl⟩⟩:=vals2 r;refine min_two_ints (I.ok.hd hc) fun h' g k=>⟨_,H,I.kept k,?_,q⟩;by_cases e:j<i;.rw[if_pos e,if_pos e];exact⟨_,rfl⟩
 .rw[if_neg e,if_neg e];exact⟨_,rfl⟩
end
theorem pD.some_of{v:V}{o:Option Value}(r:pD (some v) o):∃u,o=some u/\RelV v u:=by cases o with|none=>exact(show False from r).elim|some u=>exact⟨u,rfl,r⟩
structure jL(k:Nat)(A:Around):Prop where
 hd:A.handled=none
 dp:A.depth+3*k+5<recursionLimit
 un:A.units+16*k+200<cLine
theorem jL.deeper{k:Nat}{A:Around}(r:jL (k+1) A)(env:Env):jL k (A.deeper env):=⟨r.hd,by have:=r.dp;show A.depth+1+3*k+5<_;omega,by have:=r.un;show A.units+3+16*k+200<_;omega⟩
theorem jL.depth{k:Nat}{A:Around}(r:jL k A):A.depth<recursionLimit:=by have:=r.dp;omega
def adN:TA:=fun _ H Q=>Q [] H
def Zj(a:TE)(b:TA):TA:=fun σ H Q=>a σ H fun x c=>b σ c fun xs e=>Q (x::xs) e
section
variable{X:Cx}{e:Expr}{es:List Expr}{te:TE}{t:TA}{pos:Pos}
theorem cW:PA X [] adN:=fun _ _ _ _ H Q I h=>Calls.spliced_nil ⟨[],H,I,.nil,h⟩
theorem bC(a:PE X e te)(hr:PA X es t)(hs:starEach (e::es) X.env=(false,eval e X.env)::starEach es X.env:=by rfl):PA X (e::es) (Zj te t):=by intro pos pins s σ H Q I h;rw[hs];show wpAny _ _ (spliced ((false,eval e X.env)::backTo pos (starEach es X.env))) _ _ s;refine Calls.spliced_cons (bR (a pins s σ H _ I h) fun u s1⟨x,H1,I1,r1,q1⟩=>?_);exact bR (hr pos pins s1 σ H1 _ I1 q1) fun us s2⟨xs,H2,I2,r2,q2⟩=>⟨x::xs,H2,I2,.cons r1 r2,q2⟩
def acW(t:TA):TE:=fun σ H Q=>t σ H fun xs a=>xs.length<=sizeLine/\∀p,a p=none->Q (.ref p) (upd a p (.tup xs))
def aec(t:TA):TE:=fun σ H Q=>t σ H fun xs a=>xs.length<=sizeLine/\∀p,a p=none->Q (.ref p) (upd a p (.lst xs))
theorem GD{x1}(h:PA X es t):PE X (.Tuple es x1 pos) (acW t):=by intro pins s σ H Q I a;refine wpAny_Tuple_spliced (bR (h pos pins s σ H _ I a) fun us s1⟨xs,H1,I1,r,z,q⟩=>⟨by rw[<-r.length];exact z,?_⟩);have c:H1 s1.heap.objs.size=none:=I1.hok.fresh (dz);refine⟨.ref s1.heap.objs.size,upd H1 s1.heap.objs.size (.tup xs),I1.laid (t':=s1.toks) (fun b u e=>dG e) (dz) ?_,rfl,q _ c⟩;exact⟨z,us,r,⟨_,get?_push_size _ rfl,rfl,_,rfl⟩⟩
theorem TJ(h:PA X es t):PE X (.List es pos) (aec t):=by intro pins s σ H Q I a;refine wpAny_List_spliced (bR (h pos pins s σ H _ I a) fun us s1⟨xs,H1,I1,r,z,q⟩=>⟨by rw[<-r.length];exact z,?_⟩);have c:H1 s1.heap.objs.size=none:=I1.hok.fresh (dz);refine⟨.ref s1.heap.objs.size,upd H1 s1.heap.objs.size (.lst xs),I1.laid (t':=s1.toks) (fun b u e=>dG e) (dz) ?_,rfl,q _ c⟩;exact⟨z,us,0,r,get?_push_size _ rfl⟩
end
abbrev Sp:=List V->Hp->VK->XK->Prop
abbrev Jd:=List Env->Hp->Shared->XK->Value->Shared->Prop
structure Lz(P:Program)(w:World)(K:PySem.W.Frag)(mg:Str->Option Value)(base:Heap)(A:Around)(outer:List Env)(s:Shared)(H:Hp):Prop where
 frames:A.frames=some outer
 mod:Mod K mg base
 bs:∀b o,base.get? b=some o->s.heap.get? b=some o/\H b=none
 Qi:base.objs.size<=s.heap.objs.size
 rE:s.heap.FunFrames base outer
 Xa:∀b∈frs outer,H b=none
 hok:m7 P w H s.heap
 bare:AllBare s.gens
def CE(outer:List Env)(P:Program)(w:World)(H:Hp)(s:Shared)(Q:VK)(u:Value)(a:Shared):Prop:=∃v b,a.os=s.os/\AllBare a.gens/\Un (frs outer) [] H b s.heap a.heap/\m7 P w b a.heap/\RelV v u/\Q v b
def CR(CX:Jd)(outer:List Env)(P:Program)(w:World)(H:Hp)(s:Shared)(Q:VK)(E:XK)(r:Result)(a:Shared):Prop:=match r with|.ok (.ret u)=>CE outer P w H s Q u a|.ok _=>False|.error e=>CX outer H s E e a
structure nH(P:Program)(w:World)(K:PySem.W.Frag)(mg:Str->Option Value)(base:Heap)(CX:Jd)(k:Nat)(f:Addr)(fd:FuncData)(ps:List Str)(sp:Sp):Prop where
 len:∀vs H Q E,sp vs H Q E->vs.length=ps.length
 run:∀(A:Around)(outer:List Env)(s:Shared)(H:Hp)(args:Args)(us:List Value)(vs:List V)(Q:VK)(E:XK),jL k A->Lz P w K mg base A outer s H->BindsTo s fd args (ps.zip us)->Vals vs us->sp vs H Q E->codeAny (model P w) A (.call (.ref f) args) (CR CX outer P w H s Q E) s
section
variable{X:Cx}{pins:List (Addr×Obj)}{σ:St}{H:Hp}{s s':Shared}
theorem Inv.env0(I:Inv X pins σ H s):Lz X.prog X.w X.K X.mg X.base X.A X.stack s H:=⟨I.ok.frames,I.ok.mod,I.bs,le_trans I.ok.Qi I.sz,I.stack,I.Cw,I.hok,I.bare⟩
theorem Inv.after{Q:VK}{u:Value}(I:Inv X pins σ H s)(h:CE X.stack X.prog X.w H s Q u s'):EP X pins σ Q u s':=by obtain⟨v,c,os,bare,un,hok,r,q⟩:=h;obtain⟨e,g,d,t,a⟩:=s';obtain rfl:a=s.os:=os;exact⟨v,c,I.call (h':=e) (g':=g) (d':=d) (t':=t) (ch:=[]) un hok bare (fun b z=>absurd z (by simp)),r,q⟩
end
def Xk(sp:Sp)(a:List V)(E:XK)(t:TA):TE:=fun σ H Q=>t σ H fun vs b=>sp (vs++a) b Q E
def Binds(K:PySem.W.Frag)(fd:FuncData)(ps:List Str)(a:List Value):Prop:=∀(s:Shared)(us:List Value),K.In s.heap->(us++a).length=ps.length->BindsTo s fd ⟨us,[]⟩ (ps.zip (us++a))
theorem Binds.all{fd:FuncData}{ps:List Str}(h:∀us:List Value,us.length=ps.length->bindArgs fd ⟨us,[]⟩=pure (ps.zip us)):Binds K fd ps []:=fun s us _ a=>by rw[append_nil]at a ⊢;exact .of_eq (h us a)
def Passes(CX:Jd)(X:Cx)(E:XK):Prop:=∀(pins:List (Addr×Obj))(σ:St)(H:Hp)(s:Shared)(e:Value)(a:Shared),Inv X pins σ H s->CX X.stack H s E e a->X.xe e a
section
variable{X:Cx}{CX:Jd}{k:Nat}{f C:Addr}{fd:FuncData}{ps:List Str}{sp:Sp}{Qk:List V}{ds:List Value}{E:XK}{x m:Str}{p pos apos:Pos}{e o:Expr}{es:List Expr}{ta:TE}{t:TA}
theorem T3{σ:St}{Q:VK}{vs:List V}(F:nH X.prog X.w X.K X.mg X.base CX k f fd ps sp)(hr:jL k X.A)(c:Binds X.K fd ps ds)(hd:Vals Qk ds)(g:Passes CX X E)(I:Inv X pins σ H s)(r:Vals vs us)(h:sp (vs++Qk) H Q E):wpAny (model X.prog X.w) X.A (call (.ref f) us) (EP X pins σ Q) X.xe s:=by
 have b:Vals (vs++Qk) (us++ds):=r.append hd;have j:(us++ds).length=ps.length:=by rw[<-b.length];exact F.len _ _ _ _ h
 refine wpAny_call (codeAny_mono (F.run X.A X.stack s H ⟨us,[]⟩ (us++ds) (vs++Qk) Q E hr I.env0 (c s us I.Pb j) b h) fun r l a=>?_);cases r with|error e=>exact g pins σ H s e l I a|ok fl=>cases fl with|ret u=>exact I.after a|next=>exact False.elim a|brk=>exact False.elim a|cont=>exact False.elim a
theorem Lb(F:nH X.prog X.w X.K X.mg X.base CX k f fd ps sp)(hr:jL k X.A)(b:Gl X x)(c:X.mg x=some (.ref f))(g:keepIn X.K (.ref f)=true)(j:Binds X.K fd ps ds)(hd:Vals Qk ds)(l:Passes CX X E)(n:PA X (e::es) t)(a:(x==("__debug__":Str))=false:=by decide)(he:starEach (e::es) X.env=(false,eval e X.env)::starEach es X.env:=by rfl)(hpl:(backTo pos (starEach es X.env)).any (·.1)=false:=by rfl):PE X (.Call (.Name x p) (e::es) [] pos) (Xk sp Qk E t):=by intro pins s σ H Q I h;refine wpAny_Call_Name_kw (BL I b c ?_ a);refine PySem.W.callWith_K (h₀:=X.base) I.ok.mod.o5 g (bR (n pos pins s σ H _ I h) fun us s1⟨vs,H1,I1,r,q⟩=>⟨I1.Pb,?_⟩) he hpl;exact T3 F hr j hd l I1 r q
end
structure aH(N P:List Str)(sc:Scope):Prop where
 kind:sc.kind=.function
 co:sc.isCoroutine=false
 gen:sc.isGenerator=false
 nd:N.Nodup
 pre:N.take P.length=P
 par:∀x∈P,sc.names.lookup x=some .local\/sc.names.lookup x=some .cell
 Vg:∀y∈sc.names,y.2≠.free
theorem tQ{kindOf:Str->Option NameKind}{x:Str}:∀{binds:List (Str×Value)}{m:Str->Option Value},(∀v,(x,v)∉binds)->bindL kindOf binds m x=m x
 |[],_,_=>rfl|(n,v)::r,m,h=>by
   unfold bindL;rw[tQ fun w a=>h w (mem_cons_of_mem _ a)];split
   . have:x≠n:=by rintro rfl;exact h v mem_cons_self
     simp[this]
   .rfl
theorem tL{kindOf:Str->Option NameKind}{x:Str}:∀{binds:List (Str×Value)}{m:Str->Option Value},(∀v,(x,v)∉binds)->bindC kindOf binds m x=m x
 |[],_,_=>rfl|(n,v)::r,m,h=>by
   unfold bindC;rw[tL fun w a=>h w (mem_cons_of_mem _ a)];split;.rfl
   . have:x≠n:=by rintro rfl;exact h v mem_cons_self
     simp[this]
theorem tX{kindOf:Str->Option NameKind}{x:Str}{v:Value}:∀{P:List Str}{vs:List Value}{i:Nat}{m:Str->Option Value},P.Nodup->P[i]?=some x->vs[i]?=some v->kindOf x=some .local->bindL kindOf (P.zip vs) m x=some v|[],_,_,_,_,h,_,_=>by simp at h|_::_,[],_,_,_,_,h,_=>by simp at h|p::P,w::vs,0,m,nd,h1,a,b=>by simp at h1 a;subst h1;subst a;show bindL kindOf ((p,w)::P.zip vs) m p=_;unfold bindL;rw[tQ fun v c=>(nodup_cons.mp nd).1 (of_mem_zip c).1,if_pos b];simp|p::P,w::vs,i+1,m,nd,h1,a,b=>by show bindL kindOf ((p,w)::P.zip vs) m x=_;unfold bindL;exact tX (i:=i) (nodup_cons.mp nd).2 (by simpa using h1) (by simpa using a) b
theorem ug{kindOf:Str->Option NameKind}{x:Str}{v:Value}:∀{P:List Str}{vs:List Value}{i:Nat}{m:Str->Option Value},P.Nodup->P[i]?=some x->vs[i]?=some v->kindOf x≠some .local->bindC kindOf (P.zip vs) m x=some v|[],_,_,_,_,h,_,_=>by simp at h|_::_,[],_,_,_,_,h,_=>by simp at h|p::P,w::vs,0,m,nd,h1,a,b=>by simp at h1 a;subst h1;subst a;show bindC kindOf ((p,w)::P.zip vs) m p=_;unfold bindC;rw[tL fun v c=>(nodup_cons.mp nd).1 (of_mem_zip c).1,if_neg b];simp|p::P,w::vs,i+1,m,nd,h1,a,b=>by show bindC kindOf ((p,w)::P.zip vs) m x=_;unfold bindC;exact ug (i:=i) (nodup_cons.mp nd).2 (by simpa using h1) (by simpa using a) b
noncomputable def start(N:List Str)(vs:List V):St:=vs.map some++replicate (N.length-vs.length) none
noncomputable def zx(CX:Jd)(P:Program)(w:World)(K:PySem.W.Frag)(mg:Str->Option Value)(base:Heap)(N:List Str)(qual:Str)(scope:Scope)(f:Addr)(b:Value)(A:Around)(outer:List Env)(s:Shared)(H:Hp)(E:XK):Cx where prog:=P;w:=w;K:=K;mg:=mg;base:=base;A:=A.deeper (envOfC qual scope s.heap.objs.size f b);N:=N;s₀:=s;H₀:=H;env:=envOfC qual scope s.heap.objs.size f b;outer:=outer;stack:=envOfC qual scope s.heap.objs.size f b::outer;ex:=[];calm:=true;fn:=fun _=>true;pn:=[];xe:=fun e c=>wpAny (model P w) (A.deeper (envOfC qual scope s.heap.objs.size f b)) (leaving (envOfC qual scope s.heap.objs.size f b) e) (fun _ a=>CX outer H s E e a) (fun g a=>CX outer H s E g a) c
theorem xf{a:Scope}{n:Nat}{x:Str}(h:a.names.lookup x=some .cell):∃c,(cellsFrom n a.names []).lookup x=some c:=by have q:=PySem.W.cellsFrom_some a.names n [] (.inl h);exact Option.isSome_iff_exists.mp q
theorem Fp{CX:Jd}{P:Program}{mg:Str->Option Value}{base:Heap}{N ps:List Str}{qual:Str}{scope:Scope}{f:Addr}{o:Value}{outer:List Env}{s1:Shared}{E:XK}{vs:List V}(S:aH N ps scope)(hd:A.handled=none)(j:Lz P w K mg base A outer s H)(J:vs.length=ps.length)(r:Vals vs us)(x:InCallC s s.heap.objs.size (bindL (envOfC qual scope s.heap.objs.size f o).kindOf (ps.zip us) fun _=>none) (cellsFrom (s.heap.objs.size+1) scope.names []) (bindC (envOfC qual scope s.heap.objs.size f o).kindOf (ps.zip us) fun _=>none) s1):Inv (zx CX P w K mg base N qual scope f o A outer s H E) [] (start N vs) H s1:=by
 have hpl:ps.length<=N.length:=by have:=congrArg List.length S.pre;rw[length_take]at this;omega
 obtain⟨h1,L,rfl,B⟩:=x.done;have t:∀b:Addr,b∉(zx CX P w K mg base N qual scope f o A outer s H E).ex:=fun b z=>absurd (show b∈([]:List Addr)from z) (by simp);refine⟨⟨j.mod,S.kind,rfl,rfl,dz,fun y z c h1 g=>?_,fun y hy=>?_,fun y c _ h=>?_,fun _=>hd,Around.frames_deeper j.frames,.inr ⟨rfl,rfl⟩,fun b z=>absurd z (t b),j.bs,j.Qi,fun b _ _=>t b,fun b z=>absurd z (t b),j.rE,j.Xa⟩,rfl,j.bare,Un.kept B,⟨_,x.toInCall.ns,fun i y v h1 g O=>?_⟩,fun y c h=>⟨_,x.cell y c h⟩,j.hok.fresh (dz),fun y c h=>?_,fun p l=>absurd (show p∈([]:List (Addr×Obj))from l) (by simp),j.hok.kept B,?_⟩;.exact name_of_addr x.apart (PySem.mem_of_lookup h1) (PySem.mem_of_lookup g)
 . have hy:scope.names.lookup y=some .cell\/scope.names.lookup y=some .free:=hy;rcases hy with hy|hy;.exact xf hy
   .exact absurd rfl (S.Vg _ (PySem.mem_of_lookup hy))
 .exact le_of_lt (x.above y c (PySem.mem_of_lookup h))
 . have hi:i<vs.length:=by
    unfold start at g;by_cases hi:i<vs.length;.exact hi
    .rw[getElem?_append_right (by simpa using hi)]at g;rw[List.getElem?_replicate]at g;split at g<;>cases g
   have G:vs[i]?=some v:=by unfold start at g;rw[getElem?_append_left (by simpa using hi),getElem?_map]at g;cases e:vs[i]?with|none=>rw[e]at g;cases g|some a=>rw[e]at g;cases g;rfl
   obtain⟨u,C,I⟩:=r.get G;have l:ps[i]?=some y:=by rw[<-S.pre,List.getElem?_take_of_lt (by omega)];exact h1
   have m:ps.Nodup:=by rw[<-S.pre];exact S.nd.sublist (List.take_sublist _ _)
   refine⟨u,I,?_⟩;rcases S.par y (mem_of_getElem? l)with k|k;.exact .inl ⟨k,tX m l C k⟩
   .obtain⟨c,e⟩:=xf (n:=s.heap.objs.size+1) k;refine .inr ⟨.inl k,c,e,?_⟩;have q:=x.cell y c e;rw[ug m l C (by show scope.names.lookup y≠_;rw[k];decide)]at q;exact q
 .exact j.hok.fresh (le_of_lt (x.above y c (PySem.mem_of_lookup h)))
 .unfold start;show _=N.length;rw[length_append,length_map,List.length_replicate];omega
theorem XN{CX:Jd}{P:Program}{w:World}{K:PySem.W.Frag}{mg:Str->Option Value}{base:Heap}{k:Nat}{f:Addr}{name qual:Str}{a:Arguments}{body:List Stmt}{scope:Scope}{L kV m O cdv ct oc:Value}{U Z:Option Addr}{z:Array (Option Value)}{N ps:List Str}{sp:Sp}(lk:K.lookup f=some ⟨oc,Z,.func (PySem.W.fnOf name qual a body scope L kV m O U cdv ct),z⟩)(B:PySem.W.codeIn K cdv qual=true)(S:aH N ps scope)(len:∀vs H Q E,sp vs H Q E->vs.length=ps.length)(j:∀(A:Around)(outer:List Env)(s:Shared)(H:Hp)(vs:List V)(Q:VK)(E:XK),jL k (A.deeper (envOfC qual scope s.heap.objs.size f cdv))->sp vs H Q E->∃t,xn (zx CX P w K mg base N qual scope f cdv A outer s H E) body t/\t {nx:=fun _ g=>Q .non g,rt:=Q} (start N vs) H):nH P w K mg base CX (k+1) f (PySem.W.fnOf name qual a body scope L kV m O U cdv ct) ps sp:=by
 refine⟨len,fun A outer s H args us vs Q E hr p hb r hsp=>?_⟩;have hl:=len _ _ _ _ hsp;have Y:K.In s.heap:=p.mod.o5.keeps fun b o e=>(p.bs b o e).1;have lim:s.heap.NoLimit:=p.mod.nolimit.keeps fun b o e=>(p.bs b o e).1;have l:∀y∈ps.zip us,scope.names.lookup y.1=some .local\/(scope.names.lookup y.1=some .cell/\((cellsFrom (s.heap.objs.size+1) scope.names []).lookup y.1).isSome=true):=fun⟨n,v⟩hy=>by
  rcases S.par n (of_mem_zip hy).1 with q|q;.exact .inl q
  .exact .inr ⟨q,PySem.W.cellsFrom_some _ _ _ (.inl q)⟩
 refine codeAny_call_function hr.depth (Y _ _ lk) rfl S.co S.gen rfl (PySem.W.codeRec_of Y B) (hb _ _ _ _ ?_);refine wpAny_newFunctionEnv_cells S.kind l fun env he s1 x=>?_;subst he;refine⟨lim.keeps x.toInCall.keep,codeAny_func ?_⟩;obtain⟨t,ht,hq⟩:=j A outer s H vs Q E (hr.deeper _) hsp;have I:Inv (zx CX P w K mg base N qual scope f cdv A outer s H E) [] (start N vs) H s1:=Fp S hr.hd p hl r x;refine wpAny_mono (ht [] s1 (start N vs) H _ I hq) (fun fl C hs=>?_) fun e C hs=>hs;have fin:∀{c:St}{g:Hp}{v:V}{u:Value},Inv (zx CX P w K mg base N qual scope f cdv A outer s H E) [] c g C->RelV v u->Q v g->CE outer P w H s Q u C:=fun{c g v u}J G q=>⟨v,g,J.os,J.bare,J.base,J.hok,G,q⟩;cases fl with|ret u=>obtain⟨v,c,g,J,G,q⟩:=hs;exact fin J G q|next=>obtain⟨c,g,J,q⟩:=hs;exact fin (v:=V.non) (u:=Value.none) J rfl q|brk=>obtain⟨_,_,_,q⟩:=hs;exact False.elim q|cont=>obtain⟨_,_,_,q⟩:=hs;exact False.elim q
section
variable{X:Cx}{x:Str}{p pos:Pos}{e:Expr}{es:List Expr}{t:TA}{id T:String}{r:List V->Hp->VK->Prop}
def tCB(r:List V->Hp->VK->Prop)(t:TA):TE:=fun σ H Q=>t σ H fun vs a=>r vs a Q
theorem dO(hc:dI X (.builtin id) r)(b:Gl X x)(c:X.mg x=none)(f:bootBuiltins x=some (.builtin id))(g:PA X (e::es) t)(j:x≠"__name__":=by decide)(a:(x==("__debug__":Str))=false:=by decide)(he:starEach (e::es) X.env=(false,eval e X.env)::starEach es X.env:=by rfl)(hpl:(backTo pos (starEach es X.env)).any (·.1)=false:=by rfl):PE X (.Call (.Name x p) (e::es) [] pos) (tCB r t):=by intro pins s σ H Q I h;refine wpAny_Call_Name_kw (gn I b c f ?_ j a);exact PyProof.Rows.callWith_builtin1 (bR (g pos pins s σ H _ I h) fun us s1⟨vs,H1,I1,r1,q1⟩=>hc pins s1 σ H1 vs us Q I1 r1 q1) he hpl
theorem oA(hc:dI X (.type T) r)(b:Gl X x)(c:X.mg x=none)(f:bootBuiltins x=some (.type T))(g:PA X (e::es) t)(j:x≠"__name__":=by decide)(a:(x==("__debug__":Str))=false:=by decide)(he:starEach (e::es) X.env=(false,eval e X.env)::starEach es X.env:=by rfl)(hpl:(backTo pos (starEach es X.env)).any (·.1)=false:=by rfl):PE X (.Call (.Name x p) (e::es) [] pos) (tCB r t):=by intro pins s σ H Q I h;refine wpAny_Call_Name_kw (gn I b c f ?_ j a);exact PyProof.Rows.callWith_type1 (bR (g pos pins s σ H _ I h) fun us s1⟨vs,H1,I1,r1,q1⟩=>hc pins s1 σ H1 vs us Q I1 r1 q1) he hpl
end
end L2
namespace HT
open PySem PyProof.Rows
section
variable{prog:Program}{w:World}{A:Around}{E:Value->Shared->Prop}{s:Shared}
theorem Kz{t b:Addr}{vs ws:List Value}{Q:Value->Shared->Prop}(ht:IsTup s.heap t vs.toArray)(o:IsTup s.heap b ws.toArray)(j:vs≠[])(h1:ws=[]->Q (.ref t) s)(p:ws≠[]->Q (.ref s.heap.objs.size) {s with heap:=s.heap.push {cls:=.type "tuple",data:=.seq (vs++ws).toArray}})(hsz:vs.length+ws.length<=sizeLine):wpAny (model prog w) A (binaryOp .Add (.ref t) (.ref b)) Q E s:=by
 obtain⟨⟨cls,k,data,sl⟩,ho,hc,n,hd⟩:=id ht;obtain⟨⟨l,c,data2,f⟩,a,g,m,h⟩:=id o;simp only at hc hd g h;subst hc hd g h;have e:vs.toArray++ws.toArray=(vs++ws).toArray:=by simp
 by_cases i:ws=[];.exact concat_meets ⟨_,ho,rfl⟩ ⟨_,a,rfl⟩ noFill_tuple_add seq_tuple_add slot_tuple_add entry_tuple_add (args_tuple_add_2 _ _) (tuple_addW1 t b vs.toArray ws.toArray n m k c sl f (by simpa using j) (by simp[i])) ⟨ho,a,h1 i⟩
 .refine concat_meets ⟨_,ho,rfl⟩ ⟨_,a,rfl⟩ noFill_tuple_add seq_tuple_add slot_tuple_add entry_tuple_add (args_tuple_add_2 _ _) (tuple_addW2 t b vs.toArray ws.toArray n m k c sl f (by simpa using j) (by simpa using i) (by rw[size_toArray,size_toArray];exact hsz)) ⟨ho,a,?_⟩;rw[e];exact p i
noncomputable def dH(n d:Nat):Option Int->Nat|none=>d|some v=>if v<0 then(v+(n:Int)).toNat else min v.toNat n
theorem R8(n d:Nat)(hd:d<=n)(o:Option Int):dH n d o<=n:=by cases o with|none=>exact hd|some v=>
   show(if v<0 then(v+(n:Int)).toNat else min v.toNat n)<=n;by_cases a:v<0;.rw[if_pos a];omega
   .rw[if_neg a];exact Nat.min_le_right _ _
theorem Df(v:Int)(n d:Nat):(if v<0 then max (v+(n:Int)) 0 else min v (n:Int))=((dH n d (some v):Nat):Int):=by
 show(if v<0 then max (v+(n:Int)) 0 else min v (n:Int))=(((if v<0 then(v+(n:Int)).toNat else min v.toNat n):Nat):Int);by_cases a:v<0;.simp only[if_pos a];omega
 .simp only[if_neg a];omega
theorem yP(lo hi:Option Int)(n:Nat):sliceAdjust lo hi 1 (n:Int)=(((dH n 0 lo:Nat):Int),((dH n n hi:Nat):Int)):=by
 have h1:¬((1:Int)<0):=by omega
 unfold sliceAdjust;simp only[h1,if_false];refine Prod.ext ?_ ?_;.cases lo with|none=>rfl|some v=>exact Df v n 0
 .cases hi with|none=>rfl|some v=>exact Df v n n
theorem zV(i j:Nat):slicePlaces (i:Int) (j:Int) 1=j-i:=by
 unfold slicePlaces;have h1:(1:Int)>0:=by omega
 simp only[h1,if_true,Int.ediv_one];split<;>omega
theorem rC{v:Value}{o:Option Int}{Q:Option Int->Shared->Prop}(p:IsPart v o)(h:Q o s):wpAny (model prog w) A (Builtin.Slice.slicePartIndex v) Q E s:=by cases p with|none=>exact slicePart_none h|int i t=>exact slicePart_int h
theorem iH{sl:Addr}{c e:Value}{lo hi:Option Int}{n:Nat}{Q:Int×Int×Nat->Shared->Prop}(hs:s.heap.IsSliceOf sl c e .none)(f:IsPart c lo)(g:IsPart e hi)(h:Q (((dH n 0 lo:Nat):Int),1,dH n n hi-dH n 0 lo) s):wpAny (model prog w) A (sliceApplied (.ref sl) (pure (n:Int))) Q E s:=by obtain⟨os,a,i,b⟩:=id hs;unfold sliceApplied Builtin.Slice.sliceFields;refine wpAny_bind (wpAny_bind (wpAny_field a b (x:=c) rfl (wpAny_bind (wpAny_field a b (x:=e) rfl (wpAny_bind (wpAny_field a b (x:=.none) rfl (wpAny_pure ?_)))))));refine wpAny_bind (slicePart_none ?_);show wpAny _ _ (if((1:Int)==0)=true then _ else _) _ _ s;rw[if_neg (by decide)];refine wpAny_bind (rC f (wpAny_bind (rC g (wpAny_bind (wpAny_pure ?_)))));show wpAny _ _ (match sliceAdjust lo hi 1 (n:Int)with|(lo,hi)=>pure (lo,(1:Int),slicePlaces lo hi 1)) _ _ s;rw[yP lo hi n];show wpAny _ _ (pure (((dH n 0 lo:Nat):Int),(1:Int),slicePlaces ((dH n 0 lo:Nat):Int) ((dH n n hi:Nat):Int) 1)) _ _ s;rw[zV];exact wpAny_pure h
theorem Hj(xs:Array Value)(i k:Nat):((List.range k).filterMap fun(m:Nat)=>xs[((i:Int)+(m:Int)*1).toNat]?).toArray=((xs.toList.drop i).take k).toArray:=by
 have e:(fun(m:Nat)=>xs[((i:Int)+(m:Int)*1).toNat]?)=fun m=>xs[i+m]?:=by
  funext m;have:((i:Int)+(m:Int)*1).toNat=i+m:=by omega
  rw[this]
 rw[e];have:=pick_run xs i k;rw[List.filterMap_map]at this;have a:((fun x=>xs[x]?)∘ fun x=>i+x)=fun m=>xs[i+m]?:=rfl;rw[a]at this;rw[this]
theorem mL{t sl:Addr}{items:Array Value}{g i:Value}{lo hi:Option Int}{Q:Value->Shared->Prop}(ht:IsTup s.heap t items)(hs:s.heap.IsSliceOf sl g i .none)(j:IsPart g lo)(k:IsPart i hi)(l:¬(dH items.size 0 lo=0/\dH items.size items.size hi=items.size))(h:Q (.ref s.heap.objs.size) {s with heap:=s.heap.push {cls:=.type "tuple",data:=.seq ((items.toList.drop (dH items.size 0 lo)).take (dH items.size items.size hi-dH items.size 0 lo)).toArray}})(hsz:items.size<=sizeLine):wpAny (model prog w) A (getItem (.ref t) (.ref sl)) Q E s:=by
 have a:sizeOk (.seq ((items.toList.drop (dH items.size 0 lo)).take (dH items.size items.size hi-dH items.size 0 lo)).toArray):=by show((items.toList.drop (dH items.size 0 lo)).take (dH items.size items.size hi-dH items.size 0 lo)).toArray.size<=sizeLine;rw[size_toArray,length_take,List.length_drop,length_toList];omega
 have o:dH items.size items.size hi<=items.size:=R8 _ _ (dz) hi;obtain⟨os,b,c,n⟩:=id hs;have e:s.TypeIs (.ref sl) "slice":=⟨os,b,c⟩;unfold getItem;try with_reducible refine wpAny_holding ?_
 first|refine wpAny_bind (wpAny_pure ?_)|skip
 refine wpAny_bind (wpAny_sequenceKey ht.typeIs (by decide) ?_);refine wpAny_bind (wpAny_callSpecial?_slot (name:=Str.ofString "__getitem__") ht.typeIs PyProof.Rows.slot_tuple_getitem (wpAny_call_entry PyProof.Rows.slot_tuple_getitem ht.typeIs entry_tuple_getitem ?_ (args_tuple_getitem _ _)));show wpAny _ _ (tupleItemsOf (.ref t)>>=_) _ _ s;refine wpAny_bind (tupleItemsOf_ ht ?_);refine wpAny_bind (wpAny_typeOf e ?_);rw[if_pos (by decide)];refine wpAny_bind (iH hs j k ?_);have f:¬((((dH items.size 0 lo:Nat):Int)==0&&(1:Int)==1&&(dH items.size items.size hi-dH items.size 0 lo)==items.size)=true):=by intro q;rw[and_eq_true,and_eq_true]at q;have p:((dH items.size 0 lo:Nat):Int)=0:=eq_of_beq q.1.1;have r:dH items.size items.size hi-dH items.size 0 lo=items.size:=eq_of_beq q.2;exact l ⟨by omega,by omega⟩
 show wpAny _ _ (if(((dH items.size 0 lo:Nat):Int)==0&&(1:Int)==1&&(dH items.size items.size hi-dH items.size 0 lo)==items.size)=true then _ else _) _ _ s;rw[if_neg f,Hj];first|exact wpAny_bind (m:=tupleExact _) (wpAny_newObj_type (wpAny_pure ⟨_,rfl,wpAny_pure h⟩) a)|exact wpAny_bind (m:=tupleExact _) (wpAny_newObj_type (wpAny_bind (wpAny_pure (wpAny_pure ⟨_,rfl,wpAny_pure h⟩))) a)|exact wpAny_bind (wpAny_bind (m:=tupleExact _) (wpAny_newObj_type (wpAny_pure (wpAny_pure ⟨_,rfl,wpAny_pure h⟩)) a))|exact wpAny_bind (wpAny_bind (m:=tupleExact _) (wpAny_newObj_type (wpAny_pure ⟨_,rfl,wpAny_pure h⟩) a))
end
end HT
namespace L2
open PySem PySem.Spec PyProof.Rows
variable{n:Nat}
abbrev TO:=St->Hp->(Option Int->Hp->Prop)->Prop
def PO(X:Cx)(e:Option Expr)(t:TO):Prop:=∀(a:List (Addr × Obj))(s:Shared)(σ:St)(H:Hp)(Q:Option Int->Hp->Prop),Inv X a σ H s->t σ H Q->wpAny (model X.prog X.w) X.A (evalPart e X.env) (fun u c=>∃o b,Inv X a σ b c/\IsPart u o/\Q o b) X.xe s
def MF:TO:=fun _ H Q=>Q none H
def Yb(t:TE):TO:=fun σ H Q=>t σ H fun x a=>∃i,x=.int i/\Q (some i) a
section
variable{X:Cx}{e:Expr}{te:TE}{lo hi:Option Expr}{tl th:TO}{pos p2:Pos}
theorem K1:PO X none MF:=by intro a s σ H Q I h;rw[evalPart_none];exact wpAny_pure ⟨none,H,I,.none,h⟩
theorem Mq(h:PE X e te):PO X (some e) (Yb te):=by intro a s σ H Q I b;rw[evalPart_some];refine bR (h a s σ H _ I b) fun u s1⟨x,H1,I1,r1,q1⟩=>?_;obtain⟨i,rfl,q⟩:=q1;obtain⟨t,rfl⟩:=r1;exact⟨some i,H1,I1,.int i t,q⟩
def SlR(X:Cx)(r:V->Option Int->Option Int->Hp->VK->Prop):Prop:=∀(a:List (Addr × Obj))(s:Shared)(σ:St)(H:Hp)(x:V)(v b c:Value)(lo hi:Option Int)(sl:Addr)(Q:VK),Inv X a σ H s->RelV x v->s.heap.IsSliceOf sl b c .none->IsPart b lo->IsPart c hi->r x lo hi H Q->∃T id,typeLookup (.type T) "__getitem__"=pure (some (.builtin id))/\s.TypeIs v T/\wpAny (model X.prog X.w) X.A (getItem v (.ref sl)) (EP X a σ Q) X.xe s
def tSl(r:V->Option Int->Option Int->Hp->VK->Prop)(te:TE)(tl th:TO):TE:=fun σ H Q=>te σ H fun x a=>tl σ a fun l b=>th σ b fun u c=>r x l u c Q
theorem xP{r:V->Option Int->Option Int->Hp->VK->Prop}(hr:SlR X r)(he:PE X e te)(g:PO X lo tl)(i:PO X hi th):PE X (.Subscript e (.Slice lo hi none p2) pos) (tSl r te tl th):=by intro a s σ H Q I h;refine Subscript_ (bR (he a s σ H _ I h) fun v s1⟨x,H1,I1,r1,q1⟩=>?_);refine wpAny_Slice (bR (g a s1 σ H1 _ I1 q1) fun c s2⟨l,H2,I2,pl,q2⟩=>bR (i a s2 σ H2 _ I2 q2) fun f s3⟨u,H3,I3,pu,q3⟩=>?_);rw[evalPart_none];refine wpAny_pure ?_;have j:Inv X a σ H3 {s3 with heap:=s3.heap.push {cls:=.type "slice",data:=.fields #[c,f,.none]}}:=I3.kept (t':=s3.toks) fun b o q=>dG q;obtain⟨T,id,k,ht,m⟩:=hr a {s3 with heap:=s3.heap.push {cls:=.type "slice",data:=.fields #[c,f,.none]}} σ H3 x v c f l u s3.heap.objs.size Q j r1 (Heap.IsSliceOf.new ..) pl pu q3;show wpAny (model X.prog X.w) X.A (subscriptTail e (.Slice lo hi none p2) v (.ref s3.heap.objs.size)) (EP X a σ Q) X.xe {s3 with heap:=s3.heap.push {cls:=.type "slice",data:=.fields #[c,f,.none]}};exact tail_any (ops:=[.ref s3.heap.objs.size,v]) ht k m (by with_unfolding_all rfl)
noncomputable def wM(xs:List V)(lo hi:Option Int):List V:=(xs.drop (HT.dH xs.length 0 lo)).take (HT.dH xs.length xs.length hi-HT.dH xs.length 0 lo)
theorem oH(xs:List V)(lo hi:Option Int):(wM xs lo hi).length<=xs.length:=by unfold wM;rw[length_take,List.length_drop];omega
def aei(K:PySem.W.Frag):V->Option Int->Option Int->Hp->VK->Prop:=fun x lo hi H Q=>∃a xs,x=.ref a/\iQ K H a xs/\¬(HT.dH xs.length 0 lo=0/\HT.dH xs.length xs.length hi=xs.length)/\∀p,H p=none->Q (.ref p) (upd H p (.tup (wM xs lo hi)))
theorem Ry:SlR X (aei X.K):=by
 intro g s σ H x v p t lo hi sl Q I i hs j k h;obtain⟨a,xs,rfl,l,m,q⟩:=h;cases i;obtain⟨f,r,ht,hz⟩:=I.tuple l;have c:f.toArray.size=xs.length:=by rw[size_toArray];exact r.length.symm
 refine⟨"tuple",_,PyProof.Rows.slot_tuple_getitem.lookup,ht.typeIs,?_⟩;refine HT.mL ht hs j k (by rw[c];exact m) ?_ (by rw[c];exact hz);rw[c];refine⟨.ref s.heap.objs.size,_,I.laid (t':=s.toks) (o:=.tup (wM xs lo hi)) (fun b u q=>dG q) (dz) ?_,rfl,q _ (I.hok.fresh (dz))⟩;exact⟨le_trans (oH xs lo hi) hz,_,(r.drop (HT.dH xs.length 0 lo)).take (HT.dH xs.length xs.length hi-HT.dH xs.length 0 lo),IsTup.new _ _⟩
def Yy(K:PySem.W.Frag):R2:=fun x y H Q=>∃a b xs ys,x=.ref a/\y=.ref b/\iQ K H a xs/\iQ K H b ys/\xs≠[]/\xs.length+ys.length<=sizeLine/\(ys=[]->Q (.ref a) H)/\(ys≠[]->∀p,H p=none->Q (.ref p) (upd H p (.tup (xs++ys))))
theorem Vals.pZ{xs:List V}{a:List Value}(r:Vals xs a):a=[]↔xs=[]:=by cases r with|nil=>simp|cons _ _=>simp
theorem MP:gb X (binaryOp .Add) (Yy X.K):=by intro f s σ H x y v u Q I i j h;obtain⟨a,b,xs,ys,rfl,rfl,k,l,m,hz,p,r⟩:=h;cases i;cases j;obtain⟨t,r1,p1,_⟩:=I.tuple k;obtain⟨g,c,p2,_⟩:=I.tuple l;refine HT.Kz p1 p2 (fun z=>m (r1.pZ.mp z)) (fun z=>⟨.ref a,H,I,rfl,p (c.pZ.mp z)⟩) (fun z=>?_) (by rw[<-r1.length,<-c.length];exact hz);refine⟨.ref s.heap.objs.size,_,I.laid (t':=s.toks) (o:=.tup (xs++ys)) (fun b A q=>dG q) (dz) ?_,rfl,r (fun w=>z (c.pZ.mpr w)) _ (I.hok.fresh (dz))⟩;exact⟨by rw[length_append];exact hz,_,r1.append c,IsTup.new _ _⟩
end
noncomputable def jM(n:Nat)(i:Int):Option Nat:=if 0<=i then(if i<n then some i.toNat else none)else if-(n:Int)<=i then some (i+n).toNat else none
noncomputable def Ht{a:Type}(xs:List a)(i:Int):Option a:=(jM xs.length i).bind fun j=>xs[j]?
theorem Ax{i:Int}{j:Nat}(h:jM n i=some j):seqIndex? i n=some j/\j<n/\-(n:Int)<=i/\i<n:=by
 unfold jM at h;by_cases h0:0<=i
 . rw[if_pos h0]at h;by_cases h1:i<n;.rw[if_pos h1]at h;have e:i.toNat=j:=Option.some.inj h;exact⟨by rw[seqIndex_of h0 h1,e],by omega,by omega,h1⟩
   .rw[if_neg h1]at h;cases h
 . rw[if_neg h0]at h;by_cases h1:-(n:Int)<=i;.rw[if_pos h1]at h;have e:(i+n).toNat=j:=Option.some.inj h;exact⟨by rw[seqIndex_neg (by omega) h1,e],by omega,h1,by omega⟩
   .rw[if_neg h1]at h;cases h
theorem uV{a:Type}{xs:List a}{i:Int}{v:a}(h:Ht xs i=some v):∃j,seqIndex? i xs.length=some j/\xs[j]?=some v/\j<xs.length/\-(xs.length:Int)<=i/\i<xs.length:=by unfold Ht at h;cases e:jM xs.length i with|none=>rw[e]at h;cases h|some j=>rw[e]at h;obtain⟨h1,b,c,f⟩:=Ax e;exact⟨j,h1,h,b,c,f⟩
def uM(b:Expr):Prop:=∀o i,subscripted b false o i=operate [o,i] (getItem o i)
def IxR(X:Cx)(r:R2):Prop:=∀(b slice:Expr)(a:List (Addr × Obj))(s:Shared)(σ:St)(H:Hp)(x y:V)(v u:Value)(Q:VK),Inv X a σ H s->RelV x v->RelV y u->r x y H Q->subscripted slice false v u=operate [v,u] (getItem v u)->wpAny (model X.prog X.w) X.A (subscriptTail b slice v u) (EP X a σ Q) X.xe s
def MtR(X:Cx)(id:String)(r:V->List V->Hp->VK->Prop):Prop:=∀(a:List (Addr × Obj))(s:Shared)(σ:St)(H:Hp)(x:V)(xs:List V)(v:Value)(b:List Value)(Q:VK),Inv X a σ H s->RelV x v->Vals xs b->r x xs H Q->wpAny (model X.prog X.w) X.A (call (.builtin id) (v::b)) (EP X a σ Q) X.xe s
section
variable{X:Cx}{a b:Expr}{ta tb:TE}{pos:Pos}
theorem PQ{r:R2}(hr:IxR X r)(e:PE X a ta)(f:PE X b tb)(hs:uM b):PE X (.Subscript a b pos) (S9 r ta tb):=by intro c s σ H Q I h;exact Subscript_ (Ue e f I h fun v u s2 x y g i j k q=>hr a b c s2 σ g x y v u Q i j k q (hs _ _))
def YM(K:PySem.W.Frag):R2:=fun x y H Q=>∃p xs i v,x=.ref p/\y=.int i/\eV K H p xs/\Ht xs i=some v/\Q v H
def adz(K:PySem.W.Frag):R2:=fun x y H Q=>∃p xs i v,x=.ref p/\y=.int i/\iQ K H p xs/\Ht xs i=some v/\Q v H
theorem De:IxR X (YM X.K):=by
 intro e slice c s σ H x y v u Q I m o h hs;obtain⟨p,xs,i,z,rfl,rfl,A,he,q⟩:=h;cases m;obtain⟨t,rfl⟩:=o;obtain⟨f,r,g,hz⟩:=I.list A;obtain⟨j,h1,B,M,C,E⟩:=uV he;obtain⟨w,l,G⟩:=r.get B;have J:=r.length;have N:=rM;have fin:EP X c σ Q w s:=⟨z,H,I,G,q⟩;by_cases h0:0<=i
 . have k:i.toNat=j:=by rw[seqIndex_of h0 E]at h1;exact Option.some.inj h1
   exact item_listR g.isList h0 (by omega) (by rw[k];simpa using l) fin hs
 . have k:(i+(f.toArray.size:Int)).toNat=j:=by rw[seqIndex_neg (by omega) C]at h1;rw[size_toArray,<-J];exact Option.some.inj h1
   exact subscriptTail_builtinR (x:=w) g.isList.typeIs slot_list_getitem.lookup (wpAny_getItem_list_neg (Q:=fun r L=>r=w/\EP X c σ Q r L) g.isList (by omega) (by rw[size_toArray]<;>omega) (by omega) (by rw[k];simpa using l) ⟨rfl,fin⟩) hs
theorem Tz:IxR X (adz X.K):=by intro e slice c s σ H x y v u Q I g k h hs;obtain⟨p,xs,i,z,rfl,rfl,l,he,q⟩:=h;cases g;obtain⟨t,rfl⟩:=k;obtain⟨m,r,f,hz⟩:=I.tuple l;obtain⟨j,h1,o,G,J,L⟩:=uV he;obtain⟨w,A,B⟩:=r.get o;have C:=r.length;have M:=rM;have fin:EP X c σ Q w s:=⟨z,H,I,B,q⟩;exact subscriptTail_builtinR (x:=w) f.typeIs slot_tuple_getitem.lookup (getItem_tuple (j:=j) (Q:=fun r E=>r=w/\EP X c σ Q r E) f (by omega) (by omega) (by rw[size_toArray,<-C];exact h1) (by simpa using A) ⟨rfl,fin⟩) hs
theorem yR(c:List Value)(n j:Nat)(u:Value):Obj.mapSeq (·.setIfInBounds j u) {cls:=.type "list",data:=.seq c.toArray n}={cls:=.type "list",data:=.seq (c.set j u).toArray n}:=by simp[Obj.mapSeq]
theorem Inv.lst{f:List (Addr×Obj)}{σ:St}{H:Hp}{s:Shared}{p:Addr}{xs:List V}(I:Inv X f σ H s)(h:H p=some (.lst xs)):∃(c:List Value)(n:Nat),Vals xs c/\s.heap.get? p=some {cls:=.type "list",data:=.seq c.toArray n}/\xs.length<=sizeLine:=by obtain⟨z,c,n,r,e⟩:=I.hok p _ h;exact⟨c,n,r,e,z⟩
theorem Inv.Td{c:List (Addr×Obj)}{σ:St}{H:Hp}{s:Shared}{p:Addr}{xs ys:List V}{g its':List Value}{n i:Nat}{f:Obj->Obj}(I:Inv X c σ H s)(h:H p=some (.lst xs))(ho:s.heap.get? p=some {cls:=.type "list",data:=.seq g.toArray n})(j:f {cls:=.type "list",data:=.seq g.toArray n}={cls:=.type "list",data:=.seq its'.toArray i})(r:Vals ys its')(hz:ys.length<=sizeLine)(t:Nat):Inv X c σ (upd H p (.lst ys)) {s with heap:=s.heap.update p f,toks:=t}:=by
 have e:(s.heap.update p f).get? p=some {cls:=.type "list",data:=.seq its'.toArray i}:=by rw[Heap.get?_update_self f ho (by rw[j]<;>rfl),j]
 refine I.write (x:=p) (e:=p) (by rw[h];trivial) (.inl rfl) (fun b u k q=>(get?_update_other _ _ (Ne.symm k)).trans q) ⟨_,e⟩ ?_;exact⟨hz,its',i,r,e⟩
def Zn:V->V->V->Hp->(Hp->Prop)->Prop:=fun o i v H Q=>∃p xs k j,o=.ref p/\i=.int k/\H p=some (.lst xs)/\jM xs.length k=some j/\Q (upd H p (.lst (xs.set j v)))
theorem set_list:Q0 X Zn:=by
 intro c s σ H o i v C iv u Q I y z A h;obtain⟨p,xs,k,j,rfl,rfl,l,B,q⟩:=h;cases y;obtain⟨t,rfl⟩:=z;obtain⟨e,n,r,ho,hz⟩:=I.lst l;obtain⟨h1,E,m,w⟩:=Ax B;have f:=r.length;have G:=rM;have x:Inv X c σ (upd H p (.lst (xs.set j v))) {s with heap:=s.heap.update p (Obj.mapSeq (·.setIfInBounds j u))}:=I.Td l ho (yR e n j u) (r.set A j) (by rw[List.length_set];exact hz) s.toks;by_cases h0:0<=k
 . have g:k.toNat=j:=by rw[seqIndex_of h0 w]at h1;exact Option.some.inj h1
   exact PySem.W.ki_setAt ho h0 (by omega) (by rw[size_toArray,<-f];exact w) (by rw[g];exact⟨_,x,q⟩)
 . have g:(k+(e.toArray.size:Int)).toNat=j:=by rw[seqIndex_neg (by omega) m]at h1;rw[size_toArray,<-f];exact Option.some.inj h1
   exact PySem.W.ki_setBack ho (by omega) (by rw[size_toArray,<-f];exact m) (by omega) (by rw[g];exact⟨_,x,q⟩)
theorem uE(lo hi:Option Int)(n:Nat):(sliceBounds lo hi none n).1=((HT.dH n 0 lo:Nat):Int)/\(sliceBounds lo hi none n).2.1=((HT.dH n n hi:Nat):Int)/\(sliceBounds lo hi none n).2.2=1:=by
 refine⟨?_,?_,rfl⟩;.cases lo with|none=>simp[sliceBounds,HT.dH]|some i=>
     simp only[sliceBounds,HT.dH,getD_none,show(1:Int)>0 by decide,if_true];by_cases h:i<0;.simp only[h,if_true]<;>omega
     .simp only[h,if_false]<;>omega
 .cases hi with|none=>simp[sliceBounds,HT.dH]|some i=>
     simp only[sliceBounds,HT.dH,getD_none,show(1:Int)>0 by decide,if_true];by_cases h:i<0;.simp only[h,if_true]<;>omega
     .simp only[h,if_false]<;>omega
theorem rY(c:List Value)(lo hi:Option Int):slicePick c.toArray lo hi none=((c.drop (HT.dH c.length 0 lo)).take (HT.dH c.length c.length hi-HT.dH c.length 0 lo)).toArray:=by obtain⟨h1,e,f⟩:=uE lo hi c.toArray.size;unfold slicePick;rw[h1,e,f];simp only[sliceRange_one,pick_run,size_toArray]<;>rfl
def afi(K:PySem.W.Frag):V->Option Int->Option Int->Hp->VK->Prop:=fun x lo hi H Q=>∃a xs,x=.ref a/\eV K H a xs/\∀p,H p=none->Q (.ref p) (upd H p (.lst (wM xs lo hi)))
theorem Nf:SlR X (afi X.K):=by intro e s σ H x v l m lo hi sl Q I f hs g i h;obtain⟨a,xs,rfl,j,q⟩:=h;cases f;obtain⟨k,r,ht,hz⟩:=I.list j;have c:=r.length;refine⟨"list",_,slot_list_getitem.lookup,ht.isList.typeIs,?_⟩;refine wpAny_getItem_list_slice ht.isList hs g i .none (by simp) ?_ (by rw[size_toArray]<;>omega);rw[rY,<-c];refine⟨.ref s.heap.objs.size,_,I.laid (t':=s.toks) (o:=.lst (wM xs lo hi)) (fun b p q=>dG q) (dz) ?_,rfl,q _ (I.hok.fresh (dz))⟩;exact⟨le_trans (oH xs lo hi) hz,_,0,(r.drop (HT.dH xs.length 0 lo)).take (HT.dH xs.length xs.length hi-HT.dH xs.length 0 lo),get?_push_size _ rfl⟩
theorem u9:dI X (.builtin "len") (fun xs H Q=>∃p ys,xs=[.ref p]/\(eV X.K H p ys\/iQ X.K H p ys)/\Q (.int ys.length) H):=by
 intro i s σ H xs k Q I r h;obtain⟨p,ys,rfl,hq,q⟩:=h;obtain⟨u,rfl,j⟩:=vals1 r;cases j;have l:=rM;rcases hq with hq|hq;.obtain⟨e,f,g,hz⟩:=I.list hq;have c:=f.length;exact Calls.call_len_list g.isList (by simp only[size_toArray]<;>omega) ⟨.int ys.length,H,I.tok _,⟨s.toks+1,by rw[size_toArray,c]⟩,q⟩
 .obtain⟨e,f,g,hz⟩:=I.tuple hq;have c:=f.length;exact len_tuple g (by simp only[size_toArray]<;>omega) ⟨.int ys.length,H,I.tok _,⟨s.toks+1,by rw[size_toArray,c]⟩,q⟩
theorem uQ:dI X (.type "list") (fun xs H Q=>∃p ys,xs=[.ref p]/\(eV X.K H p ys\/iQ X.K H p ys)/\∀l,H l=none->Q (.ref l) (upd H l (.lst ys))):=by
 intro i s σ H xs v Q I r h;obtain⟨p,ys,rfl,hq,q⟩:=h;obtain⟨u,rfl,t⟩:=vals1 r;cases t;have fin:∀(c:List Value),Vals ys c->ys.length<=sizeLine->∀(h':Heap)(f:Nat),(∀b m,s.heap.get? b=some m->h'.get? b=some m)->h'.get? s.heap.objs.size=some {cls:=.type "list",dict:=none,data:=.seq c.toArray f,slots:=#[]}->EP X i σ Q (.ref s.heap.objs.size) {s with heap:=h'}:=fun c g hz h' f kp e=>⟨.ref s.heap.objs.size,_,I.laid (t':=s.toks) kp (dz) (show bJ X.prog X.w _ h' _ (.lst ys)from⟨hz,c,f,g,e⟩),rfl,q _ (I.hok.fresh (dz))⟩;rcases hq with hq|hq;.obtain⟨c,g,k,hz⟩:=I.list hq;have j:=g.length;obtain⟨o,ho,hc,n,hd⟩:=k.isList;exact call_list_seq p (.inl rfl) ho hc hd (fun h' f kp e=>fin c g hz h' f kp e) (by simp only[size_toArray]<;>omega)
 .obtain⟨c,g,k,hz⟩:=I.tuple hq;have j:=g.length;obtain⟨o,ho,hc,n,hd⟩:=k;exact call_list_seq p (.inr rfl) ho hc hd (fun h' f kp e=>fin c g hz h' f kp e) (by simp only[size_toArray]<;>omega)
theorem lr:dI X (.type "tuple") (fun xs H Q=>∃p ys,xs=[.ref p]/\((eV X.K H p ys/\∀l,H l=none->Q (.ref l) (upd H l (.tup ys)))\/(iQ X.K H p ys/\Q (.ref p) H))):=by
 intro c s σ H xs x Q I r h;obtain⟨p,ys,rfl,h⟩:=h;obtain⟨u,rfl,t⟩:=vals1 r;cases t;rcases h with⟨g,q⟩|⟨g,q⟩;.obtain⟨f,i,j,hz⟩:=I.list g;have k:=i.length;refine call_tuple_list j.isList (fun h' kp=>?_) (by simp only[size_toArray]<;>omega);have m:Inv X c σ H {s with heap:=h'}:=I.kept (t':=s.toks) kp;have v:Inv X c σ (upd H h'.objs.size (.tup ys)) {s with heap:=h'.push {cls:=.type "tuple",data:=.seq f.toArray}}:=m.laid (t':=s.toks) (fun b o e=>dG e) (dz) (show bJ X.prog X.w _ _ _ (.tup ys)from⟨hz,f,i,IsTup.new _ _⟩);exact⟨.ref h'.objs.size,_,v,rfl,q _ (m.hok.fresh (dz))⟩
 .obtain⟨f,i,j,hz⟩:=I.tuple g;exact call_tuple_same j ⟨.ref p,H,I,rfl,q⟩
def tyV(K:PySem.W.Frag)(T:String)(x:V)(H:Hp):Prop:=match x with|.str _=>T="str"|.int _=>T="int"|.ref p=>(T="list"/\∃xs,eV K H p xs)\/(T="tuple"/\∃o,K.lookup p=some o/\o.cls=.type "tuple"/\o.dict=none)\/(T="dict"/\((∃kvs,H p=some (.dK kvs))\/∃kvs,H p=some (.dT kvs)))\/(T="set"/\∃S n,H p=some (.set S n))|_=>False
theorem Uy{g:List (Addr×Obj)}{σ:St}{H:Hp}{s:Shared}{T:String}{x:V}{v:Value}(I:Inv X g σ H s)(r:RelV x v)(ty:tyV X.K T x H):
 s.TypeIs v T/\∀a,v=.ref a->∃j,s.heap.get? a=some j/\j.dict=none:=by cases x with|str z=>obtain⟨t,rfl⟩:=r;cases(show T="str"from ty);exact⟨typeIs_str s z t,fun _ e=>nomatch e⟩|int i=>obtain⟨t,rfl⟩:=r;cases(show T="int"from ty);exact⟨typeIs_int s i t,fun _ e=>nomatch e⟩|ref p=>
   cases r;rcases ty with⟨rfl,xs,l⟩|⟨rfl,o,f,hc,hd⟩|⟨rfl,f⟩|⟨rfl,S,n,f⟩;.obtain⟨m,_,k,_⟩:=I.list l;refine⟨k.isList.typeIs,fun a e=>?_⟩;cases e;obtain⟨o,n,e,c,hd,_⟩:=k;exact⟨o,e,hd⟩
   .refine⟨⟨o,I.Pb p o f,hc⟩,fun a e=>?_⟩;cases e;exact⟨o,I.Pb _ o f,hd⟩
   . have z:∃o,s.heap.get? p=some o/\o.ExactDict:=by
      rcases f with⟨kvs,f⟩|⟨kvs,f⟩;.obtain⟨_,_,_,_,o,_,_,e,ex,_⟩:=I.hok p _ f;exact⟨o,e,ex⟩
      .obtain⟨_,_,_,_,o,_,_,e,ex,_⟩:=I.hok p _ f;exact⟨o,e,ex⟩
     obtain⟨o,e,ex⟩:=z;refine⟨⟨o,e,ex.1⟩,fun a h=>?_⟩;cases h;exact⟨o,e,ex.2.1⟩
   .obtain⟨o,_,_,_,e,ex,_⟩:=I.hok p _ f;refine⟨⟨o,e,ex.1⟩,fun a h=>?_⟩;cases h;exact⟨o,e,ex.2.1⟩|_=>exact False.elim ty
def tBM(K:PySem.W.Frag)(T:String)(r:V->List V->Hp->VK->Prop)(to:TE)(t:TA):TE:=fun σ H Q=>to σ H fun x c=>tyV K T x c/\t σ c fun xs e=>r x xs e Q
variable{o e:Expr}{es:List Expr}{to:TE}{t:TA}{name:Str}{apos cpos:Pos}{T id:String}{r:V->List V->Hp->VK->Prop}
theorem IW(m:PlainAttrs T)(slot:Slot T name id)(k:typeOf (.builtin id)=pure (.type "method_descriptor"))(p:MtR X id r)(ho:PE X o to)(q:PA X (e::es) t)(g:attributeBase o name X.env (eval o X.env)=eval o X.env:=by rfl)(j:((backTo cpos (starEach (e::es) X.env)).all (fun x=>!x.1)&&(backToKw cpos (keywordEach [] X.env)).all (fun x=>x.1.isSome)&&decide ((e::es).length+([]:List Keyword).length+(if([]:List Keyword).isEmpty then 0 else 1)<30))=true:=by rfl)(i:(apos.endLine==cpos.line)=true:=by rfl)(hs:starEach (e::es) X.env=(false,eval e X.env)::starEach es X.env:=by rfl)(f:(backTo cpos (starEach es X.env)).any (·.1)=false:=by rfl):PE X (.Call (.Attribute o name apos) (e::es) [] cpos) (tBM X.K T r to t):=by intro c s σ H Q I h;refine wpAny_Call_method_late g j i rfl (bR (ho c s σ H _ I h) fun v s1⟨x,H1,I1,r1,ty,q1⟩=>?_);obtain⟨h1,u⟩:=Uy I1 r1 ty;refine⟨T,id,m,slot,k,h1,u,?_⟩;have l:=q cpos c s1 σ H1 _ I1 q1;rw[hs]at l ⊢;refine Calls.callWith_builtin (by show(false||(backTo cpos (starEach es X.env)).any (·.1))=false;rw[f]<;>rfl) (Calls.evalArgs_plain ?_);exact bR l fun w s2⟨vs,H2,I2,r2,q2⟩=>p c s2 σ H2 x vs v w Q I2 r1 r2 q2
end
def MtM(X:Cx)(id:String)(r:V->List V->Hp->VK->Prop):Prop:=∀(a:List (Addr × Obj))(s:Shared)(σ:St)(H:Hp)(x:V)(xs:List V)(v:Value)(b:List Value)(Q:VK),Inv X a σ H s->RelV x v->Vals xs b->r x xs H Q->wpAny (model X.prog X.w) X.A (call (.builtin id) (v::b)) (EP X a σ Q) X.xe s
theorem Vals.one:∀{x:V}{a:List Value},Vals [x] a->∃u,a=[u]/\RelV x u|x,a,h=>by cases h with|cons r t=>cases t;exact⟨_,rfl,r⟩
theorem Vals.two:∀{x y:V}{a:List Value},Vals [x,y] a->∃u v,a=[u,v]/\RelV x u/\RelV y v|x,y,a,h=>by cases h with|cons r t=>cases t with|cons q z=>cases z;exact⟨_,_,rfl,r,q⟩
theorem Vals.zero:∀{a:List Value},Vals [] a->a=[]|_,.nil=>rfl
theorem Vals.reverse{xs:List V}{a:List Value}(h:Vals xs a):Vals xs.reverse a.reverse:=by induction h with|nil=>exact .nil|cons r t b=>rw[reverse_cons,reverse_cons];exact Vals.append b (.cons r .nil)
theorem Vals.rep{xs:List V}{a:List Value}(h:Vals xs a):∀k:Nat,Vals (replicate k xs).flatten (replicate k a).flatten|0=>.nil|k+1=>by rw[replicate_succ,replicate_succ,flatten_cons,flatten_cons];exact Vals.append h (Vals.rep h k)
theorem foldl_rep(a:List Value):∀(k:Nat)(b:List Value),foldl (fun c f=>c++f) b.toArray (replicate k a.toArray)=(b++(replicate k a).flatten).toArray
 |0,b=>by simp|k+1,b=>by
   have e:b.toArray++a.toArray=(b++a).toArray:=by simp
   have g:(b++a)++(replicate k a).flatten=b++(replicate (k+1) a).flatten:=by rw[replicate_succ,flatten_cons,append_assoc]
   rw[<-g,<-foldl_rep a k (b++a),<-e,replicate_succ,foldl_cons]
section
variable{X:Cx}{pins:List (Addr×Obj)}{σ:St}{H:Hp}{s:Shared}{l b:Addr}{xs ys zs:List V}
theorem Inv.XQ{a its':List Value}{f:Array Value->Array Value}{t':Nat}(I:Inv X pins σ H s)(c:H l=some (.lst xs))(e:s.heap.get? l=some {cls:=.type "list",data:=.seq a.toArray n})(g:f a.toArray=its'.toArray)(h:Vals ys its')(hz:ys.length<=sizeLine):Inv X pins σ (upd H l (.lst ys)) {s with heap:=s.heap.update l (Obj.mapSeq f),toks:=t'}:=by have q:=PySem.IsL.update e f;rw[g]at q;refine I.write (x:=l) (e:=l) (by rw[c];exact trivial) (.inl rfl) (fun k u i j=>(get?_update_other s.heap (Obj.mapSeq f) (Ne.symm i)).trans j) ⟨_,q⟩ ?_;exact⟨hz,its',_,h,q⟩
theorem Inv.U9{a:List Value}{t':Nat}(I:Inv X pins σ H s)(c:Vals ys a)(hz:ys.length<=sizeLine):Inv X pins σ (upd H s.heap.objs.size (.lst ys)) {s with heap:=s.heap.push {cls:=.type "list",data:=.seq a.toArray},toks:=t'}:=I.laid (fun _ _ q=>dG q) (dz) ⟨hz,a,0,c,get?_push_size _ rfl⟩
theorem Inv.fresh(I:Inv X pins σ H s):H s.heap.objs.size=none:=I.hok.fresh (dz)
theorem Inv.UJ(I:Inv X pins σ H s)(c:H l=some (.lst xs)):xs.length<=sizeLine/\∃(a:List Value)(n:Nat),Vals xs a/\xs.length=a.length/\s.heap.get? l=some {cls:=.type "list",data:=.seq a.toArray n}:=by obtain⟨z,a,n,r,e⟩:=I.hok l _ c;exact⟨z,a,n,r,r.length,e⟩
theorem v8(h:n<=sizeLine):listTooLong n=false:=by unfold listTooLong;exact decide_eq_false (by omega)
end
section
variable{X:Cx}
def Nz:V->List V->Hp->VK->Prop:=fun x vs H Q=>∃l xs y,x=.ref l/\vs=[y]/\H l=some (.lst xs)/\xs.length<sizeLine/\Q .non (upd H l (.lst (xs++[y])))
theorem nQ:MtM X "list.append" Nz:=by intro b s σ H x vs v j Q I f g h;obtain⟨l,xs,y,rfl,rfl,c,hz,q⟩:=h;cases f;obtain⟨u,rfl,i⟩:=g.one;obtain⟨z,a,n,r,k,e⟩:=I.UJ c;refine call_meets F.slot_list_append ⟨_,e,rfl⟩ F.entry_list_append (F.args_list_append_2 _ _) (PySem.list_append l a.toArray n u (by rw[size_toArray];omega)) ⟨e,?_⟩;refine⟨.non,_,I.XQ (its':=a++[u]) c e (by simp) (r.append (.cons i .nil)) ?_,rfl,q⟩;rw[length_append,List.length_singleton];omega
def LK:V->List V->Hp->VK->Prop:=fun x vs H Q=>∃l b xs a,x=.ref l/\vs=[.ref b]/\H l=some (.lst xs)/\H b=some (.lst a)/\xs.length+a.length<=sizeLine/\Q .non (upd H l (.lst (xs++a)))
theorem Ea:MtM X "list.extend" LK:=by
 intro f s σ H x vs v A Q I i j h;obtain⟨l,b,xs,B,rfl,rfl,g,k,hz,q⟩:=h;cases i;obtain⟨u,rfl,m⟩:=j.one;cases m;obtain⟨z,c,n,r,C,e⟩:=I.UJ g;obtain⟨E,a,o,p,t,w⟩:=I.UJ k;have hsz:c.toArray.size+a.toArray.size<=sizeLine:=by rw[size_toArray,size_toArray];omega
 have y:¬(!c.toArray.isEmpty&&listTooLong (c.toArray.size+a.toArray.size))=true:=by rw[v8 hsz,Bool.and_false];exact Bool.false_ne_true
 refine call_meets F.slot_list_extend ⟨_,e,rfl⟩ F.entry_list_extend (F.args_list_extend_2 _ _) (AutoSeq1.list_extend_list_list_0 l c.toArray n b a.toArray o y (by rw[size_toArray];omega) (by omega)) ⟨e,w,?_⟩;refine⟨.non,_,I.XQ (its':=c++a) g e (by simp) (r.append p) ?_,rfl,q⟩;rw[length_append];omega
theorem len_rep{a:Type}(xs:List a)(k:Nat):(replicate k xs).flatten.length=k*xs.length:=by induction k with|zero=>simp|succ k b=>rw[replicate_succ,flatten_cons,length_append,b,Nat.succ_mul,Nat.add_comm]
end
end L2
namespace Att
open PySem PySem.W PySem.Calls PyProof.Rows
theorem pF{P:Params}{h:Heap}:∀(ns:List Int)(vs:List Value),WellAll P h vs (ns.map WData.int)->IntsAre vs ns:=by intro ns;induction ns with|nil=>intro vs w;rw[map_nil]at w;cases w;exact .nil|cons n ns c=>intro vs w;rw[map_cons]at w;cases w with|cons a b=>cases a;exact .cons _ _ (c _ b)
theorem Fo{l:OpenLaw}{n:Nat}(m:l.most=some n){P:Params}{h:Heap}{args:List WData}{b:List Value}(c:l.row.toRowW.claim.pre args=true)(j:WellAll P h b args):∃a vs ns,b=[Value.ref a]/\args=[WData.list (ns.map WData.int)]/\h.get? a=some {cls:=.type "list",data:=.seq vs.toArray}/\IntsAre vs ns/\ns.length<=n:=by
 have k:WShape.hasAll [] args [.list .int]=true:=(pre_splitW c).1;have hc:l.pre.holds [] {args:=args}=true:=(pre_splitW c).2;obtain⟨d,r,rfl,h1,o⟩:=hasAllW_cons k;obtain rfl:=hasAllW_nil o;obtain⟨xs,rfl,p⟩:=hasW_list h1;obtain⟨ns,rfl⟩:=items_int p;have e:ns.length<=n:=by
  unfold OpenLaw.pre at hc;have g:(WTm.not (.lt (.lit (.int (n:Int))) (.len (.arg 0)))).holds [] {args:=[.list (ns.map .int)]}=true:=by have g:=(holds_andW hc).1;rw[m]at g;exact g
  have i:=condW_of g (w_not (w_lt w_lit (w_len_list (w_arg rfl))));rw[length_map]at i;refine Nat.le_of_not_lt fun q=>?_;have s:(n:Int)<((ns.length:Nat):Int):=by omega
  first|(rw[decide_eq_true s]at i;exact absurd i (by decide))|(simp at i;omega)
 cases j with|cons t u=>cases u;cases t with|list ho f=>exact⟨_,_,ns,rfl,rfl,ho,pF ns _ f,e⟩
theorem Ef(l:OpenLaw)(args:List WData):l.row.toRowW.claim.post args (.bool true) args=true:=postW_of (r:=l.row.toRowW) (X:=(true==true)) (show WShape.has [] (.bool true) .bool=true by first|rfl|decide|simp[WShape.has,WShape.arms,WShape.armsAll]) (show(WTm.eq .res (.lit (.bool true))).value [] {args:=args,res:=some (.bool true),after:=args}=some (.bool (true==true))from w_eq_bool (w_res rfl) w_lit) rfl
theorem xH{l:OpenLaw}{n:Nat}{q:Program}{c:List Str}{z:(Str->Option Value)->Heap->Prop}{A:World->Heap->Prop}{d:DefRec}(H:l.most=some n)(s:d.params.defaults=[])(call:∀(w:World)(s₀ b:Shared)(mg t:Str->Option Value)(h:Addr)(o:Obj)(u m e:Value)(a:Addr)(vs:List Value)(ns:List Int),Ground q c [] z w s₀ mg t b.heap->A w b.heap->b.heap.get? h=some o->o.data=.func (docDef d.name d.params d.body d.scope u m e)->b.heap.CodeRec m d.name->mg d.name=some (.ref h)->b.heap.get? a=some {cls:=.type "list",data:=.seq vs.toArray}->IntsAre vs ns->ns.length<=n->b.gens=#[]->codeAny (model l.prog w) callerA (.call (.ref h) ⟨[.ref a],[]⟩) (fun r p=>r=.ok (.ret (.bool true))/\OldK b.heap p.heap/\p.os=b.os/\AllBare p.gens) b):WalkO q c z A l.row.toRowW d [] (fun f vs=>PySem.call f vs):=by intro w s₀ b mg t G Y h o u m e I kV ho hd v B x J args C as i E L y M;obtain rfl:I=.none:=Dflts.none B s;obtain rfl:kV=.none:=Dflts.noKw B;obtain⟨a,vs,ns,rfl,rfl,j,g,k⟩:=Fo H i y;refine enter_call (codeAny_mono (call w s₀ b mg t h o u m e a vs ns G Y ho (fd_plain hd) v x j g k J) fun r p N=>?_);obtain⟨rfl,O,Q,U⟩:=N;exact⟨.inl ⟨.bool true,.bool true,[],rfl,fun _=>rfl,.bool true,Ef l _,fun _=>⟨List.Pairwise.nil,fun _ W=>(nomatch W)⟩⟩,O,Q,U⟩
end Att
namespace L2
open PySem PySem.Spec PyProof.Rows
theorem uc:∀{vs:List Value}{ns:List Int},IntsAre vs ns->Vals (ns.map V.int) vs|_,_,.nil=>.nil|_,_,.cons n t h=>.cons ⟨t,rfl⟩ (uc h)
def Only(H:Hp):Prop:=∀b,H b=none\/∃o xs,H b=some (.dj o (.lst xs))
theorem Ie{P:Program}{w:World}{K:PySem.W.Frag}{mg G:Str->Option Value}{CX:Jd}{k:Nat}{I a:Addr}{fd:FuncData}{x:Str}{sp:Sp}{c:Shared}{vs:List Value}{ns:List Int}(M:K.In c.heap)(p:c.heap.Ns mainGlobals mg)(f:c.heap.Ns builtinsNs G)(J:∀x:Str,x≠"__name__"->G x=bootBuiltins x)(t:c.heap.NoLimit)(Z:c.gens=#[])(E:c.heap.get? a=some {cls:=.type "list",data:=.seq vs.toArray})(hi:IntsAre vs ns)(N:ns.length<=sizeLine)(hr:jL k callerA)(F:∀base:Heap,K.In base->base.Ns mainGlobals mg->nH P w K mg base CX k I fd [x] sp)(l:∀(s:Shared)(u:Value),BindsTo s fd ⟨[u],[]⟩ [(x,u)])(hsp:∀H:Hp,Only H->eV K H a (ns.map V.int)->sp [.ref a] H (fun v _=>v=.bl true) fun _ _ _=>False)(Z3:∀H e g,CX [] H c (fun _ _ _=>False) e g->False):codeAny (model P w) callerA (.call (.ref I) ⟨[.ref a],[]⟩) (fun r g=>r=.ok (.ret (.bool true))/\OldK c.heap g.heap/\g.os=c.os/\AllBare g.gens) c:=by
 have O:=uc hi;have y:=hi.length--from an abstract heap in which nothing but the script may be tracked
 have j:∀H:Hp,Only H->eV K H a (ns.map V.int)->m7 P w H c.heap->(∀b,H b≠none->b=a)->(H a≠none->K.lookup a=none)->codeAny (model P w) callerA (.call (.ref I) ⟨[.ref a],[]⟩) (fun r g=>r=.ok (.ret (.bool true))/\OldK c.heap g.heap/\g.os=c.os/\AllBare g.gens) c:=by
  intro H Q hS hok U hK;have X:∀{b:Addr}{o:Obj},c.heap.get? b=some o->H b=none->(uK c.heap H).get? b=some o:=fun e n=>Jh e n;have Z1:∀{b:Addr}{o:Obj}{es:Array DictEntry}{ep:Nat},c.heap.get? b=some o->o.data=.dict es ep->H b=none:=fun{b o es ep}e d=>by cases q:H b with|none=>rfl|some u=>have L:b=a:=U b (by rw[q];simp);subst L;rw[E]at e;cases e;have d':Data.seq vs.toArray _=Data.dict es ep:=d;cases d'
  have i:∀{b:Addr}{m:Str->Option Value},c.heap.Ns b m->(uK c.heap H).Ns b m:=fun{b m}⟨o,es,ep,e,d,r⟩=>⟨o,es,ep,X e (Z1 e d),d,r⟩;have A:K.In (uK c.heap H):=fun b o e=>X (M b o e) (by cases q:H b with|none=>rfl|some u=>have L:b=a:=U b (by rw[q];simp);subst L;rw[hK (by rw[q];simp)]at e;cases e);have hM:Mod K mg (uK c.heap H):=⟨A,i p,⟨G,i f,J⟩,let⟨mc,h1,h2⟩:=t;⟨mc,i h1,h2⟩⟩;have e0:Lz P w K mg (uK c.heap H) callerA [] c H:=⟨rfl,hM,fun b o e=>Ks e,Nat.le_of_eq (El _ _),trivial,fun b f=>absurd (show b∈([]:List Addr)from f) (by simp),hok,.of_eq Z⟩;refine codeAny_mono ((F _ A (i p)).run callerA [] c H ⟨[.ref a],[]⟩ [.ref a] [.ref a] _ _ hr e0 (l c (.ref a)) (.cons rfl .nil) (hsp H Q hS)) fun r g h=>?_;cases r with|error e=>exact(Z3 H e g h).elim|ok fl=>cases fl with|next=>exact False.elim h|brk=>exact False.elim h|cont=>exact False.elim h|ret u=>obtain⟨v,H',os,bare,un,B,r',q⟩:=h;have q':v=.bl true:=q;subst q';obtain rfl:u=Value.bool true:=r';refine⟨rfl,OldK.of_keep fun b o e=>?_,os,bare⟩;cases q:H b with|none=>exact un.keep b o e q (by intro z;exact absurd (show b∈([]:List Addr)from z) (by simp)) (by simp)|some u=>
        rcases Q b with z|⟨ob,xs,z⟩;.rw[q]at z;cases z
        .have z2:=un.vL b ob _ z;obtain⟨Y,_⟩:=hok b _ z;obtain⟨e2,_⟩:=B b _ z2;rw[e]at Y;cases Y;exact e2
 cases hk:K.lookup a with|some o=>--the script is one of the module's own objects
   have e:=M a o hk;rw[E]at e;cases e;refine j (fun _=>none) (fun _=>.inl rfl) (.inr ⟨_,vs.toArray,_,hk,rfl,rfl,rfl,by rw[size_toArray,y];exact N,by simpa using O⟩) (fun b u z=>by have C:(none:Option HO)=some u:=z;cases C) (fun b z=>absurd rfl z) fun z=>absurd rfl z|none=>
   refine j (fun b=>if b=a then some (.dj {cls:=.type "list",data:=.seq vs.toArray} (.lst (ns.map V.int)))else none) (fun b=>?_) (.inl (.inr ⟨{cls:=.type "list",data:=.seq vs.toArray},if_pos rfl⟩)) (fun b u z=>?_) (fun b z=>?_) fun _=>hk
   . by_cases f:b=a;.exact .inr ⟨_,_,if_pos f⟩
     .exact .inl (if_neg f)
   . by_cases f:b=a;.have C:=(if_pos f).symm.trans z;cases C;subst f;exact⟨E,by rw[length_map];exact N,vs,_,O,E⟩
     .have C:=(if_neg f).symm.trans z;cases C
   . by_cases f:b=a;.exact f
     .exact absurd (if_neg f) z
theorem Lg{l:PySem.W.OpenLaw}{n k:Nat}{q:Program}{i:List Str}{E:(Str->Option Value)->Heap->Prop}{B:World->Heap->Prop}{d:DefRec}{K:Params->PySem.W.Frag}{CX:World->Jd}{sp:World->Sp}{x:Str}(I:l.most=some n)(t:n<=sizeLine)(y:d.params.defaults=[])(hr:jL k callerA)(J:∀(w:World)(h:Heap),B w h->(K w.params).In h)(F:∀(w:World)(mg:Str->Option Value)(r:Addr)(h:Heap),(K w.params).In h->h.Ns mainGlobals mg->mg d.name=some (.ref r)->∃ fd:FuncData,(∀(s:Shared)(u:Value),BindsTo s fd ⟨[u],[]⟩ [(x,u)])/\∀base:Heap,(K w.params).In base->base.Ns mainGlobals mg->nH l.prog w (K w.params) mg base (CX w) k r fd [x] (sp w))(hsp:∀(w:World)(H:Hp)(a:Addr)(ns:List Int),ns.length<=n->Only H->eV (K w.params) H a (ns.map V.int)->sp w [.ref a] H (fun v _=>v=.bl true) fun _ _ _=>False)(L:∀(w:World)(H:Hp)(s:Shared)(e:Value)(z:Shared),CX w [] H s (fun _ _ _=>False) e z->False):PySem.W.WalkO q i E B l.row.toRowW d [] (fun f vs=>PySem.call f vs):=by refine Att.xH I y fun w s₀ m mg mb r o pm cd M a vs ns G Y ho hd N A p j c O=>?_;have C:=J w _ Y;obtain⟨fd,Q,U⟩:=F w mg r _ C G.T.g A;exact Ie C G.T.g G.T.b G.T.builtins G.T.nolimit O p j (le_trans c t) hr U Q (fun H X Z=>hsp w H a ns c X Z) fun H e z=>L w H m e z
theorem Hb{l:PySem.W.OpenLaw}{n k:Nat}{q:Program}{b:List Str}{o:(Str->Option Value)->Heap->Prop}{j:World->Heap->Prop}{d:DefRec}{K:Params->PySem.W.Frag}{CX:Jd}{sp:PySem.W.Frag->Sp}{x:Str}(p:l.most=some n)(c:n<=sizeLine)(g:d.params.defaults=[])(hr:jL k callerA)(r:∀(w:World)(h:Heap),j w h->(K w.params).In h)(F:∀(w:World)(mg:Str->Option Value)(m:Addr)(h:Heap),(K w.params).In h->h.Ns mainGlobals mg->mg d.name=some (.ref m)->∃ fd:FuncData,(∀(s:Shared)(u:Value),BindsTo s fd ⟨[u],[]⟩ [(x,u)])/\∀base:Heap,(K w.params).In base->base.Ns mainGlobals mg->nH l.prog w (K w.params) mg base CX k m fd [x] (sp (K w.params)))(hsp:∀(K:PySem.W.Frag)(H:Hp)(a:Addr)(ns:List Int),ns.length<=n->Only H->eV K H a (ns.map V.int)->sp K [.ref a] H (fun v _=>v=.bl true) fun _ _ _=>False)(t:∀(H:Hp)(s:Shared)(e:Value)(i:Shared),CX [] H s (fun _ _ _=>False) e i->False):PySem.W.WalkO q b o j l.row.toRowW d [] (fun f vs=>PySem.call f vs):=Lg (K:=K) (CX:=fun _=>CX) (sp:=fun w=>sp (K w.params)) p c g hr r F (fun w H a ns h1 y z=>hsp (K w.params) H a ns h1 y z) fun _ H s e i=>t H s e i
end L2
namespace L2
open PySem PySem.Spec PyProof.Rows
noncomputable def iW(s:Stmt):Arguments:=match s with|.FunctionDef _ a _ _ _ _ _ _ _ _=>a|_=>{posonlyargs:=[],args:=[],vararg:=none,kwonlyargs:=[],kw_defaults:=[],kwarg:=none,defaults:=[]}
noncomputable def fY(s:Stmt):List Stmt:=match s with|.FunctionDef _ _ b _ _ _ _ _ _ _=>b|_=>[]
noncomputable def aA(s:Stmt):Scope:=match s with|.FunctionDef _ _ _ _ _ _ a _ _ _=>a|_=>{kind:=.function,names:=[],isGenerator:=false,isCoroutine:=false}
abbrev Hu:Jd:=fun _ _ _ _ _ _=>False
abbrev E0:XK:=fun _ _ _=>False
theorem Y4{X:Cx}:Passes Hu X E0:=fun _ _ _ _ _ _ _ h=>h.elim
structure gh(K:PySem.W.Frag)(x qual:Str)(st:Stmt)(f:Addr)(fd:FuncData):Prop where
 ex:∃(oc:Value)(od:Option Addr)(kV doc pm:Value)(an:Option Addr)(cdv ct:Value)(osl:Array (Option Value)),fd=PySem.W.fnOf x qual (iW st) (fY st) (aA st) .none kV doc pm an cdv ct/\K.lookup f=some ⟨oc,od,.func fd,osl⟩/\PySem.W.codeIn K cdv qual=true
 kp:keepIn K (.ref f)=true
section
variable{P:Program}{w:World}{K:PySem.W.Frag}{mg:Str->Option Value}{base:Heap}
theorem gh.ok{x qual:Str}{st:Stmt}{f:Addr}{fd:FuncData}{N ps:List Str}{k:Nat}{sp:Sp}(F:gh K x qual st f fd)(S:aH N ps (aA st))(len:∀vs H Q E,sp vs H Q E->vs.length=ps.length)(a:∀(cdv:Value)(A:Around)(outer:List Env)(s:Shared)(H:Hp)(vs:List V)(Q:VK)(E:XK),jL k (A.deeper (envOfC qual (aA st) s.heap.objs.size f cdv))->sp vs H Q E->∃t,xn (zx Hu P w K mg base N qual (aA st) f cdv A outer s H E).ZJ (fY st) t/\t {nx:=fun _ c=>Q .non c,rt:=Q} (start N vs) H):nH P w K mg base Hu (k+1) f fd ps sp:=by obtain⟨oc,i,kV,e,j,l,cdv,ct,g,rfl,lk,b⟩:=F.ex;refine XN lk b S len fun A outer s H vs Q E hr hsp=>?_;obtain⟨t,h,q⟩:=a cdv A outer s H vs Q E hr hsp;exact⟨t,h.ZJ,q⟩
theorem gh.binds{x qual:Str}{st:Stmt}{f:Addr}{fd:FuncData}{ps:List Str}(F:gh K x qual st f fd)(h:∀(kV a b:Value)(c:Option Addr)(cdv ct:Value)(e:List Value),e.length=ps.length->bindArgs (PySem.W.fnOf x qual (iW st) (fY st) (aA st) .none kV a b c cdv ct) ⟨e,[]⟩=pure (ps.zip e)):Binds K fd ps []:=by obtain⟨oc,j,kV,a,b,c,cdv,ct,g,rfl,lk,i⟩:=F.ex;exact .all (h kV a b c cdv ct)
theorem Q5{x qual:Str}{st:Stmt}{f:Addr}{oc:Value}{h e:Option Addr}{b:Array (Option Value)}{kV a g cdv ct:Value}(l:K.lookup f=some ⟨oc,h,.func (PySem.W.fnOf x qual (iW st) (fY st) (aA st) .none kV a g e cdv ct),b⟩)(c:PySem.W.codeIn K cdv qual=true)(k:keepIn K (.ref f)=true):gh K x qual st f (PySem.W.fnOf x qual (iW st) (fY st) (aA st) .none kV a g e cdv ct):=⟨⟨oc,h,kV,a,g,e,cdv,ct,b,rfl,l,c⟩,k⟩
end
def aF(H a:Hp):Prop:=∀b o,H b=some o->a b=some o
theorem aF.refl(H:Hp):aF H H:=fun _ _ h=>h
theorem aF.trans{H e f:Hp}(a:aF H e)(b:aF e f):aF H f:=fun c o h=>b c o (a c o h)
theorem aF.seq{K:PySem.W.Frag}{H b:Hp}{a:Addr}{xs:List V}(e:aF H b)(h:eV K H a xs):eV K b a xs:=by
 rcases h with(h|⟨o,h⟩)|h;.exact .inl (.inl (e _ _ h))
 .exact .inl (.inr ⟨o,e _ _ h⟩)
 .exact .inr h
end L2
end
section
namespace HH
open PySem
inductive Dc where|k(kvs:List (Int×Int))|t(kvs:List (List Int×Int))deriving DecidableEq
inductive D where|non|bl(b:Bool)|int(i:Int)|str(s:Str)|tup(ds:List D)|lst(ds:List D)|eO(m:Dc)|dv(ks:List Int)(ds:List D)deriving Inhabited
mutual
noncomputable def lF:D->D->Bool|.non,.non=>true|.bl a,.bl b=>a==b|.bl a,.int i=>(if a then(1:Int)else 0)==i|.int i,.bl a=>i==(if a then(1:Int)else 0)|.int i,.int j=>i==j|.str a,.str b=>a==b|.tup xs,.tup ys=>gP xs ys|.lst xs,.lst ys=>gP xs ys|.eO a,.eO b=>decide (a=b)|.dv a xs,.dv b ys=>decide (a=b)&&gP xs ys|_,_=>false
noncomputable def gP:List D->List D->Bool|[],[]=>true|x::xs,y::ys=>lF x y&&gP xs ys|_,_=>false
end
theorem pqi{i j}:lF (.int i) (.int j)=(i==j):=(rfl)
theorem pqt{x y}:lF (.tup x) (.tup y)=gP x y:=(rfl)
theorem pql{x y}:lF (.lst x) (.lst y)=gP x y:=(rfl)
noncomputable def fj:Nat->D->Bool|_,.non=>true|_,.bl _=>true|_,.int _=>true|_,.str _=>true|0,.tup _=>false|0,.lst _=>false|_,.eO _=>false|_,.dv _ _=>false|n+1,.tup a=>a.all (fj n)|n+1,.lst a=>a.all (fj n)
inductive Sl where|aQ|val(b:Bool)(d:D)|own(b:Bool)(ds:List D)|lent(ds:List D)|gQ(m:Dc)|hold(rows:List (List D))|cF(kvs:List (Int×D))deriving Inhabited
inductive R where|val(d:D)|own(ds:List D)deriving Inhabited
noncomputable def R.d:R->D|.val d=>d|.own a=>.lst a
inductive Res(α:Type)where|ok(a:α)(ρ:List Sl)|exc(k:Nat)(ρ:List Sl)|stuck deriving Inhabited
noncomputable def Res.bind{b c:Type}(f:b->List Sl->Res c):Res b->Res c|.ok a ρ=>f a ρ|.exc _ _=>.stuck|.stuck=>.stuck
noncomputable def lift{b:Type}(o:Option b)(ρ:List Sl):Res b:=match o with|some a=>.ok a ρ|none=>.stuck
inductive Op where|add|sub|mul|fdiv|mod|pow|shl|shr|band|zZ|din|afy deriving DecidableEq
inductive Cm where|eq|ne|lt|le|gt|ge|isN|N8|inn|Z4|isT|Z5|leT deriving DecidableEq
inductive Ty where|int|bool|str|tuple|list|none deriving DecidableEq
inductive YL where|len|list|tuple|min2|max2|JQ|sum|all|abs|int|Dj|keys|Xb|rvT|JR deriving DecidableEq
inductive P where|var(i:Nat)|con(d:D)|glob(x:Str)(d:D)|bin(o:Op)(a b:P)|neg(a:P)|not(a:P)|and(a b:P)|or(a b:P)|cmp(o:Cm)(a b:P)|chain(o o':Cm)(a b c:P)|Ql(c a b:P)|tup(as:List P)|lst(as:List P)|idx(a i:P)|slice(a lo hi:P)|call(f:Nat)(as:List P)|blt(b:YL)(as:List P)|inst(ts:List Ty)(a:P)|comp(src:P)(n:Nat)(is:List Nat)(one:Bool)(test:Option P)(elt:P)|rW(a b:P)|Z6(a:P)|zip(a b:P)|Xc(x:Nat)(k d:P)|vw(x:Nat)|Qm(x:Nat)(k:P)|Qn(x:Nat)(k:P)(neg:Bool)|Aa(k e:Int)|lC(i:Nat)(a:P)(n:Nat)(is:List Nat)(one:Bool)(test:Option P)(elt:P)deriving Inhabited
noncomputable abbrev lim:Nat:=16777216
noncomputable def qj:D->D->Option R|.int i,.int j=>some (.val (.int (i+j)))|.lst xs,.lst ys=>if xs.length+ys.length<=lim then some (.own (xs++ys))else none|.tup xs,.tup ys=>if xs.length+ys.length<=lim then some (.val (.tup (xs++ys)))else none|.str x,.str y=>if x.length+y.length<=lim then some (.val (.str (x++y)))else none|_,_=>none
noncomputable def oU:D->D->Option R|.int i,.int j=>if((-18446744073709551616<i/\i<18446744073709551616)\/(-18446744073709551616<j/\j<18446744073709551616))then some (.val (.int (i*j)))else none|.lst xs,.int k=>if 0<=k/\0<xs.length/\xs.length*k.toNat<=lim then some (.own (replicate k.toNat xs).flatten)else none|.tup xs,.int k=>if 0<=k/\0<xs.length/\xs.length*k.toNat<=lim then some (.val (.tup (replicate k.toNat xs).flatten))else none|_,_=>none
noncomputable def xX:D->D->Option R|.int i,.int j=>some (.val (.int (i-j)))|_,_=>none
noncomputable def rH:D->D->Option R|.int i,.int j=>if 0<j/\j<1606938044258990275541962092341162602522202993782792835301376 then some (.val (.int (i/j)))else none|_,_=>none
noncomputable def vX:D->D->Option R|.int i,.int j=>if 0<j then some (.val (.int (i%j)))else none|_,_=>none
noncomputable def wB:D->D->Option R|.int i,.int j=>if 0<=j/\j<=1000/\i.natAbs<18446744073709551616 then some (.val (.int (i^j.toNat)))else none|_,_=>none
noncomputable def HY:D->D->Option R|.int i,.int j=>if 0<=j/\j<=1000/\i.natAbs<18446744073709551616 then some (.val (.int (i*2^j.toNat)))else none|_,_=>none
noncomputable def G3:D->D->Option R|.int i,.int j=>if 0<=j then some (.val (.int (i/2^j.toNat)))else none|_,_=>none
noncomputable def yG:D->D->Option R|.int i,.int j=>some (.val (.int (Builtin.bitAnd i j)))|_,_=>none
noncomputable def flat:D->Bool|.tup _=>false|.lst _=>false|.eO _=>false|.dv _ _=>false|_=>true
noncomputable def items:D->Option (List D)|.lst a=>some a|.tup a=>some a|_=>none
noncomputable def RQ:D->Option (List D)|.tup a=>some a|_=>none
noncomputable def HF(x y:D):Option Bool:=if fj 8 x&&fj 8 y then some (lF x y)else none
noncomputable def Je(x y:D):Option Bool:=if fj 8 x&&fj 8 y then some (!lF x y)else none
noncomputable def Km(f:Int->Int->Bool):D->D->Option Bool|.int i,.int j=>some (f i j)|_,_=>none
noncomputable def jO:D->Bool|.non=>true|_=>false
noncomputable def cmN(neg:Bool)(x:D):D->Option Bool|.non=>some (if neg then !jO x else jO x)|_=>none
noncomputable def Zc(neg:Bool)(x y:D):Option Bool:=(items y).bind fun ys=>if(flat x&&ys.all flat)=true then some (if neg then !(ys.any fun y=>lF y x)else ys.any fun y=>lF y x)else none
noncomputable def cmT(neg:Bool):D->D->Option Bool|.bl b,.bl true=>some (if neg then !b else b)|_,_=>none
noncomputable def bH:List Int->List Int->Bool|[],_::_=>true|i::is,j::js=>decide (i<j)||(decide (i=j)&&bH is js)|_,[]=>false
noncomputable def ou:D->Int|.int i=>i|_=>0
noncomputable def cR:D->List Int|.int i=>[i]|.tup a=>a.map ou|_=>[]
noncomputable def gO:D->Bool|.int _=>true|_=>false
noncomputable def Dc.get:Dc->D->Option (Option Int)|.k kvs,.int i=>some ((kvs.find? fun a=>decide (a.1=i)).map (·.2))|_,_=>none
noncomputable def putD{κ:Type}[DecidableEq κ](kvs:List (κ×Int))(k:κ)(v:Int):List (κ×Int):=if(kvs.any fun a=>decide (a.1=k))=true then kvs.map (fun a=>if a.1=k then(a.1,v)else a)else kvs++[(k,v)]
noncomputable def Dc.put:Dc->D->Int->Option Dc|.k kvs,.int i,v=>if kvs.length<lim then some (.k (putD kvs i v))else none|_,_,_=>none
noncomputable def lM(kvs:List (Int×D))(k:Int):Option D:=(kvs.find? fun p=>decide (p.1=k)).map (·.2)
noncomputable def fX(kvs:List (Int×D))(k:Int)(d:D):List (Int×D):=if(kvs.any fun p=>decide (p.1=k))=true then kvs.map (fun p=>if p.1=k then(p.1,d)else p)else kvs++[(k,d)]
noncomputable def wJ(neg:Bool):D->D->Option R|.int k,.dv ks _=>some (.val (.bl (if neg then !ks.contains k else ks.contains k)))|_,_=>none
noncomputable def Dd:D->D->Option R|.eO m,k=>(m.get k).bind fun o=>o.map fun v=>.val (.int v)|.dv ks a,.int k=>(lM (ks.zip a) k).map .val|_,_=>none
noncomputable def rZ:Op->D->D->Option R|.add=>qj|.mul=>oU|.sub=>xX|.fdiv=>rH|.mod=>vX|.pow=>wB|.shl=>HY|.shr=>G3|.band=>yG|.zZ=>Dd|.din=>wJ false|.afy=>wJ true
noncomputable def Xz:D->D->Option Bool|.int i,.int j=>some (decide (i<j))|.tup xs,.tup ys=>if(xs.all gO&&ys.all gO)=true then some (bH (xs.map ou) (ys.map ou))else none|_,_=>none
noncomputable def afh:D->D->Option Bool|.int i,.int j=>some (decide (i<=j))|.tup xs,.tup ys=>if(xs.all gO&&ys.all gO)=true then some (!bH (ys.map ou) (xs.map ou))else none|_,_=>none
noncomputable def cm:Cm->D->D->Option Bool|.eq=>HF|.ne=>Je|.lt=>Xz|.le=>Km fun i j=>decide (i<=j)|.leT=>afh|.gt=>Km fun i j=>decide (j<i)|.ge=>Km fun i j=>decide (j<=i)|.isN=>cmN false|.N8=>cmN true|.inn=>Zc false|.Z4=>Zc true|.isT=>cmT false|.Z5=>cmT true
noncomputable def qD(o:Cm)(x y:D):Option R:=(cm o x y).map fun k=>.val (.bl k)
noncomputable def jM(n:Nat)(i:Int):Option Nat:=if 0<=i then(if i<n then some i.toNat else none)else if-(n:Int)<=i then some (i+n).toNat else none
noncomputable def at'{a:Type}(xs:List a)(i:Int):Option a:=(jM xs.length i).bind fun j=>xs[j]?
noncomputable def dH(n d:Nat):Option Int->Nat|none=>d|some i=>if 0<=i then min i.toNat n else(i+n).toNat
noncomputable def cut{a:Type}(xs:List a)(lo hi:Option Int):List a:=(xs.drop (dH xs.length 0 lo)).take (dH xs.length xs.length hi-dH xs.length 0 lo)
noncomputable def iZ:D->Option Int|.int i=>some i|_=>none
noncomputable def yO:D->Option Bool|.bl b=>some b|_=>none
noncomputable def NQ(x y:D):Option R:=(items x).bind fun a=>(iZ y).bind fun i=>(at' a i).map .val
noncomputable def Iw(x:D):Option R:=(iZ x).map fun i=>.val (.int (-i))
noncomputable def Yd:P->Bool|.con .non=>true|_=>false
noncomputable def part(p:P)(d:D):Option (Option Int):=if Yd p then some none else(iZ d).map some
noncomputable def Mx:D->Option (Option Int)->Option (Option Int)->Option R|.lst xs,some lo,some hi=>some (.own (cut xs lo hi))|.tup xs,some lo,some hi=>some (.val (.tup (cut xs lo hi)))|_,_,_=>none
noncomputable def cB:Ty->D->Bool|.int,.int _=>true|.int,.bl _=>true|.bool,.bl _=>true|.str,.str _=>true|.tuple,.tup _=>true|.list,.lst _=>true|.none,.non=>true|_,_=>false
noncomputable def v7:D->Bool|.tup (x::xs)=>(x::xs).all gO|_=>false
noncomputable def sortable(ds:List D):Bool:=decide (ds.length<=16777216)&&(ds.all gO||ds.all v7)
noncomputable def Pu(c:List D):List D:=c.mergeSort fun a b=>!bH (cR b) (cR a)
noncomputable def yX:D->Option (List D)|.lst a=>some a|_=>none
noncomputable def jw(p:Int×Int):D:=.tup [.int p.1,.int p.2]
noncomputable def blt:YL->List D->Option R|.len,[x]=>(items x).map fun c=>.val (.int c.length)|.list,[x]=>(items x).map fun c=>.own c|.tuple,[x]=>(items x).map fun c=>.val (.tup c)|.min2,[.int i,.int j]=>some (.val (.int (if j<i then j else i)))|.max2,[.int i,.int j]=>some (.val (.int (if i<j then j else i)))|.JQ,[x]=>((items x).bind fun c=>c.mapM iZ).bind fun ns=>ns.min?.map fun i=>.val (.int i)|.sum,[x]=>((items x).bind fun c=>c.mapM iZ).map fun ns=>.val (.int ns.sum)|.all,[x]=>((yX x).bind fun c=>c.mapM yO).map fun bs=>.val (.bl (bs.all id))|.abs,[.int i]=>some (.val (.int (if i<0 then-i else i)))|.int,[.int i]=>some (.val (.int i))|.int,[.bl b]=>some (.val (.int (if b then 1 else 0)))|.Dj,[.lst c]=>if c.length<=16777216 then some (.own c)else none|.keys,[.eO (.k kvs)]=>some (.val (.tup (kvs.map fun p=>.int p.1)))|.keys,[.dv ks _]=>some (.val (.tup (ks.map D.int)))|.Xb,[.dv ks _]=>if ks.length<=16777216 then some (.own (ks.map D.int))else none|.rvT,[.lst c]=>some (.val (.tup c.reverse))|.JR,[.eO (.k kvs)]=>if kvs.length<=16777216/\kvs.Pairwise (fun a b=>a.1<b.1)then some (.own (kvs.map jw))else none|_,_=>none
noncomputable def pk(ρ:List Sl)(i:Nat):Option D:=match ρ[i]?with|some (.val _ d)=>some d|some (.own _ a)=>some (.lst a)|some (.lent a)=>some (.lst a)|_=>none
noncomputable def yH(ρ:List Sl)(i:Nat):Option (List D):=match pk ρ i with|some (.lst a)=>some a|_=>none
noncomputable abbrev Ev:=List Sl->Res R
noncomputable def isVar:P->Option Nat|.var i=>some i|_=>none
noncomputable def cC(i:Option Nat)(e:Ev)(ρ:List Sl):Res D:=match i with|some i=>lift (pk ρ i) ρ|none=>(e ρ).bind fun r ρ=>.ok r.d ρ
noncomputable def iI(i:Option Nat)(e:Ev)(j:Option Nat)(f:Ev)(ρ:List Sl):Res (D×D):=match i with|some i=>(lift (pk ρ i) ρ).bind fun _ ρ=>(cC j f ρ).bind fun y ρ=>(lift (pk ρ i) ρ).bind fun x ρ=>.ok (x,y) ρ|none=>(cC none e ρ).bind fun x ρ=>(cC j f ρ).bind fun y ρ=>.ok (x,y) ρ
noncomputable def jc(e:Ev)(ρ:List Sl):Res Bool:=(e ρ).bind fun r ρ=>lift (yO r.d) ρ
inductive Arg where|dat(d:D)|tmp(ds:List D)|fP(i:Nat)
noncomputable def xW:R->Arg|.val d=>.dat d|.own a=>.tmp a
noncomputable def bU(ρ:List Sl):List Arg->List Nat->Option (List Sl)|[],_=>some []|.dat d::r,a=>(bU ρ r a).map fun s=>.val false d::s|.tmp b::r,a=>(bU ρ r a).map fun s=>.own false b::s|.fP i::r,a=>match ρ[i]?with|some (.val _ d)=>(bU ρ r a).map fun s=>.val false d::s|some (.own _ b)=>if a.contains i then none else(bU ρ r (i::a)).map fun s=>.own true b::s|some (.lent b)=>if a.contains i then none else(bU ρ r (i::a)).map fun s=>.lent b::s|_=>none
noncomputable def bf(i:Nat):List Arg->List Sl->Option Sl|.fP k::as,s::ss=>if k=i then some s else bf i as ss|.dat _::as,_::ss=>bf i as ss|.tmp _::as,_::ss=>bf i as ss|_,_=>none
noncomputable def fB:Sl->Option Sl->Sl|.own b _,some (.own _ a)=>.own b a|.own b _,some (.val _ d)=>.val b d|s,_=>s
noncomputable def dq(as:List Arg)(ss:List Sl):Nat->List Sl->List Sl|_,[]=>[]|i,s::ρ=>fB s (bf i as ss)::dq as ss (i+1) ρ
noncomputable abbrev Call:=Nat->List Sl->Res R
noncomputable def qM(c:Call)(f:Nat)(as:List Arg)(ρ:List Sl):Res R:=match bU ρ as []with|none=>.stuck|some args=>match c f args with|.ok r a=>.ok r (dq as a 0 ρ)|.exc _ _=>.stuck|.stuck=>.stuck
noncomputable def put(ρ:List Sl)(i:Nat)(s:Sl):Option (List Sl):=match ρ[i]?with|some .aQ=>some (ρ.set i s)|some (.val false _)=>some (ρ.set i s)|some (.own false _)=>some (ρ.set i s)|_=>none
noncomputable def putAll(ρ:List Sl):List Nat->List D->Option (List Sl)|[],[]=>some ρ|i::is,d::a=>(put ρ i (.val false d)).bind fun ρ=>putAll ρ is a|_,_=>none
noncomputable def cT(ρ:List Sl)(is:List Nat)(one:Bool)(d:D):Option (List Sl):=match one,is,d with|true,[i],d=>put ρ i (.val false d)|false,is,.tup a=>putAll ρ is a|_,_,_=>none
noncomputable def srcOf(i:Option Nat)(e:Ev)(ρ:List Sl):Res (List D):=match i with
 |some i=>match ρ[i]?with|some (.val _ d)=>lift (items d) ρ|some (.own _ a)=>.ok a (ρ.set i (.lent a))|some (.lent a)=>.ok a ρ|_=>.stuck
 |none=>(e ρ).bind fun r ρ=>lift (items r.d) ρ
noncomputable def aX(a:List Sl)(i:Option Nat)(ρ:List Sl):List Sl:=match i with
 |some i=>match a[i]?with|some (.own b c)=>ρ.set i (.own b c)|_=>ρ
 |none=>ρ
noncomputable def Hk(i:Nat)(f:Ev)(ρ:List Sl):Res (List D×List Sl):=(f ρ).bind fun r a=>(lift (items r.d) a).bind fun es a=>match a[i]?with|some (.val _ d)=>(lift (items d) a).bind fun b a=>.ok ((es.zip b).map fun p=>D.tup [p.1,p.2],a) a|some (.own _ b)=>.ok ((es.zip b).map fun p=>D.tup [p.1,p.2],a) (a.set i (.lent b))|some (.lent b)=>.ok ((es.zip b).map fun p=>D.tup [p.1,p.2],a) a|_=>.stuck
noncomputable def turns(is:List Nat)(one:Bool)(a:List Sl->Res Bool)(e:Ev):List D->List D->List Sl->Res (List D)|[],c,ρ=>.ok c ρ|d::r,c,ρ=>match cT ρ is one d with|none=>.stuck|some ρ=>(a ρ).bind fun b ρ=>if b then(e ρ).bind fun x ρ=>turns is one a e r (c++[x.d]) ρ else turns is one a e r c ρ
mutual
noncomputable def ev(c:Call):P->List Sl->Res R
 |.var i,ρ=>match ρ[i]?with|some (.val _ d)=>.ok (.val d) ρ|some (.own b q)=>.ok (.val (.lst q)) (ρ.set i (.val b (.lst q)))|some (.gQ (.k kvs))=>.ok (.val (.eO (.k kvs))) (ρ.set i (.val false (.eO (.k kvs))))|some (.cF kvs)=>.ok (.val (.dv (kvs.map (·.1)) (kvs.map (·.2)))) (ρ.set i (.val false (.dv (kvs.map (·.1)) (kvs.map (·.2)))))|_=>.stuck
 |.con d,ρ=>.ok (.val d) ρ|.glob _ d,ρ=>.ok (.val d) ρ|.bin o a b,ρ=>(iI (isVar a) (ev c a) (isVar b) (ev c b) ρ).bind fun s ρ=>lift (rZ o s.1 s.2) ρ|.neg a,ρ=>(cC (isVar a) (ev c a) ρ).bind fun x ρ=>lift (Iw x) ρ|.not a,ρ=>(jc (ev c a) ρ).bind fun b ρ=>.ok (.val (.bl (!b))) ρ|.and a b,ρ=>(jc (ev c a) ρ).bind fun x ρ=>if x then(jc (ev c b) ρ).bind fun y ρ=>.ok (.val (.bl y)) ρ else .ok (.val (.bl false)) ρ|.or a b,ρ=>(jc (ev c a) ρ).bind fun x ρ=>if x then .ok (.val (.bl true)) ρ else(jc (ev c b) ρ).bind fun y ρ=>.ok (.val (.bl y)) ρ|.cmp o a b,ρ=>(iI (isVar a) (ev c a) (isVar b) (ev c b) ρ).bind fun s ρ=>lift (qD o s.1 s.2) ρ|.chain o E a b d,ρ=>(iI (isVar a) (ev c a) (isVar b) (ev c b) ρ).bind fun s ρ=>(lift (if flat s.2=true then cm o s.1 s.2 else none) ρ).bind fun k ρ=>if k then(cC (isVar d) (ev c d) ρ).bind fun z ρ=>lift (qD E s.2 z) ρ else .ok (.val (.bl false)) ρ|.Ql t a b,ρ=>(jc (ev c t) ρ).bind fun k ρ=>if k then(ev c a ρ).bind fun r ρ=>.ok (.val r.d) ρ else(ev c b ρ).bind fun r ρ=>.ok (.val r.d) ρ|.tup as,ρ=>(evs c as ρ).bind fun q ρ=>.ok (.val (.tup q)) ρ|.lst as,ρ=>(evs c as ρ).bind fun q ρ=>.ok (.own q) ρ|.idx a i,ρ=>(iI (isVar a) (ev c a) (isVar i) (ev c i) ρ).bind fun s ρ=>lift (NQ s.1 s.2) ρ|.slice a l h,ρ=>match isVar a with|some i=>(lift (pk ρ i) ρ).bind fun _ ρ=>(cC (isVar l) (ev c l) ρ).bind fun y ρ=>(cC (isVar h) (ev c h) ρ).bind fun z ρ=>(lift (pk ρ i) ρ).bind fun x ρ=>lift (Mx x (part l y) (part h z)) ρ|none=>(cC none (ev c a) ρ).bind fun x ρ=>(cC (isVar l) (ev c l) ρ).bind fun y ρ=>(cC (isVar h) (ev c h) ρ).bind fun z ρ=>lift (Mx x (part l y) (part h z)) ρ
 |.call f as,ρ=>(yt c as ρ).bind fun xs ρ=>qM c f xs ρ|.blt b [a],ρ=>(cC (isVar a) (ev c a) ρ).bind fun x ρ=>lift (blt b [x]) ρ|.blt b as,ρ=>(evs c as ρ).bind fun q ρ=>lift (blt b q) ρ|.inst G a,ρ=>(cC (isVar a) (ev c a) ρ).bind fun x ρ=>.ok (.val (.bl (G.any fun t=>cB t x))) ρ|.comp src n is one w A,ρ=>(srcOf (isVar src) (ev c src) ρ).bind fun q g=>if q.length<=lim then(turns is one (qd c w) (ev c A) q [] (g++replicate n .aQ)).bind fun xs u=>.ok (.own xs) (aX ρ (isVar src) (u.take g.length))else .stuck|.rW a b,ρ=>(iI (isVar a) (ev c a) (isVar b) (ev c b) ρ).bind fun s ρ=>lift ((iZ s.1).bind fun i=>(iZ s.2).bind fun j=>if-1000000<=i/\i<=1000000000/\j<=1000000000/\-1000000000<=j then some (.val (.lst ((List.range (j-i).toNat).map fun(k:Nat)=>D.int (i+(k:Int)))))else none) ρ|.Z6 a,ρ=>(ev c a ρ).bind fun r ρ=>lift ((items r.d).map fun q=>.val (.lst (q.mapIdx fun i d=>D.tup [.int (i:Int),d]))) ρ|.zip a b,ρ=>(ev c a ρ).bind fun x ρ=>(ev c b ρ).bind fun y ρ=>lift ((items x.d).bind fun q=>(items y.d).map fun es=>.val (.lst ((q.zip es).map fun p=>D.tup [p.1,p.2]))) ρ|.Xc x k d,ρ=>match ρ[x]?with
   |some (.gQ _)=>(cC (isVar k) (ev c k) ρ).bind fun B ρ=>(cC (isVar d) (ev c d) ρ).bind fun H ρ=>match ρ[x]?with|some (.gQ m)=>lift ((m.get B).bind fun o=>(iZ H).map fun v=>.val (.int (o.getD v))) ρ|_=>.stuck
   |_=>.stuck
 |.vw x,ρ=>match ρ[x]?with|some (.gQ m)=>.ok (.val (.eO m)) (ρ.set x (.val false (.eO m)))|some (.cF kvs)=>.ok (.val (.dv (kvs.map (·.1)) (kvs.map (·.2)))) (ρ.set x (.val false (.dv (kvs.map (·.1)) (kvs.map (·.2)))))|some (.own b q)=>.ok (.val (.lst q)) (ρ.set x (.val b (.lst q)))|some (.val _ d)=>.ok (.val d) ρ|_=>.stuck
 |.Qm x k,ρ=>match ρ[x]?with
   |some (.cF _)=>(cC (isVar k) (ev c k) ρ).bind fun B ρ=>match ρ[x]?with|some (.cF kvs)=>lift ((iZ B).bind fun k=>(lM kvs k).map .val) ρ|_=>.stuck
   |_=>.stuck
 |.Qn x k neg,ρ=>(cC (isVar k) (ev c k) ρ).bind fun B ρ=>match ρ[x]?with|some (.cF kvs)=>lift ((iZ B).map fun k=>.val (.bl (if neg then !(kvs.map (·.1)).contains k else(kvs.map (·.1)).contains k))) ρ|_=>.stuck
 |.Aa k e,ρ=>.ok (.val (.dv [k] [.int e])) ρ|.lC i a n is one w A,ρ=>(Hk i (ev c a) ρ).bind fun C g=>if C.1.length<=lim then(turns is one (qd c w) (ev c A) C.1 [] (g++replicate n .aQ)).bind fun xs u=>.ok (.own xs) (aX C.2 (some i) (u.take g.length))else .stuck
noncomputable def evs(c:Call):List P->List Sl->Res (List D)|[],ρ=>.ok [] ρ|a::r,ρ=>(ev c a ρ).bind fun x ρ=>(evs c r ρ).bind fun xs ρ=>.ok (x.d::xs) ρ
noncomputable def yt(c:Call):List P->List Sl->Res (List Arg)|[],ρ=>.ok [] ρ|a::r,ρ=>match isVar a with|some i=>(lift (pk ρ i) ρ).bind fun _ ρ=>(yt c r ρ).bind fun xs ρ=>.ok (.fP i::xs) ρ|none=>(ev c a ρ).bind fun x ρ=>(yt c r ρ).bind fun xs ρ=>.ok (xW x::xs) ρ
noncomputable def qd(c:Call):Option P->List Sl->Res Bool|none,ρ=>.ok true ρ|some t,ρ=>jc (ev c t) ρ
end
theorem E1{c i ρ}:ev c (.var i) ρ=match ρ[i]?with|some (.val _ d)=>.ok (.val d) ρ|some (.own b a)=>.ok (.val (.lst a)) (ρ.set i (.val b (.lst a)))|some (.gQ (.k kvs))=>.ok (.val (.eO (.k kvs))) (ρ.set i (.val false (.eO (.k kvs))))|some (.cF kvs)=>.ok (.val (.dv (kvs.map (·.1)) (kvs.map (·.2)))) (ρ.set i (.val false (.dv (kvs.map (·.1)) (kvs.map (·.2)))))|_=>.stuck:=(rfl)
theorem E2{c d ρ}:ev c (.con d) ρ=.ok (.val d) ρ:=(rfl)
theorem E3{c w1 d ρ}:ev c (.glob w1 d) ρ=.ok (.val d) ρ:=(rfl)
theorem E4{c o a b ρ}:ev c (.bin o a b) ρ=(iI (isVar a) (ev c a) (isVar b) (ev c b) ρ).bind fun e ρ=>lift (rZ o e.1 e.2) ρ:=(rfl)
theorem E5{c a ρ}:ev c (.neg a) ρ=(cC (isVar a) (ev c a) ρ).bind fun x ρ=>lift (Iw x) ρ:=(rfl)
theorem E6{c a ρ}:ev c (.not a) ρ=(jc (ev c a) ρ).bind fun b ρ=>.ok (.val (.bl (!b))) ρ:=(rfl)
theorem E7{c a b ρ}:ev c (.and a b) ρ=(jc (ev c a) ρ).bind fun x ρ=>if x then(jc (ev c b) ρ).bind fun y ρ=>.ok (.val (.bl y)) ρ else .ok (.val (.bl false)) ρ:=(rfl)
theorem E8{c a b ρ}:ev c (.or a b) ρ=(jc (ev c a) ρ).bind fun x ρ=>if x then .ok (.val (.bl true)) ρ else(jc (ev c b) ρ).bind fun y ρ=>.ok (.val (.bl y)) ρ:=(rfl)
theorem E9{c o a b ρ}:ev c (.cmp o a b) ρ=(iI (isVar a) (ev c a) (isVar b) (ev c b) ρ).bind fun e ρ=>lift (qD o e.1 e.2) ρ:=(rfl)
theorem E10{c o o' a b d ρ}:ev c (.chain o o' a b d) ρ=(iI (isVar a) (ev c a) (isVar b) (ev c b) ρ).bind fun e ρ=>(lift (if flat e.2=true then cm o e.1 e.2 else none) ρ).bind fun k ρ=>if k then(cC (isVar d) (ev c d) ρ).bind fun z ρ=>lift (qD o' e.2 z) ρ else .ok (.val (.bl false)) ρ:=(rfl)
theorem E11{c t a b ρ}:ev c (.Ql t a b) ρ=(jc (ev c t) ρ).bind fun k ρ=>if k then(ev c a ρ).bind fun r ρ=>.ok (.val r.d) ρ else(ev c b ρ).bind fun r ρ=>.ok (.val r.d) ρ:=(rfl)
theorem E12{c as ρ}:ev c (.tup as) ρ=(evs c as ρ).bind fun a ρ=>.ok (.val (.tup a)) ρ:=(rfl)
theorem E13{c as ρ}:ev c (.lst as) ρ=(evs c as ρ).bind fun a ρ=>.ok (.own a) ρ:=(rfl)
theorem E14{c a i ρ}:ev c (.idx a i) ρ=(iI (isVar a) (ev c a) (isVar i) (ev c i) ρ).bind fun b ρ=>lift (NQ b.1 b.2) ρ:=(rfl)
theorem E15{c a l h ρ}:ev c (.slice a l h) ρ=match isVar a with|some i=>(lift (pk ρ i) ρ).bind fun _ ρ=>(cC (isVar l) (ev c l) ρ).bind fun y ρ=>(cC (isVar h) (ev c h) ρ).bind fun z ρ=>(lift (pk ρ i) ρ).bind fun x ρ=>lift (Mx x (part l y) (part h z)) ρ|none=>(cC none (ev c a) ρ).bind fun x ρ=>(cC (isVar l) (ev c l) ρ).bind fun y ρ=>(cC (isVar h) (ev c h) ρ).bind fun z ρ=>lift (Mx x (part l y) (part h z)) ρ:=(rfl)
theorem E16{c f as ρ}:ev c (.call f as) ρ=(yt c as ρ).bind fun xs ρ=>qM c f xs ρ:=(rfl)
theorem E17{c b a ρ}:ev c (.blt b [a]) ρ=(cC (isVar a) (ev c a) ρ).bind fun x ρ=>lift (blt b [x]) ρ:=(rfl)
theorem E18{c b x y r ρ}:ev c (.blt b (x::y::r)) ρ=(evs c (x::y::r) ρ).bind fun a ρ=>lift (blt b a) ρ:=(rfl)
theorem Yo{c b ρ}:ev c (.blt b []) ρ=(evs c [] ρ).bind fun a ρ=>lift (blt b a) ρ:=(rfl)
theorem E19{c ts a ρ}:ev c (.inst ts a) ρ=(cC (isVar a) (ev c a) ρ).bind fun x ρ=>.ok (.val (.bl (ts.any fun t=>cB t x))) ρ:=(rfl)
theorem E20{c src n is one test elt ρ}:ev c (.comp src n is one test elt) ρ=(srcOf (isVar src) (ev c src) ρ).bind fun e a=>if e.length<=lim then(turns is one (qd c test) (ev c elt) e [] (a++replicate n .aQ)).bind fun xs b=>.ok (.own xs) (aX ρ (isVar src) (b.take a.length))else .stuck:=(rfl)
theorem E21{c a b ρ}:ev c (.rW a b) ρ=(iI (isVar a) (ev c a) (isVar b) (ev c b) ρ).bind fun e ρ=>lift ((iZ e.1).bind fun i=>(iZ e.2).bind fun j=>if-1000000<=i/\i<=1000000000/\j<=1000000000/\-1000000000<=j then some (.val (.lst ((List.range (j-i).toNat).map fun(k:Nat)=>D.int (i+(k:Int)))))else none) ρ:=(rfl)
theorem E22{c a ρ}:ev c (.Z6 a) ρ=(ev c a ρ).bind fun r ρ=>lift ((items r.d).map fun b=>.val (.lst (b.mapIdx fun i d=>D.tup [.int (i:Int),d]))) ρ:=(rfl)
theorem E23{c a b ρ}:ev c (.zip a b) ρ=(ev c a ρ).bind fun x ρ=>(ev c b ρ).bind fun y ρ=>lift ((items x.d).bind fun e=>(items y.d).map fun es=>.val (.lst ((e.zip es).map fun p=>D.tup [p.1,p.2]))) ρ:=(rfl)
theorem E24{c x k d ρ}:ev c (.Xc x k d) ρ=match ρ[x]?with
 |some (.gQ _)=>(cC (isVar k) (ev c k) ρ).bind fun a ρ=>(cC (isVar d) (ev c d) ρ).bind fun b ρ=>match ρ[x]?with|some (.gQ m)=>lift ((m.get a).bind fun o=>(iZ b).map fun v=>.val (.int (o.getD v))) ρ|_=>.stuck
 |_=>.stuck:=(rfl)
theorem E25{c x ρ}:ev c (.vw x) ρ=match ρ[x]?with|some (.gQ m)=>.ok (.val (.eO m)) (ρ.set x (.val false (.eO m)))|some (.cF kvs)=>.ok (.val (.dv (kvs.map (·.1)) (kvs.map (·.2)))) (ρ.set x (.val false (.dv (kvs.map (·.1)) (kvs.map (·.2)))))|some (.own b a)=>.ok (.val (.lst a)) (ρ.set x (.val b (.lst a)))|some (.val _ d)=>.ok (.val d) ρ|_=>.stuck:=(rfl)
theorem E26{c x k ρ}:ev c (.Qm x k) ρ=match ρ[x]?with
 |some (.cF _)=>(cC (isVar k) (ev c k) ρ).bind fun a ρ=>match ρ[x]?with|some (.cF kvs)=>lift ((iZ a).bind fun k=>(lM kvs k).map .val) ρ|_=>.stuck
 |_=>.stuck:=(rfl)
theorem E27{c x k neg ρ}:ev c (.Qn x k neg) ρ=(cC (isVar k) (ev c k) ρ).bind fun a ρ=>match ρ[x]?with|some (.cF kvs)=>lift ((iZ a).map fun k=>.val (.bl (if neg then !(kvs.map (·.1)).contains k else(kvs.map (·.1)).contains k))) ρ|_=>.stuck:=(rfl)
theorem E28{c k e ρ}:ev c (.Aa k e) ρ=.ok (.val (.dv [k] [.int e])) ρ:=(rfl)
theorem E29{c i a n is one test elt ρ}:ev c (.lC i a n is one test elt) ρ=(Hk i (ev c a) ρ).bind fun f b=>if f.1.length<=lim then(turns is one (qd c test) (ev c elt) f.1 [] (b++replicate n .aQ)).bind fun xs e=>.ok (.own xs) (aX f.2 (some i) (e.take b.length))else .stuck:=(rfl)
inductive S where|pass|brk|cont|bad|expr(e:P)|asg(i:Nat)(e:P)|par(i j:Nat)(a b:P)|unp(i:List Nat)(e:P)|Oa(x:Nat)(i e:P)|app(x:Nat)(e:P)|ret(e:P)|Z7|ifs(c:P)(a b:List S)|iM(src:P)(i:List Nat)(one:Bool)(body:List S)|whl(c:P)(body:List S)|aug(x:Nat)(sub:Bool)(e:P)|JS(x:Nat)(i:P)(sub:Bool)(e:P)|JT(x:Nat)(e:P)|JV(x:Nat)(t:Bool)|dput(x:Nat)(k e:P)|JW(x:Nat)(src:P)(k:Nat)(is:List Nat)(one:Bool)(elt:P)|JX(x:Nat)(i e:P)|Fv(src:P)(is:List Nat)(one:Bool)(body:List S)|dj(x:Nat)|Fw(x:Nat)|JZ(x:Nat)(k e:Int)|fX(x:Nat)(k e:P)deriving Inhabited
inductive Fl where|next|brk|cont|ret(r:R)deriving Inhabited
noncomputable def yK:R->Sl|.val d=>.val false d|.own a=>.own false a
noncomputable def iD(is:List Nat)(one:Bool)(body:List Sl->Res Fl):List D->List Sl->Res Fl|[],ρ=>.ok .next ρ|d::r,ρ=>match cT ρ is one d with|none=>.stuck|some ρ=>(body ρ).bind fun fl ρ=>match fl with|.next=>iD is one body r ρ|.cont=>iD is one body r ρ|.brk=>.ok .next ρ|.ret r=>.ok (.ret r) ρ
noncomputable def sH(a:List Sl->Res Bool)(body:List Sl->Res Fl):Nat->List Sl->Res Fl|0,_=>.stuck|n+1,ρ=>(a ρ).bind fun b ρ=>if b then(body ρ).bind fun fl ρ=>match fl with|.next=>sH a body n ρ|.cont=>sH a body n ρ|.brk=>.ok .next ρ|.ret r=>.ok (.ret r) ρ else .ok .next ρ
noncomputable def fU(is:List Nat)(one:Bool)(b:Ev):List D->List (List D)->List Sl->Res (List (List D))|[],a,ρ=>.ok a ρ|d::r,a,ρ=>match cT ρ is one d with|none=>.stuck|some ρ=>(b ρ).bind fun x ρ=>match x with|.own c=>fU is one b r (a++[c]) ρ|.val _=>.stuck
noncomputable def rowAt(a:List (List D))(k:Int):Option (List D):=(jM a.length k).bind fun r=>a[r]?
noncomputable def jN(a:List (List D))(k:Int)(f:List D->Option (List D)):Option (List (List D)):=(jM a.length k).bind fun r=>(a[r]?).bind fun row=>(f row).map fun b=>a.set r b
noncomputable def setAt(l:Int)(d:D)(row:List D):Option (List D):=(jM row.length l).map fun m=>row.set m d
noncomputable def ji(ρ:List Sl)(x:Nat):Option (List (List D)):=match ρ[x]?with|some (.hold a)=>some a|_=>none
noncomputable def uI(ρ:List Sl)(x:Nat)(k:D):Option (List D):=(ji ρ x).bind fun a=>(iZ k).bind fun k=>rowAt a k
noncomputable def DX(ρ:List Sl)(x:Nat)(o:Option (List (List D))):Res Fl:=match o with|some a=>.ok .next (ρ.set x (.hold a))|none=>.stuck
noncomputable def rowOne(x r:Nat)(b c e:List Sl->Res D)(ρ:List Sl):Res Fl:=(c ρ).bind fun k ρ=>(lift ((ji ρ x).bind fun a=>(a[r]?).bind fun row=>(iZ k).bind fun k=>(at' row k).bind iZ) ρ).bind fun u ρ=>(e ρ).bind fun l ρ=>(lift ((ji ρ x).bind fun a=>(a[r]?).bind fun row=>(iZ l).bind fun l=>(at' row l).bind iZ) ρ).bind fun v ρ=>(b ρ).bind fun j ρ=>DX ρ x ((ji ρ x).bind fun a=>(a[r]?).bind fun row=>(iZ j).bind fun j=>(setAt j (.int (u+v)) row).map fun f=>a.set r f)
noncomputable def R1(x y:Nat)(a b c:List Sl->Res D):Nat->Nat->List Sl->Res Fl|0,_,ρ=>.ok .next ρ|m+1,r,ρ=>(lift (put ρ y .aQ) ρ).bind fun ρ _=>(rowOne x r a b c ρ).bind fun _ ρ=>R1 x y a b c m (r+1) ρ
noncomputable def R6(is:List Nat)(one:Bool)(body:List Sl->Res Fl)(b:List Sl->Option (Nat×List Sl)):List D->List Sl->Option (Nat×List Sl)|[],_=>none|d::r,ρ=>match cT ρ is one d with|none=>none|some ρ=>match b ρ with|some x=>some x|none=>match body ρ with|.ok .next a=>R6 is one body b r a|.ok .cont a=>R6 is one body b r a|_=>none
noncomputable def Rz:P->P|.idx a _=>a|e=>e
noncomputable def Ot(c:Call)(e:P)(ρ:List Sl):Option (Nat×List Sl):=match Rz e with
 |.call f as=>match yt c as ρ with
   |.ok xs b=>match bU b xs []with
     |some args=>match c f args with|.exc k a=>some (k,dq xs a 0 b)|_=>none
     |none=>none
   |_=>none
 |_=>none
mutual
noncomputable def ex(c:Call)(n:Nat):S->List Sl->Res Fl
 |.pass,ρ=>.ok .next ρ|.brk,ρ=>.ok .brk ρ|.cont,ρ=>.ok .cont ρ|.bad,_=>.stuck|.expr e,ρ=>(ev c e ρ).bind fun _ ρ=>.ok .next ρ|.asg i e,ρ=>(ev c e ρ).bind fun r ρ=>(lift (put ρ i (yK r)) ρ).bind fun h _=>.ok .next h|.par i j a b,ρ=>(ev c a ρ).bind fun x ρ=>(ev c b ρ).bind fun y ρ=>(lift ((put ρ i (.val false x.d)).bind fun ρ=>put ρ j (.val false y.d)) ρ).bind fun h _=>.ok .next h|.unp is e,ρ=>(ev c e ρ).bind fun r ρ=>match r.d with|.tup g=>(lift (putAll ρ is g) ρ).bind fun h _=>.ok .next h|_=>.stuck
 |.Oa x i e,ρ=>(ev c e ρ).bind fun r ρ=>(lift (pk ρ x) ρ).bind fun _ ρ=>(cC (isVar i) (ev c i) ρ).bind fun k ρ=>match ρ[x]?,k with
   |some (.own b g),.int k=>match jM g.length k with|some j=>.ok .next (ρ.set x (.own b (g.set j r.d)))|none=>.stuck
   |_,_=>.stuck
 |.app x e,ρ=>(lift (yH ρ x) ρ).bind fun _ ρ=>(ev c e ρ).bind fun r ρ=>match ρ[x]?with|some (.own b g)=>if g.length<lim then .ok .next (ρ.set x (.own b (g++[r.d])))else .stuck|_=>.stuck
 |.ret e,ρ=>match isVar e with
   |some i=>match ρ[i]?with|some (.own false g)=>.ok (.ret (.own g)) (ρ.set i .aQ)|_=>(ev c e ρ).bind fun r ρ=>.ok (.ret r) ρ
   |none=>(ev c e ρ).bind fun r ρ=>.ok (.ret r) ρ
 |.Z7,ρ=>.ok (.ret (.val .non)) ρ|.ifs t a b,ρ=>(jc (ev c t) ρ).bind fun k ρ=>if k then iz c n a ρ else iz c n b ρ|.iM src is one body,ρ=>(srcOf (isVar src) (ev c src) ρ).bind fun g f=>(iD is one (iz c n body) g f).bind fun fl p=>.ok fl (aX ρ (isVar src) p)|.whl t body,ρ=>sH (jc (ev c t)) (iz c n body) n ρ|.aug x sub e,ρ=>(lift (pk ρ x) ρ).bind fun a ρ=>(cC (isVar e) (ev c e) ρ).bind fun b ρ=>match a,b with|.int i,.int j=>(lift (put ρ x (.val false (.int (if sub then i-j else i+j)))) ρ).bind fun h _=>.ok .next h|_,_=>.stuck
 |.JS x i sub e,ρ=>(lift (yH ρ x) ρ).bind fun _ ρ=>(cC (isVar i) (ev c i) ρ).bind fun k ρ=>(lift (yH ρ x) ρ).bind fun l ρ=>(lift ((iZ k).bind fun i=>at' l i) ρ).bind fun a ρ=>(cC (isVar e) (ev c e) ρ).bind fun b ρ=>match a,b,ρ[x]?,k with
   |.int u,.int v,some (.own w g),.int k=>match jM g.length k with|some j=>.ok .next (ρ.set x (.own w (g.set j (.int (if sub then u-v else u+v)))))|none=>.stuck
   |_,_,_,_=>.stuck
 |.JT x e,ρ=>(lift (yH ρ x) ρ).bind fun _ ρ=>(ev c e ρ).bind fun r ρ=>match ρ[x]?,r with|some (.own b g),.own es=>if g.length+es.length<=lim then .ok .next (ρ.set x (.own b (g++es)))else .stuck|_,_=>.stuck
 |.JV x t,ρ=>match ρ[x]?with|some .aQ=>.ok .next (ρ.set x (.gQ (if t then .t []else .k [])))|_=>.stuck
 |.dput x k e,ρ=>(ev c e ρ).bind fun r ρ=>match ρ[x]?with
   |some (.gQ _)=>(cC (isVar k) (ev c k) ρ).bind fun q ρ=>match ρ[x]?,r with
     |some (.gQ m),.val (.int v)=>match m.put q v with|some z=>.ok .next (ρ.set x (.gQ z))|none=>.stuck
     |_,_=>.stuck
   |_=>.stuck
 |.JW x src k is one s,ρ=>(srcOf (isVar src) (ev c src) ρ).bind fun g f=>if g.length<=lim then(fU is one (ev c s) g [] (f++replicate k .aQ)).bind fun o p=>(lift (put (aX ρ (isVar src) (p.take f.length)) x (.hold o)) ρ).bind fun h _=>.ok .next h else .stuck|.JX x i e,ρ=>(cC (isVar i) (ev c i) ρ).bind fun k ρ=>(lift (uI ρ x k) ρ).bind fun _ ρ=>(ev c e ρ).bind fun r ρ=>DX ρ x ((ji ρ x).bind fun o=>(iZ k).bind fun k=>jN o k fun row=>if row.length<lim then some (row++[r.d])else none)|.Fv src is one body,ρ=>(ev c src ρ).bind fun r f=>(lift (items r.d) f).bind fun g f=>iD is one (iz c n body) g f|.dj x,ρ=>match ρ[x]?with|some (.hold o)=>.ok .next (ρ.set x (.val false (.lst (o.map D.lst))))|_=>.stuck
 |.Fw x,ρ=>match ρ[x]?with|some .aQ=>.ok .next (ρ.set x (.cF []))|some (.cF _)=>.ok .next (ρ.set x (.cF []))|some (.val false _)=>.ok .next (ρ.set x (.cF []))|_=>.stuck
 |.JZ x k e,ρ=>match ρ[x]?with|some .aQ=>.ok .next (ρ.set x (.cF [(k,.int e)]))|some (.cF _)=>.ok .next (ρ.set x (.cF [(k,.int e)]))|some (.val false _)=>.ok .next (ρ.set x (.cF [(k,.int e)]))|_=>.stuck
 |.fX x k e,ρ=>(ev c e ρ).bind fun r ρ=>match ρ[x]?with
   |some (.cF _)=>(cC (isVar k) (ev c k) ρ).bind fun q ρ=>match ρ[x]?,q with|some (.cF kvs),.int k=>if kvs.length<lim then .ok .next (ρ.set x (.cF (fX kvs k r.d)))else .stuck|_,_=>.stuck
   |_=>.stuck
noncomputable def iz(c:Call)(n:Nat):List S->List Sl->Res Fl|[],ρ=>.ok .next ρ|s::r,ρ=>(ex c n s ρ).bind fun fl ρ=>match fl with|.next=>iz c n r ρ|fl=>.ok fl ρ
noncomputable def exX(c:Call)(n:Nat):S->List Sl->Option (Nat×List Sl)
 |.ifs t a b,ρ=>match jc (ev c t) ρ with|.ok x f=>if x then Jb c n a f else Jb c n b f|_=>none
 |.iM src is one body,ρ=>match srcOf (isVar src) (ev c src) ρ with|.ok g f=>(R6 is one (iz c n body) (Jb c n body) g f).map fun x=>(x.1,aX ρ (isVar src) x.2)|_=>none
 |.asg _ e,ρ=>Ot c e ρ|.expr e,ρ=>Ot c e ρ|_,_=>none
noncomputable def Jb(c:Call)(n:Nat):List S->List Sl->Option (Nat×List Sl)|[],_=>none|s::r,ρ=>match exX c n s ρ with|some x=>some x|none=>match ex c n s ρ with|.ok .next a=>Jb c n r a|_=>none
end
theorem X1{c n ρ}:ex c n (.pass) ρ=.ok .next ρ:=(rfl)
theorem X2{c n ρ}:ex c n (.brk) ρ=.ok .brk ρ:=(rfl)
theorem X3{c n ρ}:ex c n (.cont) ρ=.ok .cont ρ:=(rfl)
theorem X4{c n ρ}:ex c n (.bad) ρ=.stuck:=(rfl)
theorem X5{c n e ρ}:ex c n (.expr e) ρ=(ev c e ρ).bind fun _ ρ=>.ok .next ρ:=(rfl)
theorem X6{c n i e ρ}:ex c n (.asg i e) ρ=(ev c e ρ).bind fun r ρ=>(lift (put ρ i (yK r)) ρ).bind fun a _=>.ok .next a:=(rfl)
theorem X7{c n i j a b ρ}:ex c n (.par i j a b) ρ=(ev c a ρ).bind fun x ρ=>(ev c b ρ).bind fun y ρ=>(lift ((put ρ i (.val false x.d)).bind fun ρ=>put ρ j (.val false y.d)) ρ).bind fun e _=>.ok .next e:=(rfl)
theorem X8{c n is e ρ}:ex c n (.unp is e) ρ=(ev c e ρ).bind fun r ρ=>match r.d with|.tup b=>(lift (putAll ρ is b) ρ).bind fun a _=>.ok .next a|_=>.stuck:=(rfl)
theorem X9{c n x i e ρ}:ex c n (.Oa x i e) ρ=(ev c e ρ).bind fun r ρ=>(lift (pk ρ x) ρ).bind fun _ ρ=>(cC (isVar i) (ev c i) ρ).bind fun k ρ=>match ρ[x]?,k with
 |some (.own b a),.int k=>match jM a.length k with|some j=>.ok .next (ρ.set x (.own b (a.set j r.d)))|none=>.stuck
 |_,_=>.stuck:=(rfl)
theorem X10{c n x e ρ}:ex c n (.app x e) ρ=(lift (yH ρ x) ρ).bind fun _ ρ=>(ev c e ρ).bind fun r ρ=>match ρ[x]?with|some (.own b a)=>if a.length<lim then .ok .next (ρ.set x (.own b (a++[r.d])))else .stuck|_=>.stuck:=(rfl)
theorem X11{c n e ρ}:ex c n (.ret e) ρ=match isVar e with
 |some i=>match ρ[i]?with|some (.own false a)=>.ok (.ret (.own a)) (ρ.set i .aQ)|_=>(ev c e ρ).bind fun r ρ=>.ok (.ret r) ρ
 |none=>(ev c e ρ).bind fun r ρ=>.ok (.ret r) ρ:=(rfl)
theorem X12{c n ρ}:ex c n (.Z7) ρ=.ok (.ret (.val .non)) ρ:=(rfl)
theorem X13{c n t a b ρ}:ex c n (.ifs t a b) ρ=(jc (ev c t) ρ).bind fun k ρ=>if k then iz c n a ρ else iz c n b ρ:=(rfl)
theorem X14{c n src is one body ρ}:ex c n (.iM src is one body) ρ=(srcOf (isVar src) (ev c src) ρ).bind fun e a=>(iD is one (iz c n body) e a).bind fun fl b=>.ok fl (aX ρ (isVar src) b):=(rfl)
theorem X15{c n t body ρ}:ex c n (.whl t body) ρ=sH (jc (ev c t)) (iz c n body) n ρ:=(rfl)
theorem X16{c n x sub e ρ}:ex c n (.aug x sub e) ρ=(lift (pk ρ x) ρ).bind fun a ρ=>(cC (isVar e) (ev c e) ρ).bind fun b ρ=>match a,b with|.int i,.int j=>(lift (put ρ x (.val false (.int (if sub then i-j else i+j)))) ρ).bind fun f _=>.ok .next f|_,_=>.stuck:=(rfl)
theorem X17{c n x i sub e ρ}:ex c n (.JS x i sub e) ρ=(lift (yH ρ x) ρ).bind fun _ ρ=>(cC (isVar i) (ev c i) ρ).bind fun k ρ=>(lift (yH ρ x) ρ).bind fun l ρ=>(lift ((iZ k).bind fun i=>at' l i) ρ).bind fun a ρ=>(cC (isVar e) (ev c e) ρ).bind fun b ρ=>match a,b,ρ[x]?,k with
 |.int u,.int v,some (.own g f),.int k=>match jM f.length k with|some j=>.ok .next (ρ.set x (.own g (f.set j (.int (if sub then u-v else u+v)))))|none=>.stuck
 |_,_,_,_=>.stuck:=(rfl)
theorem X18{c n x e ρ}:ex c n (.JT x e) ρ=(lift (yH ρ x) ρ).bind fun _ ρ=>(ev c e ρ).bind fun r ρ=>match ρ[x]?,r with|some (.own b a),.own es=>if a.length+es.length<=lim then .ok .next (ρ.set x (.own b (a++es)))else .stuck|_,_=>.stuck:=(rfl)
theorem X19{c n x t ρ}:ex c n (.JV x t) ρ=match ρ[x]?with|some .aQ=>.ok .next (ρ.set x (.gQ (if t then .t []else .k [])))|_=>.stuck:=(rfl)
theorem X20{c n x k e ρ}:ex c n (.dput x k e) ρ=(ev c e ρ).bind fun r ρ=>match ρ[x]?with
 |some (.gQ _)=>(cC (isVar k) (ev c k) ρ).bind fun a ρ=>match ρ[x]?,r with
   |some (.gQ m),.val (.int v)=>match m.put a v with|some b=>.ok .next (ρ.set x (.gQ b))|none=>.stuck
   |_,_=>.stuck
 |_=>.stuck:=(rfl)
theorem X21{c n x src k is one elt ρ}:ex c n (.JW x src k is one elt) ρ=(srcOf (isVar src) (ev c src) ρ).bind fun g a=>if g.length<=lim then(fU is one (ev c elt) g [] (a++replicate k .aQ)).bind fun e b=>(lift (put (aX ρ (isVar src) (b.take a.length)) x (.hold e)) ρ).bind fun f _=>.ok .next f else .stuck:=(rfl)
theorem X22{c n x i e ρ}:ex c n (.JX x i e) ρ=(cC (isVar i) (ev c i) ρ).bind fun k ρ=>(lift (uI ρ x k) ρ).bind fun _ ρ=>(ev c e ρ).bind fun r ρ=>DX ρ x ((ji ρ x).bind fun a=>(iZ k).bind fun k=>jN a k fun row=>if row.length<lim then some (row++[r.d])else none):=(rfl)
theorem X23{c n src is one body ρ}:ex c n (.Fv src is one body) ρ=(ev c src ρ).bind fun r a=>(lift (items r.d) a).bind fun b a=>iD is one (iz c n body) b a:=(rfl)
theorem X24{c n x ρ}:ex c n (.dj x) ρ=match ρ[x]?with|some (.hold a)=>.ok .next (ρ.set x (.val false (.lst (a.map D.lst))))|_=>.stuck:=(rfl)
theorem X25{c n x ρ}:ex c n (.Fw x) ρ=match ρ[x]?with|some .aQ=>.ok .next (ρ.set x (.cF []))|some (.cF _)=>.ok .next (ρ.set x (.cF []))|some (.val false _)=>.ok .next (ρ.set x (.cF []))|_=>.stuck:=(rfl)
theorem X26{c n x k e ρ}:ex c n (.JZ x k e) ρ=match ρ[x]?with|some .aQ=>.ok .next (ρ.set x (.cF [(k,.int e)]))|some (.cF _)=>.ok .next (ρ.set x (.cF [(k,.int e)]))|some (.val false _)=>.ok .next (ρ.set x (.cF [(k,.int e)]))|_=>.stuck:=(rfl)
theorem X27{c n x k e ρ}:ex c n (.fX x k e) ρ=(ev c e ρ).bind fun r ρ=>match ρ[x]?with
 |some (.cF _)=>(cC (isVar k) (ev c k) ρ).bind fun a ρ=>match ρ[x]?,a with|some (.cF kvs),.int k=>if kvs.length<lim then .ok .next (ρ.set x (.cF (fX kvs k r.d)))else .stuck|_,_=>.stuck
 |_=>.stuck:=(rfl)
structure Fd where
 np:Nat
 nn:Nat
 body:List S deriving Inhabited
noncomputable abbrev Tab:=Nat->Option Fd
noncomputable def enter(c:Call)(n:Nat)(d:Fd)(args:List Sl):Res R:=if args.length=d.np/\d.np<=d.nn then match iz c n d.body (args++replicate (d.nn-d.np) .aQ)with|.ok .next ρ=>.ok (.val .non) (ρ.take d.np)|.ok (.ret r) ρ=>.ok r (ρ.take d.np)|_=>match Jb c n d.body (args++replicate (d.nn-d.np) .aQ)with|some (k,ρ)=>.exc k (ρ.take d.np)|none=>.stuck else .stuck
noncomputable def run(Γ:Tab)(w:Nat):Nat->Call|0,_,_=>.stuck|n+1,f,args=>match Γ f with|some d=>enter (run Γ w n) w d args|none=>.stuck
end HH
end
section
namespace HH
open PySem L2
variable{ρ:List Sl}{σ:St}{v:V}
noncomputable def Dc.ho:Dc->HO|.k kvs=>.dK (kvs.map fun p=>(Sum.inl p.1,V.int p.2))|.t kvs=>.dT (kvs.map fun p=>(p.1.map Sum.inl,V.int p.2))
noncomputable def BV(ks:List Int)(vs:List V):HO:=.dK ((ks.zip vs).map fun p=>(Sum.inl p.1,p.2))
section
variable(K:PySem.W.Frag)
mutual
def Rep(F:Hp):V->D->Prop|v,.non=>v=.non|v,.bl b=>v=.bl b|v,.int i=>v=.int i|v,.str x=>v=.str x|v,.tup c=>∃a xs,v=.ref a/\iQ K F a xs/\aG F xs c|v,.lst c=>∃a xs,v=.ref a/\eV K F a xs/\aG F xs c|v,.eO m=>∃a o,v=.ref a/\F a=some (.dj o m.ho)|v,.dv ks c=>∃a o vs,v=.ref a/\F a=some (.dj o (BV ks vs))/\aG F vs c/\ks.length=c.length
def aG(F:Hp):List V->List D->Prop|vs,[]=>vs=[]|vs,d::a=>∃v r,vs=v::r/\Rep F v d/\aG F r a
end
end
section
variable{K:PySem.W.Frag}{F F' H H':Hp}
theorem aF.gB{a:Addr}{xs:List V}(e:aF H H')(h:iQ K H a xs):iQ K H' a xs:=by
 rcases h with(h|⟨o,h⟩)|h;.exact .inl (.inl (e _ _ h))
 .exact .inl (.inr ⟨o,e _ _ h⟩)
 .exact .inr h
mutual
theorem Rep.mono(e:aF F F'):∀{d:D}{v:V},Rep K F v d->Rep K F' v d|.non,_,h=>by rw[Rep]at h ⊢;exact h|.bl _,_,h=>by rw[Rep]at h ⊢;exact h|.int _,_,h=>by rw[Rep]at h ⊢;exact h|.str _,_,h=>by rw[Rep]at h ⊢;exact h|.tup b,_,h=>by rw[Rep]at h ⊢;obtain⟨a,xs,rfl,hs,r⟩:=h;exact⟨a,xs,rfl,aF.gB e hs,aG.mono e r⟩|.lst b,_,h=>by rw[Rep]at h ⊢;obtain⟨a,xs,rfl,hs,r⟩:=h;exact⟨a,xs,rfl,e.seq hs,aG.mono e r⟩|.eO m,_,h=>by rw[Rep]at h ⊢;obtain⟨a,o,rfl,hs⟩:=h;exact⟨a,o,rfl,e _ _ hs⟩|.dv ks b,_,h=>by rw[Rep]at h ⊢;obtain⟨a,o,vs,rfl,hs,r,c⟩:=h;exact⟨a,o,vs,rfl,e _ _ hs,aG.mono e r,c⟩theorem aG.mono(e:aF F F'):∀{a:List D}{vs:List V},aG K F vs a->aG K F' vs a|[],_,h=>by rw[aG]at h ⊢;exact h|d::a,_,h=>by rw[aG]at h ⊢;obtain⟨v,r,rfl,h1,b⟩:=h;exact⟨v,r,rfl,Rep.mono e h1,aG.mono e b⟩end
theorem aG.nil:aG K F [] []:=by rw[aG]
theorem aG.cons{v:V}{d:D}{vs:List V}{a:List D}(h:Rep K F v d)(t:aG K F vs a):aG K F (v::vs) (d::a):=by rw[aG];exact⟨v,vs,rfl,h,t⟩
theorem aG.cA{vs:List V}{d:D}{a:List D}(h:aG K F vs (d::a)):∃v r,vs=v::r/\Rep K F v d/\aG K F r a:=by rw[aG]at h;exact h
theorem aG.fW{vs:List V}(h:aG K F vs []):vs=[]:=by rw[aG]at h;exact h
theorem aG.length:∀{a:List D}{vs:List V},aG K F vs a->vs.length=a.length|[],_,h=>by rw[h.fW];rfl|d::a,_,h=>by obtain⟨v,r,rfl,_,t⟩:=h.cA;simp[aG.length t]
theorem aG.get:∀{a:List D}{vs:List V}{i:Nat}{d:D},aG K F vs a->a[i]?=some d->∃v,vs[i]?=some v/\Rep K F v d|[],_,_,_,h,e=>by simp at e|d::a,_,0,_,h,e=>by obtain⟨v,r,rfl,h1,t⟩:=h.cA;simp at e;subst e;exact⟨v,rfl,h1⟩|d::a,_,i+1,_,h,e=>by obtain⟨v,r,rfl,_,t⟩:=h.cA;simp at e;obtain⟨w,b,c⟩:=t.get e;exact⟨w,by simpa using b,c⟩
theorem aG.append:∀{a es:List D}{vs b:List V},aG K F vs a->aG K F b es->aG K F (vs++b) (a++es)|[],_,_,_,h,h'=>by rw[h.fW];exact h'|d::a,_,_,_,h,h'=>by obtain⟨v,r,rfl,h1,t⟩:=h.cA;exact .cons h1 (t.append h')
theorem aG.set{v:V}{d:D}(hr:Rep K F v d):∀{a:List D}{vs:List V}(i:Nat),aG K F vs a->aG K F (vs.set i v) (a.set i d)|[],_,_,h=>by rw[h.fW];exact .nil|_::_,_,0,h=>by obtain⟨w,r,rfl,h1,t⟩:=h.cA;exact .cons hr t|_::_,_,i+1,h=>by obtain⟨w,r,rfl,h1,t⟩:=h.cA;exact .cons h1 (aG.set hr i t)
theorem aG.take:∀{a:List D}{vs:List V}(n:Nat),aG K F vs a->aG K F (vs.take n) (a.take n)|[],_,n,h=>by rw[h.fW];simpa using aG.nil|_::_,_,0,h=>.nil|_::_,_,n+1,h=>by obtain⟨w,r,rfl,h1,t⟩:=h.cA;exact .cons h1 (t.take n)
theorem aG.drop:∀{a:List D}{vs:List V}(n:Nat),aG K F vs a->aG K F (vs.drop n) (a.drop n)|[],_,n,h=>by rw[h.fW];simpa using aG.nil|_::_,_,0,h=>h|_::_,_,n+1,h=>by obtain⟨w,r,rfl,h1,t⟩:=h.cA;exact t.drop n
theorem aG.rep{a:List D}{vs:List V}(h:aG K F vs a):∀n,aG K F (replicate n vs).flatten (replicate n a).flatten|0=>by simpa using aG.nil|n+1=>by simpa[replicate_succ]using h.append (aG.rep h n)
inductive Oc where|l(ds:List D)|d(m:Dc)|v(kvs:List (Int×D))
noncomputable def lst?:Sl->Option Oc|.own _ a=>some (.l a)|.lent a=>some (.l a)|.gQ m=>some (.d m)|.cF kvs=>some (.v kvs)|_=>none
def lq(K:PySem.W.Frag)(F:Hp)(o:HO):Oc->Prop|.l a=>∃xs,o=.lst xs/\aG K F xs a|.d m=>o=m.ho|.v kvs=>∃vs,o=BV (kvs.map (·.1)) vs/\aG K F vs (kvs.map (·.2))
theorem lq.mono{o:HO}{x:Oc}(e:aF F F')(h:lq K F o x):lq K F' o x:=by cases x with|l b=>obtain⟨xs,a,h⟩:=h;exact⟨xs,a,h.mono e⟩|d m=>exact h|v kvs=>obtain⟨xs,a,h⟩:=h;exact⟨xs,a,h.mono e⟩
def aZ(ρ:List Sl)(σ:St)(i:Nat)(a:Addr):Prop:=(∃s b,ρ[i]?=some s/\lst? s=some b)/\σ[i]?=some (some (V.ref a))
def Own(ρ:List Sl)(σ:St)(a:Addr):Prop:=∃i,aZ ρ σ i a
structure GS(K:PySem.W.Frag)(F:Hp)(ρ:List Sl)(σ:St)(H:Hp):Prop where
 sub:aF F H
 len:ρ.length=σ.length
 val:∀(i:Nat)(b:Bool)(d:D),ρ[i]?=some (Sl.val b d)->∃v:V,σ[i]?=some (some v)/\Rep K F v d
 own:∀(i:Nat)(s:Sl)(ds:Oc),ρ[i]?=some s->lst? s=some ds->∃(a:Addr)(xs:HO),σ[i]?=some (some (V.ref a))/\H a=some xs/\F a=none/\lq K F xs ds
 dis:∀(i j:Nat)(a:Addr),aZ ρ σ i a->aZ ρ σ j a->i=j
theorem GS.lG(g:GS K F ρ σ H)(i:Nat)(s:Sl)(b:List D)(e:ρ[i]?=some s)(c:lst? s=some (.l b)):∃(a:Addr)(xs:List V),σ[i]?=some (some (V.ref a))/\H a=some (.lst xs)/\F a=none/\aG K F xs b:=by obtain⟨a,o,h1,f,h,xs,rfl,j⟩:=g.own i s (.l b) e c;exact⟨a,xs,h1,f,h,j⟩
noncomputable def tY:Sl->Bool|.val b _=>b|.own b _=>b|.lent _=>true|.aQ=>false|.gQ _=>false|.cF _=>false|.hold _=>true
def mF:Sl->Sl->Prop|.val true d,s=>s=.val true d|.own true _,s=>(∃a,s=.own true a)\/∃d,s=.val true d|.lent a,s=>s=.lent a|.hold a,s=>s=.hold a|_,_=>True
theorem mF.refl(s:Sl):mF s s:=by unfold mF;split<;>first|rfl|exact .inl ⟨_,rfl⟩|trivial
theorem mF.tY{s a:Sl}(h:mF s a)(l:tY s=true):HH.tY a=true:=by cases s with
 |aQ=>cases l|gQ _=>cases l|cF _=>cases l|val b d=>cases b with|true=>cases h;rfl|false=>cases l
 |own b d=>cases b with|true=>rcases h with⟨_,rfl⟩|⟨_,rfl⟩<;>rfl|false=>cases l
 |lent d=>cases h;rfl|hold d=>cases h;rfl
theorem mF.trans{s c a:Sl}(l:HH.tY s=true)(h:mF s c)(h':mF c a):mF s a:=by cases s with
 |aQ=>cases l|gQ _=>cases l|cF _=>cases l|val b d=>cases b with|true=>cases h;exact h'|false=>cases l
 |own b d=>cases b with
   | true => rcases h with⟨_,rfl⟩|⟨d,rfl⟩;.exact h'
             .exact .inr ⟨d,h'⟩|false=>cases l
 |lent d=>cases h;exact h'|hold d=>cases h;exact h'
noncomputable def nt:Option HO->Option HO|some (.tup _)=>none|o=>o
theorem kE{o:Option HO}(h:o=none):nt o=none:=by rw[h];rfl
theorem Hn{H:Hp}{b:Addr}{xs:List V}(h:H b=some (.lst xs))(z:nt (H b)=none):False:=by rw[h]at z;cases z
theorem Gs{o:HO}{x:Oc}(h:lq K F o x)(z:nt (some o)=none):False:=by cases x with|l a=>obtain⟨xs,rfl,_⟩:=h;cases z|d m=>cases m<;>(cases(show o=_ from h);cases z)|v kvs=>obtain⟨xs,rfl,_⟩:=h;cases z
structure aC(K:PySem.W.Frag)(F:Hp)(ρ:List Sl)(σ:St)(H:Hp)(F':Hp)(ρ':List Sl)(σ':St)(H':Hp):Prop where
 gs:GS K F' ρ' σ' H'
 bN:aF F F'
 yh:∀b,F b=none->F' b≠none->Own ρ σ b\/nt (H b)=none
 keep:∀b o,H b=some o->¬ Own ρ σ b->H' b=some o
 vW:∀b,Own ρ' σ' b->Own ρ σ b\/H b=none
 len:ρ'.length=ρ.length
 lk:∀(i:Nat)(s:Sl),ρ[i]?=some s->tY s=true->σ'[i]?=σ[i]?/\∃s',ρ'[i]?=some s'/\mF s s'
theorem aC.refl{ρ:List Sl}{σ:St}(g:GS K F ρ σ H):aC K F ρ σ H F ρ σ H:=⟨g,aF.refl _,fun b h h'=>absurd h h',fun _ _ h _=>h,fun _ h=>.inl h,rfl,fun i s h _=>⟨rfl,s,h,.refl s⟩⟩
theorem aC.trans{F1 p m r:Hp}{ρ f j:List Sl}{σ g k:St}(a:aC K F ρ σ H F1 f g m)(b:aC K F1 f g m p j k r):aC K F ρ σ H p j k r:=by
 have back:∀c,Own f g c\/m c=none->Own ρ σ c\/H c=none:=fun c h=>by
  rcases h with h|h;.exact a.vW c h
  . by_cases ho:Own ρ σ c;.exact .inl ho
    .right;cases e:H c with|none=>rfl|some o=>rw[a.keep c o e ho]at h;cases h
 refine⟨b.gs,a.bN.trans b.bN,fun c h h'=>?_,fun c o h n=>?_,fun c h=>back c (b.vW c h),b.len.trans a.len,fun i s h l=>?_⟩
 . by_cases e:F1 c=none
   . by_cases ho:Own ρ σ c;.exact .inl ho
     . rcases b.yh c e h' with z|z;.exact(back c (.inl z)).imp id kE
       .right;cases q:H c with|none=>rfl|some o=>rw[a.keep c o q ho]at z;exact z
   .exact a.yh c h e
 . refine b.keep c o (a.keep c o h n) fun h'=>?_;rcases a.vW c h' with h'|h';.exact n h'
   .rw[h]at h';cases h'
 .obtain⟨u,s1,h1,t⟩:=a.lk i s h l;obtain⟨w,s2,x,y⟩:=b.lk i s1 h1 (t.tY l);exact⟨w.trans u,s2,x,.trans l t y⟩
def dC(K:PySem.W.Frag)(F H:Hp)(v:V)(d:D):Prop:=Rep K F v d\/∃a xs b,v=.ref a/\H a=some (.lst xs)/\aG K F xs b/\d=.lst b
def cM(K:PySem.W.Frag)(F':Hp)(b:List Sl)(c:St)(H':Hp)(ρ:List Sl)(σ:St)(H:Hp)(v:V):R->Prop|.val d=>Rep K F' v d|.own e=>∃a xs,v=.ref a/\H' a=some (.lst xs)/\F' a=none/\aG K F' xs e/\¬ Own b c a/\(Own ρ σ a\/H a=none)
theorem aF.cg{F:Hp}{a:Addr}{o:HO}(h:F a=none):aF F (upd F a o):=fun b u e=>by
 have:b≠a:=by rintro rfl;rw[h]at e;cases e
 rw[aD this];exact e
theorem aC.dj{c:List Sl}{f:St}{r:R}(s:aC K F ρ σ H F' c f H')(h:cM K F' c f H' ρ σ H v r):∃g,aC K F ρ σ H g c f H'/\aF F' g/\Rep K g v r.d:=by cases r with|val d=>exact⟨F',s,.refl _,h⟩|own t=>
   obtain⟨a,xs,rfl,h1,u,w,x,y⟩:=h;have sm:aF F' (upd F' a (.lst xs)):=aF.cg u;refine⟨upd F' a (.lst xs),⟨⟨fun b o e=>?_,s.gs.len,fun i b d e=>?_,fun i sl k e p=>?_,s.gs.dis⟩,s.bN.trans sm,fun b n q=>?_,s.keep,s.vW,s.len,s.lk⟩,sm,?_⟩
   . by_cases j:b=a;.subst j;rw[aO]at e;cases e;exact h1
     .rw[aD j]at e;exact s.gs.sub b o e
   .obtain⟨v,l,m⟩:=s.gs.val i b d e;exact⟨v,l,m.mono sm⟩
   . obtain⟨b,ys,l,m,z,A⟩:=s.gs.own i sl k e p;have j:b≠a:=by rintro rfl;exact x ⟨i,⟨sl,k,e,p⟩,l⟩
     exact⟨b,ys,l,m,by rw[aD j];exact z,A.mono sm⟩
   . by_cases j:b=a;.subst j;exact y.imp id kE
     .rw[aD j]at q;exact s.yh b n q
   .show Rep K _ _ (.lst t);rw[Rep];exact⟨a,xs,rfl,eV.of aO,w.mono sm⟩
theorem dC.mono{v:V}(e:aF F F')(k:∀a xs,v=.ref a->H a=some (.lst xs)->H' a=some (.lst xs)){d:D}(h:dC K F H v d):dC K F' H' v d:=by
 rcases h with h|⟨a,xs,b,h1,c,f,g⟩;.exact .inl (h.mono e)
 .exact .inr ⟨a,xs,b,h1,k a xs h1 c,f.mono e,g⟩
theorem GS.pk{ρ:List Sl}{σ:St}{i:Nat}{d:D}(g:GS K F ρ σ H)(e:HH.pk ρ i=some d):∃v:V,σ[i]?=some (some v)/\dC K F H v d:=by
 unfold HH.pk at e;split at e;.rename_i b d' h;cases e;obtain⟨v,h1,c⟩:=g.val i b d h;exact⟨v,h1,.inl c⟩
 .rename_i b f h;cases e;obtain⟨a,xs,h1,c,k,j⟩:=g.lG i _ f h rfl;exact⟨.ref a,h1,.inr ⟨a,xs,f,rfl,c,j,rfl⟩⟩
 .rename_i f h;cases e;obtain⟨a,xs,h1,c,k,j⟩:=g.lG i _ f h rfl;exact⟨.ref a,h1,.inr ⟨a,xs,f,rfl,c,j,rfl⟩⟩
 .cases e
structure Ext(F H F' H':Hp):Prop where
 hs:aF H H'
 fs:aF F F'
 sub:aF F' H'
 gr:∀b,F b=none->F' b≠none->nt (H b)=none
theorem Ext.refl(h:aF F H):Ext F H F H:=⟨.refl _,.refl _,h,fun _ a b=>absurd a b⟩
theorem Ext.stp(g:GS K F ρ σ H)(e:Ext F H F' H'):aC K F ρ σ H F' ρ σ H':=by
 refine⟨⟨e.sub,g.len,fun i b d h=>?_,fun i s j h h'=>?_,g.dis⟩,e.fs,fun b n k=>.inr (e.gr b n k),fun b o h _=>e.hs b o h,fun _ h=>.inl h,rfl,fun i s h _=>⟨rfl,s,h,.refl s⟩⟩;.obtain⟨v,h1,c⟩:=g.val i b d h;exact⟨v,h1,c.mono e.fs⟩
 .obtain⟨a,xs,h1,c,l,f⟩:=g.own i s j h h';refine⟨a,xs,h1,e.hs _ _ c,?_,f.mono e.fs⟩;cases q:F' a with|none=>rfl|some o=>have:=e.gr a l (by rw[q];simp);rw[c]at this;exact(Gs f this).elim
def cj(K:PySem.W.Frag)(F' H' H:Hp)(v:V):R->Prop|.val d=>Rep K F' v d|.own b=>∃a xs,v=.ref a/\H' a=some (.lst xs)/\F' a=none/\aG K F' xs b/\H a=none
theorem cj.nj{r:R}(g:GS K F ρ σ H)(h:cj K F' H' H v r):cM K F' ρ σ H' ρ σ H v r:=by cases r with|val d=>exact h|own p=>obtain⟨a,xs,rfl,h1,l,m,f⟩:=h;refine⟨a,xs,rfl,h1,l,m,?_,.inr f⟩;rintro⟨i,⟨s,c,e,n⟩,o⟩;obtain⟨b,ys,j,k,_⟩:=g.own i s c e n;rw[o]at j;cases j;rw[f]at k;cases k
theorem cM.later{F1 j k l:Hp}{c f:List Sl}{g i:St}{r:R}(a:aC K F ρ σ H F1 c g j)(h:cM K k f i l c g j v r):cM K k f i l ρ σ H v r:=by cases r with|val d=>exact h|own q=>
   obtain⟨b,xs,rfl,h1,m,n,p,h5⟩:=h;refine⟨b,xs,rfl,h1,m,n,p,?_⟩;rcases h5 with h5|h5;.exact a.vW b h5
   . by_cases ho:Own ρ σ b;.exact .inl ho
     .right;cases e:H b with|none=>rfl|some o=>rw[a.keep b o e ho]at h5;cases h5
end
end HH
end
section
namespace HH
open PySem L2 PySem.Spec PyProof.Rows
variable{ρ' ρ ρ₀:List Sl}{es:List Expr}{K:PySem.W.Frag}{F H H₀:Hp}{σ:L2.St}{i n:Nat}{ds:List D}{x:Str}{v:V}{vs:List V}{op:CmpOp}{p':Pos}{as:List Arg}
theorem aj{c e:Type}{x:Res c}{f:c->List Sl->Res e}{b:e}(h:x.bind f=.ok b ρ'):∃a ρ,x=.ok a ρ/\f a ρ=.ok b ρ':=by cases x with|ok a ρ=>exact⟨a,ρ,rfl,h⟩|exc _ _=>cases h|stuck=>cases h
theorem aB{c:Type}{o:Option c}{a:c}(h:lift o ρ=.ok a ρ'):o=some a/\ρ=ρ':=by cases o with|none=>cases h|some b=>cases h;exact⟨rfl,rfl⟩
theorem map_some{c e:Type}{o:Option c}{f:c->e}{b:e}(h:o.map f=some b):∃a,o=some a/\f a=b:=by cases o with|none=>cases h|some a=>cases h;exact⟨a,rfl,rfl⟩
theorem bV{c e:Type}{o:Option c}{f:c->Option e}{b:e}(h:o.bind f=some b):∃a,o=some a/\f a=some b:=by cases o with|none=>cases h|some a=>exact⟨a,rfl,h⟩
theorem bz{e:Type}{c:Prop}[Decidable c]{a b:e}(h:(if c then some a else none)=some b):c/\a=b:=by
 split at h;.rename_i hc;cases h;exact⟨hc,rfl⟩
 .cases h
section
variable{X:Cx}{c:Call}{e a b:Expr}{p pa pb:P}{pos:Pos}
theorem di{t t':TE}(h:PE X e t)(i:∀σ H Q,t' σ H Q->t σ H Q):PE X e t':=fun f s σ H Q I q=>h f s σ H Q I (i σ H Q q)
theorem wA{t t':TT}(h:PT X e t)(i:∀σ H Q,t' σ H Q->t σ H Q):PT X e t':=fun f s σ H Q I q=>h f s σ H Q I (i σ H Q q)
theorem Pr{t t':TT}(h:PW X e t)(i:∀σ H Q,t' σ H Q->t σ H Q):PW X e t':=fun wh f s σ H Q I q=>h wh f s σ H Q I (i σ H Q q)
theorem qF{t t':TA}(h:PA X es t)(i:∀σ H Q,t' σ H Q->t σ H Q):PA X es t':=fun pos f s σ H Q I q=>h pos f s σ H Q I (i σ H Q q)
inductive sr(K:PySem.W.Frag)(f:Ev)(σ:L2.St)(H:Hp)(Q:VK):Prop where|mk(F:Hp)(ρ:List Sl)(r:R)(ρ':List Sl)(g:GS K F ρ σ H)(e:f ρ=.ok r ρ')(k:∀v F' H',aC K F ρ σ H F' ρ' σ H'->cM K F' ρ' σ H' ρ σ H v r->Q v H')
inductive Ed(K:PySem.W.Frag)(f:List Sl->Res Bool)(σ:L2.St)(H:Hp)(Q:Bool->Hp->Prop):Prop where|mk(F:Hp)(ρ:List Sl)(b:Bool)(ρ':List Sl)(g:GS K F ρ σ H)(e:f ρ=.ok b ρ')(k:∀F' H',aC K F ρ σ H F' ρ' σ H'->Q b H')
inductive aeK(K:PySem.W.Frag)(f:List Sl->Res (List D))(σ:L2.St)(H:Hp)(Q:List V->Hp->Prop):Prop where|mk(F:Hp)(ρ:List Sl)(ds:List D)(ρ':List Sl)(g:GS K F ρ σ H)(e:f ρ=.ok ds ρ')(k:∀vs F' H',aC K F ρ σ H F' ρ' σ H'->aG K F' vs ds->Q vs H')
structure SX(X:Cx)(c:Call)(e:Expr)(p:P):Prop where ev:PE X e (sr X.K (HH.ev c p))var:∀i,isVar p=some i->PE X e (Rf i)
def SA(X:Cx)(c:Call)(es:List Expr)(ps:List P):Prop:=PA X es (aeK X.K (evs c ps))/\ps.length=es.length
theorem SX.cC(h:SX X c e p):∃t,PE X e t/\∀{σ:L2.St}{H F:Hp}{ρ ρ':List Sl}{d:D}{Q:VK},GS X.K F ρ σ H->cC (isVar p) (HH.ev c p) ρ=.ok d ρ'->(∀v j f,aC X.K F ρ σ H j ρ' σ f->dC X.K j f v d->Q v f)->t σ H Q:=by cases hv:isVar p with|none=>refine⟨_,h.ev,fun{σ H F ρ ρ' d Q}g e k=>?_⟩;obtain⟨r,q,l,m⟩:=aj e;cases m;refine⟨F,ρ,r,_,g,l,fun v j f s u=>?_⟩;obtain⟨o,w,_,y⟩:=s.dj u;exact k v o f w (.inl y)|some i=>refine⟨_,h.var i hv,fun{σ H F ρ ρ' d Q}g e k=>?_⟩;obtain⟨l,m⟩:=aB e;subst m;obtain⟨v,h1,z⟩:=g.pk l;exact⟨v,h1,k v F H (.refl g) z⟩
theorem SX.iI(J:SX X c a pa)(N:SX X c b pb):∃L h,PE X a L/\PE X b h/\∀{σ:L2.St}{H F:Hp}{ρ ρ':List Sl}{j:D×D}{R:V->V->Hp->Prop},GS X.K F ρ σ H->iI (isVar pa) (HH.ev c pa) (isVar pb) (HH.ev c pb) ρ=.ok j ρ'->(∀v u w l,aC X.K F ρ σ H w ρ' σ l->dC X.K w l v j.1->dC X.K w l u j.2->R v u l)->L σ H fun x z=>h σ z fun y A=>R x y A:=by obtain⟨h,m,o⟩:=N.cC;cases hv:isVar pa with|none=>refine⟨_,h,J.ev,m,fun{σ H F ρ ρ' j R}g e k=>?_⟩;obtain⟨x,B,q,e⟩:=aj e;obtain⟨y,C,f,e⟩:=aj e;cases e;obtain⟨r,M,q,E⟩:=aj q;cases E;refine⟨F,ρ,r,_,g,q,fun v w l s O=>?_⟩;obtain⟨F1,s1,_,Q⟩:=s.dj O;refine o s1.gs f fun u U A s2 G=>?_;exact k v u U A (s1.trans s2) (.inl (Q.mono s2.bN)) G|some i=>refine⟨_,h,J.var i hv,m,fun{σ H F ρ ρ' j R}g e k=>?_⟩;obtain⟨x0,W,E,e⟩:=aj e;obtain⟨I,Y⟩:=aB E;subst Y;obtain⟨y,B,q,e⟩:=aj e;obtain⟨x,C,f,e⟩:=aj e;cases e;have Z:=aB f;clear f;obtain⟨f,e3⟩:=Z;subst e3;obtain⟨v,h1,_⟩:=g.pk I;refine⟨v,h1,o g q fun u F1 z s1 G=>?_⟩;obtain⟨v',t,pv⟩:=s1.gs.pk f;rw[h1]at t;cases t;exact k v u F1 z s1 pv G
inductive rD(K:PySem.W.Frag)(f:D->D->Option R)(x y:V)(H:Hp)(Q:VK):Prop where|mk(F:Hp)(d e:D)(r:R)(sm:aF F H)(px:dC K F H x d)(py:dC K F H y e)(he:f d e=some r)(k:∀v F' H',Ext F H F' H'->cj K F' H' H v r->Q v H')
inductive rD1(K:PySem.W.Frag)(f:D->Option R)(x:V)(H:Hp)(Q:VK):Prop where|mk(F:Hp)(d:D)(r:R)(sm:aF F H)(px:dC K F H x d)(he:f d=some r)(k:∀v F' H',Ext F H F' H'->cj K F' H' H v r->Q v H')
theorem vJ{E:Expr}{f:D->D->Option R}{q:P}(t:∀{m o},PE X a m->PE X b o->PE X E (S9 (rD X.K f) m o))(y:SX X c a pa)(z:SX X c b pb)(A:∀ρ,HH.ev c q ρ=(HH.iI (isVar pa) (HH.ev c pa) (isVar pb) (HH.ev c pb) ρ).bind fun j ρ=>lift (f j.1 j.2) ρ)(B:isVar q=none):SX X c E q:=by obtain⟨m,o,h1,C,G⟩:=y.iI z;refine⟨di (t h1 C) ?_,fun i h=>by rw[B]at h;cases h⟩;rintro σ H Q⟨F,ρ,r,ρ',g,e,k⟩;rw[A]at e;obtain⟨j,I,J,l⟩:=aj e;have L:=aB l;clear l;obtain⟨l,M⟩:=L;subst M;refine G g J fun v u N H' s O U=>⟨N,j.1,j.2,r,s.gs.sub,O,U,l,fun w W Y x Z=>?_⟩;exact k w W Y (s.trans (x.stp s.gs)) (.later s (Z.nj s.gs))
theorem QJ{E:Expr}{f:D->Option R}{q:P}(m:∀{l},PE X a l->PE X E (tUn (rD1 X.K f) l))(o:SX X c a pa)(t:∀ρ,HH.ev c q ρ=(HH.cC (isVar pa) (HH.ev c pa) ρ).bind fun x ρ=>lift (f x) ρ)(u:isVar q=none):SX X c E q:=by obtain⟨l,h1,y⟩:=o.cC;refine⟨di (m h1) ?_,fun i h=>by rw[u]at h;cases h⟩;rintro σ H Q⟨F,ρ,r,ρ',g,e,k⟩;rw[t]at e;obtain⟨x,z,A,j⟩:=aj e;have B:=aB j;clear j;obtain⟨j,C⟩:=B;subst C;refine y g A fun v G N s I=>⟨G,x,r,s.gs.sub,I,j,fun w J L x M=>?_⟩;exact k w J L (s.trans (x.stp s.gs)) (.later s (M.nj s.gs))
theorem GS.freeze{b:Bool}(g:GS K F ρ σ H)(e:ρ[i]?=some (.own b ds)):∃v z,σ[i]?=some (some v)/\aC K F ρ σ H z (ρ.set i (.val b (.lst ds))) σ H/\Rep K z v (.lst ds):=by
 obtain⟨a,xs,h1,C,E,G⟩:=g.lG i _ ds e rfl;have hi:i<ρ.length:=(dB e).1;have sm:aF F (upd F a (.lst xs)):=aF.cg E;have A:Rep K (upd F a (.lst xs)) (.ref a) (.lst ds):=by rw[Rep];exact⟨a,xs,rfl,eV.of aO,G.mono sm⟩
 have I:Own ρ σ a:=⟨i,⟨_,_,e,rfl⟩,h1⟩;have r:∀j x,aZ (ρ.set i (.val b (.lst ds))) σ j x->aZ ρ σ j x/\j≠i:=fun j x⟨⟨s,h,m,u⟩,y⟩=>by
  by_cases f:j=i;.subst f;rw[getElem?_set_self hi]at m;cases m;cases u
  .rw[fH f]at m;exact⟨⟨⟨s,h,m,u⟩,y⟩,f⟩
 refine⟨.ref a,upd F a (.lst xs),h1,⟨⟨fun x o q=>?_,by simpa using g.len,fun j J d q=>?_,fun j s h q w=>?_,fun j k x q w=>g.dis j k x (r j x q).1 (r k x w).1⟩,sm,fun x n B=>?_,fun _ _ q _=>q,fun x⟨j,q⟩=>.inl ⟨j,(r j x q).1⟩,by simp,fun j s q l=>⟨rfl,?_⟩⟩,A⟩
 . by_cases t:x=a;.subst t;rw[aO]at q;cases q;exact C
   .rw[aD t]at q;exact g.sub x o q
 . by_cases f:j=i;.subst f;rw[getElem?_set_self hi]at q;cases q;exact⟨_,h1,A⟩
   .rw[fH f]at q;obtain⟨v,m,u⟩:=g.val j J d q;exact⟨v,m,u.mono sm⟩
 . by_cases f:j=i;.subst f;rw[getElem?_set_self hi]at q;cases q;cases w
   . rw[fH f]at q;obtain⟨x,ys,m,u,y,L⟩:=g.own j s h q w;have t:x≠a:=by rintro rfl;exact f (g.dis j i x ⟨⟨s,h,q,w⟩,m⟩ ⟨⟨_,_,e,rfl⟩,h1⟩)
     exact⟨x,ys,m,u,by rw[aD t];exact y,L.mono sm⟩
 . by_cases t:x=a;.subst t;exact .inl I
   .rw[aD t]at B;exact absurd n B
 . by_cases f:j=i;.subst f;rw[e]at q;cases q;refine⟨_,getElem?_set_self hi,?_⟩;cases b with|true=>exact .inr ⟨_,rfl⟩|false=>cases l
   .exact⟨s,by rw[fH f];exact q,.refl s⟩
theorem GS.Aq{m:Dc}(g:GS K F ρ σ H)(e:ρ[i]?=some (.gQ m)):∃a,σ[i]?=some (some (.ref a))/\H a=some m.ho/\∀u,aC K F ρ σ H (upd F a (.dj u m.ho)) (ρ.set i (.val false (.eO m))) σ (upd H a (.dj u m.ho))/\Rep K (upd F a (.dj u m.ho)) (.ref a) (.eO m):=by
 obtain⟨a,G,h1,I,J,L⟩:=g.own i _ _ e rfl;cases(show G=m.ho from L);have hi:i<ρ.length:=(dB e).1;refine⟨a,h1,I,fun u=>?_⟩;have sm:aF F (upd F a (.dj u m.ho)):=aF.cg J;have B:Rep K (upd F a (.dj u m.ho)) (.ref a) (.eO m):=by rw[Rep];exact⟨a,u,rfl,aO⟩
 have C:Own ρ σ a:=⟨i,⟨_,_,e,rfl⟩,h1⟩;have w:∀j x,aZ (ρ.set i (.val false (.eO m))) σ j x->aZ ρ σ j x/\j≠i:=fun j x⟨⟨s,r,t,y⟩,A⟩=>by
  by_cases f:j=i;.subst f;rw[getElem?_set_self hi]at t;cases t;cases y
  .rw[fH f]at t;exact⟨⟨⟨s,r,t,y⟩,A⟩,f⟩
 refine⟨⟨⟨fun x o q=>?_,by simpa using g.len,fun j M d q=>?_,fun j s r q z=>?_,fun j k x q z=>g.dis j k x (w j x q).1 (w k x z).1⟩,sm,fun x n E=>?_,fun x o q n=>?_,fun x⟨j,q⟩=>.inl ⟨j,(w j x q).1⟩,by simp,fun j s q l=>⟨rfl,?_⟩⟩,B⟩
 . by_cases h:x=a;.subst h;rw[aO]at q ⊢;exact q
   .rw[aD h]at q ⊢;exact g.sub x o q
 . by_cases f:j=i;.subst f;rw[getElem?_set_self hi]at q;cases q;exact⟨_,h1,B⟩
   .rw[fH f]at q;obtain⟨v,t,y⟩:=g.val j M d q;exact⟨v,t,y.mono sm⟩
 . by_cases f:j=i;.subst f;rw[getElem?_set_self hi]at q;cases q;cases z
   . rw[fH f]at q;obtain⟨x,ys,t,y,A,N⟩:=g.own j s r q z;have h:x≠a:=by rintro rfl;exact f (g.dis j i x ⟨⟨s,r,q,z⟩,t⟩ ⟨⟨_,_,e,rfl⟩,h1⟩)
     exact⟨x,ys,t,by rw[aD h];exact y,by rw[aD h];exact A,N.mono sm⟩
 . by_cases h:x=a;.subst h;exact .inl C
   .rw[aD h]at E;exact absurd n E
 . have h:x≠a:=by rintro rfl;exact n C
   rw[aD h];exact q
 . by_cases f:j=i;.subst f;rw[e]at q;cases q;cases l
   .exact⟨s,by rw[fH f];exact q,.refl s⟩
theorem GS.Dg{kvs:List (Int×D)}(g:GS K F ρ σ H)(e:ρ[i]?=some (.cF kvs)):∃a vs,σ[i]?=some (some (.ref a))/\H a=some (BV (kvs.map (·.1)) vs)/\∀t,aC K F ρ σ H (upd F a (.dj t (BV (kvs.map (·.1)) vs))) (ρ.set i (.val false (.dv (kvs.map (·.1)) (kvs.map (·.2))))) σ (upd H a (.dj t (BV (kvs.map (·.1)) vs)))/\Rep K (upd F a (.dj t (BV (kvs.map (·.1)) vs))) (.ref a) (.dv (kvs.map (·.1)) (kvs.map (·.2))):=by
 obtain⟨a,N,h1,E,G,I⟩:=g.own i _ _ e rfl;obtain⟨vs,rfl,J⟩:=I;have hi:i<ρ.length:=(dB e).1;refine⟨a,vs,h1,E,fun t=>?_⟩;have sm:aF F (upd F a (.dj t (BV (kvs.map (·.1)) vs))):=aF.cg G;have A:Rep K (upd F a (.dj t (BV (kvs.map (·.1)) vs))) (.ref a) (.dv (kvs.map (·.1)) (kvs.map (·.2))):=by rw[Rep];exact⟨a,t,vs,rfl,aO,J.mono sm,by simp⟩
 have B:Own ρ σ a:=⟨i,⟨_,_,e,rfl⟩,h1⟩;have u:∀j x,aZ (ρ.set i (.val false (.dv (kvs.map (·.1)) (kvs.map (·.2))))) σ j x->aZ ρ σ j x/\j≠i:=fun j x⟨⟨s,m,r,w⟩,z⟩=>by
  by_cases f:j=i;.subst f;rw[getElem?_set_self hi]at r;cases r;cases w
  .rw[fH f]at r;exact⟨⟨⟨s,m,r,w⟩,z⟩,f⟩
 refine⟨⟨⟨fun x o q=>?_,by simpa using g.len,fun j L d q=>?_,fun j s m q y=>?_,fun j k x q y=>g.dis j k x (u j x q).1 (u k x y).1⟩,sm,fun x n C=>?_,fun x o q n=>?_,fun x⟨j,q⟩=>.inl ⟨j,(u j x q).1⟩,by simp,fun j s q l=>⟨rfl,?_⟩⟩,A⟩
 . by_cases h:x=a;.subst h;rw[aO]at q ⊢;exact q
   .rw[aD h]at q ⊢;exact g.sub x o q
 . by_cases f:j=i;.subst f;rw[getElem?_set_self hi]at q;cases q;exact⟨_,h1,A⟩
   .rw[fH f]at q;obtain⟨v,r,w⟩:=g.val j L d q;exact⟨v,r,w.mono sm⟩
 . by_cases f:j=i;.subst f;rw[getElem?_set_self hi]at q;cases q;cases y
   . rw[fH f]at q;obtain⟨x,ys,r,w,z,M⟩:=g.own j s m q y;have h:x≠a:=by rintro rfl;exact f (g.dis j i x ⟨⟨s,m,q,y⟩,r⟩ ⟨⟨_,_,e,rfl⟩,h1⟩)
     exact⟨x,ys,r,by rw[aD h];exact w,by rw[aD h];exact z,M.mono sm⟩
 . by_cases h:x=a;.subst h;exact .inl B
   .rw[aD h]at C;exact absurd n C
 . have h:x≠a:=by rintro rfl;exact n B
   rw[aD h];exact q
 . by_cases f:j=i;.subst f;rw[e]at q;cases q;cases l
   .exact⟨s,by rw[fH f];exact q,.refl s⟩
theorem Inv.Jw{X:Cx}{f:List (Addr×Obj)}{s:Shared}{a:Addr}{kvs:List (Key×V)}(I:L2.Inv X f σ H s)(h:H a=some (.dK kvs)):∃o,L2.Inv X f σ (upd H a (.dj o (.dK kvs))) s:=by obtain⟨hz,j,vs,r,g⟩:=(show bJ X.prog X.w H s.heap a (.dK kvs)from I.hok a _ h);obtain⟨o,ho,_⟩:=g.typeIs;exact⟨o,I.write (h':=s.heap) (t':=s.toks) (by rw[h];exact trivial) (.inl rfl) (fun b u _ e=>e) ⟨o,ho⟩ ⟨ho,hz,j,vs,r,g⟩⟩
theorem U7(z:X.N[i]?=some x)(A:vV X.env.scope x)(hd:(x==("__debug__":Str))=false:=by decide)(t:(x==("__classdict__":Str))=false:=by decide):SX X c (.Name x pos) (.var i):=by
 have h:=fC (X:=X) (pos:=pos) z A hd t;refine⟨?_,fun j B=>by cases B;exact h⟩;rintro f s σ H Q I⟨F,ρ,r,ρ',g,e,k⟩;rw[HH.E1]at e;split at e;.rename_i b d q;cases e;obtain⟨v,h1,l⟩:=g.val i b d q;exact h f s σ H Q I ⟨v,h1,k v F H (.refl g) l⟩
 .rename_i b ds q;cases e;obtain⟨v,C,h1,l,m⟩:=g.freeze q;exact h f s σ H Q I ⟨v,h1,k v C H l m⟩
 .rename_i kvs q;cases e;obtain⟨a,h1,l,m⟩:=g.Aq q;refine bR (h f s σ H (fun v w=>v=.ref a/\w=H) I ⟨.ref a,h1,rfl,rfl⟩) fun u s1⟨v,H1,I1,r1,e1,e2⟩=>?_;subst e1 e2;obtain⟨o,y⟩:=Inv.Jw I1 l;exact⟨.ref a,_,y,r1,k _ _ _ (m o).1 (m o).2⟩
 .rename_i kvs q;cases e;obtain⟨a,vs,h1,l,m⟩:=g.Dg q;refine bR (h f s σ H (fun v w=>v=.ref a/\w=H) I ⟨.ref a,h1,rfl,rfl⟩) fun u s1⟨v,H1,I1,r1,e1,e2⟩=>?_;subst e1 e2;obtain⟨o,y⟩:=Inv.Jw I1 l;exact⟨.ref a,_,y,r1,k _ _ _ (m o).1 (m o).2⟩
 .cases e
theorem zB{d:D}(h:PE X e (tC v))(hr:∀F,Rep X.K F v d):SX X c e (.con d):=⟨di h fun σ H Q⟨F,ρ,r,ρ',g,e,k⟩=>by rw[HH.E2]at e;cases e;exact k v F H (.refl g) (hr F),fun i h=>by cases h⟩
theorem aa{i j}:SX X c (.Constant (.int i) j pos) (.con (.int i)):=zB qY fun F=>by rw[Rep]
theorem mj{i j}:SX X c (.Constant (.bool i) j pos) (.con (.bl i)):=zB ZP fun F=>by rw[Rep]
theorem GK{j}:SX X c (.Constant .none j pos) (.con .non):=zB RB fun F=>by rw[Rep]
theorem iB{i:Int}{t:Tok}(f:Gl X x)(j:X.mg x=some (.int i t))(hd:(x==("__debug__":Str))=false:=by decide):SX X c (.Name x pos) (.glob x (.int i)):=⟨di (K8 (v:=.int i) f j ⟨t,rfl⟩ hd) fun σ H Q⟨F,ρ,r,ρ',g,e,k⟩=>by rw[HH.E3]at e;cases e;exact k (.int i) F H (.refl g) (show Rep X.K F (.int i) (.int i)by rw[Rep]),fun i h=>by cases h⟩
theorem dC.int{K:PySem.W.Frag}{F H:Hp}{v:V}{i:Int}(h:dC K F H v (.int i)):v=.int i:=by
 rcases h with h|⟨_,_,_,_,_,_,h⟩;.rw[Rep]at h;exact h
 .cases h
theorem dC.bl{K:PySem.W.Frag}{F H:Hp}{v:V}{i:Bool}(h:dC K F H v (.bl i)):v=.bl i:=by
 rcases h with h|⟨_,_,_,_,_,_,h⟩;.rw[Rep]at h;exact h
 .cases h
theorem dC.str{K:PySem.W.Frag}{F H:Hp}{v:V}{i:Str}(h:dC K F H v (.str i)):v=.str i:=by
 rcases h with h|⟨_,_,_,_,_,_,h⟩;.rw[Rep]at h;exact h
 .cases h
theorem dC.non{K:PySem.W.Frag}{F H:Hp}{v:V}(h:dC K F H v .non):v=.non:=by
 rcases h with h|⟨_,_,_,_,_,_,h⟩;.rw[Rep]at h;exact h
 .cases h
theorem dC.tup{K:PySem.W.Frag}{F H:Hp}{v:V}{ds:List D}(s:aF F H)(h:dC K F H v (.tup ds)):∃a xs,v=.ref a/\iQ K H a xs/\aG K F xs ds/\Rep K F v (.tup ds):=by
 rcases h with h|⟨_,_,_,_,_,_,h⟩;.have h':=h;rw[Rep]at h;obtain⟨a,xs,rfl,h1,f⟩:=h;exact⟨a,xs,rfl,aF.gB s h1,f,h'⟩
 .cases h
theorem dC.lst{K:PySem.W.Frag}{F H:Hp}{v:V}{ds:List D}(s:aF F H)(h:dC K F H v (.lst ds)):∃a xs,v=.ref a/\eV K H a xs/\aG K F xs ds:=by
 rcases h with h|⟨a,xs,es,h1,f,g,h⟩;.rw[Rep]at h;obtain⟨a,xs,rfl,h1,f⟩:=h;exact⟨a,xs,rfl,s.seq h1,f⟩
 .cases h;exact⟨a,xs,h1,eV.of f,g⟩
theorem dC.eO{m:Dc}(s:aF F H)(h:dC K F H v (.eO m)):∃a o,v=.ref a/\H a=some (.dj o m.ho):=by
 rcases h with h|⟨_,_,_,_,_,_,h⟩;.rw[Rep]at h;obtain⟨a,o,rfl,h⟩:=h;exact⟨a,o,rfl,s _ _ h⟩
 .cases h
theorem Hf{X:Cx}{f:List (Addr×Obj)}{s:Shared}{a:Addr}{g:Obj}{m:Dc}(I:L2.Inv X f σ H s)(h:H a=some (.dj g m.ho)):∃o,s.heap.get? a=some o/\o.cls=.type "dict":=by have z:=(show bJ X.prog X.w H s.heap a (.dj g m.ho)from I.hok a _ h).2;cases m with|k kvs=>obtain⟨_,_,vs,_,d2⟩:=(show bJ X.prog X.w H s.heap a (.dK _)from z);exact d2.typeIs|t kvs=>obtain⟨_,_,xs,_,o,es,ep,h1,j,_⟩:=(show bJ X.prog X.w H s.heap a (.dT _)from z);exact⟨o,h1,j.1⟩
theorem dC.dv{ks:List Int}(s:aF F H)(h:dC K F H v (.dv ks ds)):∃a o vs,v=.ref a/\H a=some (.dj o (BV ks vs))/\aG K F vs ds/\ks.length=ds.length:=by
 rcases h with h|⟨_,_,_,_,_,_,h⟩;.rw[Rep]at h;obtain⟨a,o,vs,rfl,h,h1,f⟩:=h;exact⟨a,o,vs,rfl,s _ _ h,h1,f⟩
 .cases h
theorem Ij{X:Cx}{f:List (Addr×Obj)}{s:Shared}{a:Addr}{g:Obj}{ks:List Int}(I:L2.Inv X f σ H s)(h:H a=some (.dj g (BV ks vs))):∃o,s.heap.get? a=some o/\o.cls=.type "dict":=by have z:=(show bJ X.prog X.w H s.heap a (.dj g (BV ks vs))from I.hok a _ h).2;obtain⟨_,_,vs,_,d2⟩:=(show bJ X.prog X.w H s.heap a (.dK _)from z);exact d2.typeIs
theorem dC.items{d:D}(s:aF F H)(h:dC K F H v d)(e:items d=some ds):∃a xs,v=.ref a/\(eV K H a xs\/iQ K H a xs)/\aG K F xs ds:=by cases d with|tup es=>cases e;obtain⟨a,xs,h1,f,g,_⟩:=h.tup s;exact⟨a,xs,h1,.inr f,g⟩|lst es=>cases e;obtain⟨a,xs,h1,f,g⟩:=h.lst s;exact⟨a,xs,h1,.inl f,g⟩|_=>cases e
theorem cj.cX{Q:VK}{d:D}(s:aF F H)(r:Rep K F v d)(k:∀v g f,Ext F H g f->cj K g f H v (.val d)->Q v f):Q v H:=k v F H (.refl s) r
theorem bL(i:Int):Rep K F (.int i) (.int i):=by rw[Rep]
theorem fu(i:Bool):Rep K F (.bl i) (.bl i):=by rw[Rep]
theorem Qx(i:Str):Rep K F (.str i) (.str i):=by rw[Rep]
theorem R9:Rep K F .non .non:=by rw[Rep]
theorem wW{Q:VK}{xs:List V}{p:Addr}(s:aF F H)(r:aG K F xs ds)(f:H p=none)(k:∀v h g,Ext F H h g->cj K h g H v (.own ds)->Q v g):Q (.ref p) (upd H p (.lst xs)):=by
 have j:F p=none:=by cases q:F p with|none=>rfl|some o=>rw[s p o q]at f;cases f
 exact k _ F _ ⟨aF.cg f,.refl _,s.trans (aF.cg f),fun _ a b=>absurd a b⟩ ⟨p,xs,rfl,aO,j,r,f⟩
theorem zX{Q:VK}{xs:List V}{p:Addr}(s:aF F H)(r:aG K F xs ds)(g:H p=none)(k:∀v j h,Ext F H j h->cj K j h H v (.val (.tup ds))->Q v h):Q (.ref p) (upd H p (.tup xs)):=by
 have m:F p=none:=by cases q:F p with|none=>rfl|some o=>rw[s p o q]at g;cases g
 have sm:aF F (upd F p (.tup xs)):=aF.cg m;refine k _ (upd F p (.tup xs)) _ ⟨aF.cg g,sm,fun b o e=>?_,fun b n l=>?_⟩ ?_
 . by_cases f:b=p;.subst f;rw[aO]at e ⊢;exact e
   .rw[aD f]at e ⊢;exact s b o e
 . by_cases f:b=p;.subst f;exact kE g
   .rw[aD f]at l;exact absurd n l
 .show Rep K _ _ (.tup ds);rw[Rep];exact⟨p,xs,rfl,iQ.of aO,r.mono sm⟩
end
theorem sy(k:Int)(t:Tok)(l:Addr)(a:Array Value)(n:Nat)(b:Option Addr)(sl:Array (Option Value)):Meets (Builtin.«int.__rmul__» ⟨[.int k t,.ref l],[]⟩) (fun _ R s=>s.heap.get? l=some ⟨.type "list",b,.seq a n,sl⟩/\R (.ok (.ret Value.notImplemented)) s):=.of_wp fun prog w A R s h=>by obtain⟨c,g,d,e,os⟩:=s;obtain⟨f,h⟩:=h;wp_walk;exact⟨_,rfl,h⟩
theorem Dq(l:Addr)(a:Array Value)(n:Nat)(b:Option Addr)(sl:Array (Option Value))(k:Int)(t:Tok)(h0:¬(!Builtin.List.listFitsIndex k)=true)(h1:¬a.size*k.toNat>(2^63-1)/8)(c:¬listTooLong (a.size*k.toNat)=true):Meets (Builtin.«list.__mul__» ⟨[.ref l,.int k t],[]⟩) (fun _ R s=>s.heap.get? l=some ⟨.type "list",b,.seq a n,sl⟩/\R (.ok (.ret (Value.ref s.heap.objs.size))) {s with heap:=s.heap.push {cls:=.type "list",data:=.seq (foldl (·++·) #[] (replicate (if a.isEmpty=true then 0 else k.toNat) a))}}):=.of_wp fun prog w A R s h=>by obtain⟨f,g,d,j,os⟩:=s;obtain⟨e,h⟩:=h;have hz:=AutoListH.joined_fits c;wp_walk using wpAny_loadPart' e;refine wpAny_ite_false (decide_eq_false (Nat.not_lt.mpr hz)) ?_;wp_walk;exact⟨_,rfl,h⟩
section
variable{X:Cx}{c:Call}{e a b d:Expr}{p pa pb pd:P}{pos:Pos}
theorem KJ:gb X (binaryOp .Add) (fun x y H Q=>∃l b xs o,x=.ref l/\y=.ref b/\eV X.K H l xs/\eV X.K H b o/\xs.length+o.length<=sizeLine/\∀p,H p=none->Q (.ref p) (upd H p (.lst (xs++o)))):=by
 intro z s σ H x y v u Q I C E h;obtain⟨l,b,xs,o,rfl,rfl,G,J,hz,q⟩:=h;cases C;cases E;obtain⟨g,r,L,_⟩:=I.list G;obtain⟨f,A,M,_⟩:=I.list J;obtain⟨⟨cls,N,data,sl⟩,ho,hc,n,hd⟩:=id L.isList;obtain⟨⟨B,t,data2,w⟩,j,k,O,m⟩:=id M.isList;simp only at hc hd k m;subst hc hd k m;have e:g.toArray++f.toArray=(g++f).toArray:=by simp
 refine concat_meets ⟨_,ho,rfl⟩ ⟨_,j,rfl⟩ noFill_list_add seq_list_add PySem.F.slot_list_add PySem.F.entry_list_add (PySem.F.args_list_add_2 _ _) (list_addW l b g.toArray f.toArray n O N t sl w (by simp only[size_toArray];rw[<-r.length,<-A.length];exact hz)) ⟨ho,j,?_⟩;rw[e];exact⟨.ref _,_,I.U9 (t':=s.toks) (r.append A) (by rw[length_append];exact hz),rfl,q _ I.fresh⟩
theorem Iv:gb X (binaryOp .Add) (fun x y H Q=>∃a b ys,x=.ref a/\y=.ref b/\iQ X.K H a []/\iQ X.K H b ys/\Q (.ref b) H):=by intro r s σ H x y v u Q I w z h;obtain⟨a,b,ys,rfl,rfl,A,B,q⟩:=h;cases w;cases z;obtain⟨l,r1,p1,_⟩:=I.tuple A;obtain⟨f,J,p2,_⟩:=I.tuple B;obtain⟨⟨cls,C,data,sl⟩,ho,hc,n,hd⟩:=id p1;obtain⟨⟨t,m,data2,o⟩,g,j,E,k⟩:=id p2;simp only at hc hd j k;subst hc hd j k;have G:l=[]:=r1.pZ.mpr rfl;subst G;exact concat_meets ⟨_,ho,rfl⟩ ⟨_,g,rfl⟩ noFill_tuple_add seq_tuple_add slot_tuple_add entry_tuple_add (args_tuple_add_2 _ _) (tuple_addW0 a b _ f.toArray n E C m sl o (by simp)) ⟨ho,g,⟨.ref b,H,I,rfl,q⟩⟩
theorem aK:gb X (binaryOp .Add) (rD X.K (rZ .add)):=by
 rintro f s σ H x y v u Q I g h⟨F,d,e,r,sm,o,q,he,k⟩;replace he:qj d e=some r:=he;unfold qj at he;split at he;.cases he;rw[o.int]at g;rw[q.int]at h;exact Sy f s σ H _ _ v u Q I g h ⟨_,_,rfl,rfl,cj.cX sm (bL _) k⟩
 .rename_i xs ys;obtain⟨m,he⟩:=bz he;subst he;obtain⟨a,vs,rfl,t,j⟩:=o.lst sm;obtain⟨b,w,rfl,z,l⟩:=q.lst sm;exact KJ f s σ H _ _ v u Q I g h ⟨a,b,vs,w,rfl,rfl,t,z,by rw[j.length,l.length];exact m,fun p A=>wW sm (j.append l) A k⟩
 . rename_i xs ys;obtain⟨m,he⟩:=bz he;subst he;obtain⟨a,vs,rfl,t,j,C⟩:=o.tup sm;obtain⟨b,w,rfl,z,l,E⟩:=q.tup sm;by_cases h0:vs=[]
   . subst h0;have B:xs=[]:=by have:=j.length;exact List.eq_nil_of_length_eq_zero this.symm
     subst B;exact Iv f s σ H _ _ v u Q I g h ⟨a,b,w,rfl,rfl,t,z,cj.cX sm E k⟩
   . refine MP f s σ H _ _ v u Q I g h ⟨a,b,vs,w,rfl,rfl,t,z,h0,by rw[j.length,l.length];exact m,fun e=>?_,fun _ p A=>zX sm (j.append l) A k⟩;subst e;have B:ys=[]:=by have:=l.length;exact List.eq_nil_of_length_eq_zero this.symm
     subst B;rw[append_nil]at k;exact cj.cX sm C k
 .rename_i G J;obtain⟨m,he⟩:=bz he;subst he;rw[o.str]at g;rw[q.str]at h;exact yS f s σ H _ _ v u Q I g h ⟨_,_,rfl,rfl,m,cj.cX sm (Qx _) k⟩
 .cases he
theorem dW:gb X (binaryOp .Sub) (rD X.K (rZ .sub)):=by
 rintro f s σ H x y v u Q I g h⟨F,d,e,r,sm,j,l,he,k⟩;replace he:xX d e=some r:=he;unfold xX at he;split at he;.cases he;rw[j.int]at g;rw[l.int]at h;exact R5 f s σ H _ _ v u Q I g h ⟨_,_,rfl,rfl,cj.cX sm (bL _) k⟩
 .cases he
theorem M4:gb X (binaryOp .Mult) (fun x y H Q=>∃l k xs,x=.ref l/\y=.int k/\eV X.K H l xs/\-(2^63)<=k/\k<2^63/\xs.length*k.toNat<=sizeLine/\∀p,H p=none->Q (.ref p) (upd H p (.lst (replicate k.toNat xs).flatten))):=by
 intro w s σ H x y v u Q I A B h;obtain⟨l,k,xs,rfl,rfl,C,h1,E,hz,q⟩:=h;cases A;obtain⟨t,rfl⟩:=B;obtain⟨f,r,G,_⟩:=I.list C;obtain⟨⟨cls,z,data,sl⟩,ho,hc,n,hd⟩:=id G.isList;simp only at hc hd;subst hc hd;have g:f.toArray.size*k.toNat<=sizeLine:=by rw[size_toArray,<-r.length];exact hz
 have o:¬ f.toArray.size*k.toNat>(2^63-1)/8:=by
  have:(sizeLine:Nat)<=(2^63-1)/8:=by decide
  omega
 have j:foldl (·++·) #[] (replicate (if f.toArray.isEmpty=true then 0 else k.toNat) f.toArray)=(replicate k.toNat f).flatten.toArray:=by
  have f0:∀m:Nat,foldl (·++·) #[] (replicate m f.toArray)=(replicate m f).flatten.toArray:=fun m=>by have:=foldl_rep f m [];rw[nil_append]at this;exact this
  rw[f0];cases f with|nil=>simp|cons a L=>rw[if_neg (by simp)]
 refine wpAny_binaryOp_repeat_ref (T:="list") (U:="int") (by decide) ⟨_,ho,rfl⟩ (fun J=>typeIs_int J k t) noFill_list_mul F.fills_int_mul F.slot_int_rmul repeat_list F.slot_int_index.lookup ?_;refine call_meets F.slot_int_rmul (typeIs_int s k t) F.entry_int_rmul (F.args_int_rmul_2 _ _) (sy k t l f.toArray n z sl) ⟨ho,rfl,⟨_,ho,rfl⟩,?_⟩;refine call_meets F.slot_list_mul ⟨_,ho,rfl⟩ F.entry_list_mul (F.args_list_mul_2 _ _) (Dq l f.toArray n z sl k t (by rw[fitsIndex_both h1 E];exact Bool.false_ne_true) o (by rw[v8 g];exact Bool.false_ne_true)) ⟨ho,?_⟩;rw[j];exact⟨.ref _,_,I.U9 (t':=s.toks) (r.rep k.toNat) (by rw[len_rep,Nat.mul_comm];exact hz),rfl,q _ I.fresh⟩
theorem oE:fillsNumberSlot (.type "tuple") "mul"=pure false:=PySem.fillsNumberSlot_seq (id:="tuple.__mul__") (r:=some (.builtin "tuple.__rmul__")) slot_tuple_mul.lookup (by decide+kernel) PySem.F.slot_tuple_rmul.lookup (by decide+kernel)
theorem uz:seqRepeat? (.type "tuple")=pure (some (.builtin "tuple.__mul__")):=by unfold seqRepeat?;rw[PySem.seqSlot_of (T:="tuple") (name:="__mul__") (id:="tuple.__mul__") slot_tuple_mul.lookup (by decide+kernel),PySem.seqSlot_of (T:="tuple") (name:="__rmul__") (id:="tuple.__rmul__") PySem.F.slot_tuple_rmul.lookup (by decide+kernel)];rfl
theorem qt(k:Int)(t:Tok)(l:Addr)(f:Array Value)(n:Nat)(j:Option Addr)(sl:Array (Option Value)):Meets (Builtin.«int.__rmul__» ⟨[.int k t,.ref l],[]⟩) (fun _ R s=>s.heap.get? l=some ⟨.type "tuple",j,.seq f n,sl⟩/\R (.ok (.ret Value.notImplemented)) s):=.of_wp fun prog w A R s h=>by obtain⟨m,g,d,o,os⟩:=s;obtain⟨q,h⟩:=h;wp_walk;exact⟨_,rfl,h⟩
theorem zA(l:Addr)(f:Array Value)(n:Nat)(r:Option Addr)(sl:Array (Option Value))(k:Int)(t:Tok)(h0:0<=k)(h1:k<2^63)(hz:f.size*k.toNat<=sizeLine)(u:0<f.size):Meets (Builtin.«tuple.__mul__» ⟨[.ref l,.int k t],[]⟩) (fun _ R s=>s.heap.get? l=some ⟨.type "tuple",r,.seq f n,sl⟩/\(k=1->R (.ok (.ret (Value.ref l))) s)/\(k≠1->R (.ok (.ret (Value.ref s.heap.objs.size))) {s with heap:=s.heap.push {cls:=.type "tuple",data:=.seq (foldl (·++·) #[] (replicate k.toNat f))}})):=.of_wp fun prog w A R s h=>by
  obtain⟨y,g,d,I,os⟩:=s;obtain⟨o,z,B⟩:=h;have j:f.isEmpty=false:=by cases e:f.isEmpty with|false=>rfl|true=>rw[Array.isEmpty_iff_size_eq_zero]at e;omega
  show wpAny _ _ (asIndex (.int k t)>>=_) _ _ _;wp_walk using wpAny_loadPart' o;have C:IsTup y l f:=⟨_,o,rfl,n,rfl⟩;rw[if_neg (by simp;omega)];refine wpAny_bind (PyProof.Rows.tupleItemsOf_ C ?_);try dsimp only
  by_cases m:k=1;.rw[if_pos (by simp[m])];wp_walk using wpAny_loadPart' o;exact⟨_,rfl,z m⟩
  . have q:=B m;rw[if_neg (by simp[j,m])];by_cases E:k=0;.subst E;rw[if_pos (by simp)];unfold tupleExact;refine wpAny_bind (wpAny_newObj_type ?_);exact wpAny_pure ⟨_,rfl,q⟩
    . have J:(f.size:Int)*k<=sizeLine:=by
       have:((f.size*k.toNat:Nat):Int)<=(sizeLine:Nat):=by exact_mod_cast hz
       rw[Int.natCast_mul,show((k.toNat:Nat):Int)=k by omega]at this;exact this
      have G:(sizeLine:Int)<=(2^63-1)/8:=by decide
      rw[if_neg (by simp[j];omega),if_neg (by omega),if_neg (by simp[Builtin.Tuple.tupleTooMany];omega)];unfold tupleExact;refine wpAny_bind (wpAny_newObj_type ?_ ?_);.exact wpAny_pure ⟨_,rfl,q⟩
      .have:=foldl_rep f.toList k.toNat [];rw[nil_append,show f.toList.toArray=f by simp]at this;show(foldl (·++·) #[] (replicate k.toNat f)).size<=sizeLine;rw[show(#[]:Array Value)=([]:List Value).toArray from rfl,this,size_toArray,len_rep,length_toList,Nat.mul_comm];exact hz
theorem M7:gb X (binaryOp .Mult) (fun x y H Q=>∃l k xs,x=.ref l/\y=.int k/\iQ X.K H l xs/\0<xs.length/\0<=k/\k<2^63/\xs.length*k.toNat<=sizeLine/\(k=1->Q (.ref l) H)/\(k≠1->∀p,H p=none->Q (.ref p) (upd H p (.tup (replicate k.toNat xs).flatten)))):=by
 intro w s σ H x y v u Q I A B h;obtain⟨l,k,xs,rfl,rfl,C,m,h1,E,hz,G,J⟩:=h;cases A;obtain⟨t,rfl⟩:=B;obtain⟨f,r,L,_⟩:=I.tuple C;obtain⟨⟨cls,z,data,sl⟩,ho,hc,n,hd⟩:=id L;simp only at hc hd;subst hc hd;have g:f.toArray.size*k.toNat<=sizeLine:=by rw[size_toArray,<-r.length];exact hz
 have j:foldl (·++·) #[] (replicate k.toNat f.toArray)=(replicate k.toNat f).flatten.toArray:=by have:=foldl_rep f k.toNat [];rw[nil_append]at this;exact this
 refine wpAny_binaryOp_repeat_ref (T:="tuple") (U:="int") (by decide) ⟨_,ho,rfl⟩ (fun M=>typeIs_int M k t) oE F.fills_int_mul F.slot_int_rmul uz F.slot_int_index.lookup ?_;refine call_meets F.slot_int_rmul (typeIs_int s k t) F.entry_int_rmul (F.args_int_rmul_2 _ _) (qt k t l f.toArray n z sl) ⟨ho,rfl,⟨_,ho,rfl⟩,?_⟩;refine call_meets slot_tuple_mul ⟨_,ho,rfl⟩ PySem.F.entry_tuple_mul (PySem.F.args_tuple_mul_2 _ _) (zA l f.toArray n z sl k t h1 E g (by rw[size_toArray,<-r.length];exact m)) ⟨ho,fun e=>⟨.ref l,H,I,rfl,G e⟩,fun e=>?_⟩;rw[j];refine⟨.ref s.heap.objs.size,_,I.laid (t':=s.toks) (o:=.tup (replicate k.toNat xs).flatten) (fun b N q=>dG q) (dz) ?_,rfl,J e _ (I.hok.fresh (dz))⟩;exact⟨by rw[len_rep,Nat.mul_comm];exact hz,_,r.rep k.toNat,IsTup.new _ _⟩
theorem dh:gb X (binaryOp .Mult) (rD X.K (rZ .mul)):=by
 rintro f s σ H x y v u Q I l g⟨F,d,e,r,sm,o,q,he,k⟩;replace he:oU d e=some r:=he;unfold oU at he;split at he;.obtain⟨hc,he⟩:=bz he;subst he;rw[o.int]at l;rw[q.int]at g;exact Ss f s σ H _ _ v u Q I l g ⟨_,_,rfl,rfl,hc,cj.cX sm (bL _) k⟩
 . rename_i xs i;obtain⟨⟨h1,m,j⟩,he⟩:=bz he;subst he;obtain⟨a,vs,rfl,t,h⟩:=o.lst sm;rw[q.int]at g;have w:i<2^63:=by have z:=Nat.le_mul_of_pos_left i.toNat m;have B:i.toNat<=16777216:=le_trans z j;omega
   exact M4 f s σ H _ _ v u Q I l g ⟨a,i,vs,rfl,rfl,t,by omega,w,by rw[h.length];exact j,fun p A=>wW sm (h.rep i.toNat) A k⟩
 . rename_i xs i;obtain⟨⟨h1,m,j⟩,he⟩:=bz he;subst he;obtain⟨a,vs,rfl,t,h,C⟩:=o.tup sm;rw[q.int]at g;have w:i<2^63:=by have z:=Nat.le_mul_of_pos_left i.toNat m;have B:i.toNat<=16777216:=le_trans z j;omega
   refine M7 f s σ H _ _ v u Q I l g ⟨a,i,vs,rfl,rfl,t,by rw[h.length];exact m,h1,w,by rw[h.length];exact j,fun e=>?_,fun e p A=>zX sm (h.rep i.toNat) A k⟩;subst e;refine cj.cX sm ?_ k;have E:(replicate (1:Int).toNat xs).flatten=xs:=by simp
   rw[E];exact C
 .cases he
theorem wX:gb X (binaryOp .FloorDiv) (rD X.K (rZ .fdiv)):=by
 rintro f s σ H x y v u Q I g h⟨F,d,e,r,sm,l,m,he,k⟩;replace he:rH d e=some r:=he;unfold rH at he;split at he
 . rename_i i j;obtain⟨⟨h1,q⟩,he⟩:=bz he;subst he;rw[l.int]at g;rw[m.int]at h;obtain⟨t,rfl⟩:=g;obtain⟨t',rfl⟩:=h;have o:j.natAbs.log2<9000:=by
    have:j.natAbs<2^200:=by
     have:(2:Nat)^200=1606938044258990275541962092341162602522202993782792835301376:=by decide
     omega
    have w:=(Nat.log2_lt (by omega)).mpr this;omega
   exact floordiv_int (by omega) (by rw[Int.fdiv_eq_ediv_of_nonneg i (by omega)];exact⟨.int _,H,I.tok _,⟨_,rfl⟩,cj.cX sm (bL _) k⟩) (.inl (PyProof.noPylong_of_log2 o))
 .cases he
theorem cZ:gb X (binaryOp .Mod) (rD X.K (rZ .mod)):=by
 rintro f s σ H x y v u Q I g h⟨F,d,e,r,sm,j,l,he,k⟩;replace he:vX d e=some r:=he;unfold vX at he;split at he;.obtain⟨h1,he⟩:=bz he;subst he;rw[j.int]at g;rw[l.int]at h;exact Sw f s σ H _ _ v u Q I g h ⟨_,_,rfl,rfl,h1,cj.cX sm (bL _) k⟩
 .cases he
theorem dX:gb X (binaryOp .Pow) (rD X.K (rZ .pow)):=by
 rintro f s σ H x y v u Q I g h⟨F,d,e,r,sm,j,l,he,k⟩;replace he:wB d e=some r:=he;unfold wB at he;split at he;.obtain⟨⟨h1,o,m⟩,he⟩:=bz he;subst he;rw[j.int]at g;rw[l.int]at h;exact Te f s σ H _ _ v u Q I g h ⟨_,_,rfl,rfl,⟨h1,by omega,m⟩,cj.cX sm (bL _) k⟩
 .cases he
theorem aq{o:Op}{op:Operator}(ho:gb X (binaryOp op) (rD X.K (rZ o)))(f:SX X c a pa)(g:SX X c b pb):SX X c (.BinOp a op b pos) (.bin o pa pb):=vJ (fun h1 h=>Y6 ho h1 h) f g (fun ρ=>rfl) rfl
theorem JF(j:SX X c a pa):SX X c (.UnaryOp .USub a pos) (.neg pa):=by refine QJ (f:=Iw) (fun h1=>XD ?_ h1) j (fun ρ=>rfl) rfl;rintro g s σ H x v Q I h⟨F,d,r,sm,l,he,k⟩;unfold Iw at he;obtain⟨i,m,o⟩:=map_some he;subst o;cases d<;>cases m;rw[l.int]at h;exact QQ g s σ H _ v Q I h ⟨_,rfl,cj.cX sm (bL _) k⟩
theorem Bm{f:Int->Int->Bool}(ho:gb X (compareOp op) (Kg fun i j=>.bl (f i j))):gb X (compareOp op) (rD X.K fun x y=>(Km f x y).map fun k=>.val (.bl k)):=by
 rintro g s σ H x y v u Q I l m⟨F,d,e,r,sm,o,q,he,k⟩;obtain⟨t,h,w⟩:=map_some (show(Km f d e).map _=some r from he);subst w;unfold Km at h;split at h;.cases h;rw[o.int]at l;rw[q.int]at m;exact ho g s σ H _ _ v u Q I l m ⟨_,_,rfl,rfl,cj.cX sm (fu _) k⟩
 .cases h
theorem zy{f:Int->Int->Bool}(ho:gb X (compareOp op) (Kg fun i j=>.bl (f i j))){o:Cm}(hc:cm o=Km f):gb X (compareOp op) (rD X.K (qD o)):=by
 have e:qD o=fun x y=>(Km f x y).map fun k=>.val (.bl k):=by funext x y;unfold qD;rw[hc]
 rw[e];exact Bm ho
theorem Uo:gb X (compareOp .Lt) (rD X.K fun x y=>(Km (fun i j=>decide (i<j)) x y).map fun k=>.val (.bl k)):=Bm Ye
theorem lL:gb X (compareOp .LtE) (rD X.K (qD .le)):=zy Yp rfl
theorem jF:gb X (compareOp .Gt) (rD X.K (qD .gt)):=zy Yg rfl
theorem Q3:gb X (compareOp .GtE) (rD X.K (qD .ge)):=zy Yl rfl
theorem Dp{d:D}(h:dC K F H v d):decide (v=.non)=jO d:=by cases d with
 |non=>rw[h.non];rfl|bl _=>rw[h.bl];rfl|int _=>rw[h.int];rfl|str _=>rw[h.str];rfl|tup _=>
   rcases h with h|⟨a,_,_,rfl,_⟩;.rw[Rep]at h;obtain⟨a,_,rfl,_⟩:=h;rfl
   .rfl|lst _=>
   rcases h with h|⟨a,_,_,rfl,_⟩;.rw[Rep]at h;obtain⟨a,_,rfl,_⟩:=h;rfl
   .rfl|eO _=>
   rcases h with h|⟨a,_,_,rfl,_⟩;.rw[Rep]at h;obtain⟨a,_,rfl,_⟩:=h;rfl
   .rfl|dv _ _=>
   rcases h with h|⟨a,_,_,rfl,_⟩;.rw[Rep]at h;obtain⟨a,_,_,rfl,_⟩:=h;rfl
   .rfl
theorem Mm:gb X (compareOp .IsNot) (rD X.K (qD .N8)):=by
 rintro f s σ H x y v u Q I h j⟨F,d,e,r,sm,l,m,he,k⟩;obtain⟨t,g,o⟩:=map_some (show(cmN true d e).map _=some r from he);subst o;unfold cmN at g;split at g;.cases g;exact Lr f s σ H x y v u Q I h j ⟨m.non,by rw[Dp l];exact cj.cX sm (fu _) k⟩
 .cases g
theorem jo{o:Cm}(ho:gb X (compareOp op) (rD X.K (qD o)))(f:SX X c a pa)(g:SX X c b pb)(h:behindInMarks op b=false):SX X c (.Compare a [op] [b] pos) (.cmp o pa pb):=vJ (fun h1 j=>M8 ho h1 j h) f g (fun ρ=>rfl) rfl
theorem yc{o E:Cm}{l:CmpOp}(ho:gb X (compareOp op) (rD X.K (qD o)))(A:gb X (compareOp l) (rD X.K (qD E)))(G:SX X c a pa)(I:SX X c b pb)(hd:SX X c d pd)(J:lastMarks [op,l] [b,d]=false:=by with_unfolding_all rfl):SX X c (.Compare a [op,l] [b,d] pos) (.chain o E pa pb pd):=by
 obtain⟨ta,tb,h1,L,M⟩:=G.iI I;obtain⟨td,N,O⟩:=hd.cC;refine⟨di (Gv ho A h1 L N J) ?_,fun i h=>by cases h⟩;rintro σ H Q⟨F,ρ,r,ρ',g,e,k⟩;rw[HH.E10]at e;obtain⟨m,U,W,e⟩:=aj e;obtain⟨t,Y,j,e⟩:=aj e;have Z:=aB j;clear j;obtain⟨j,B⟩:=Z;subst B;have f:flat m.2=true/\cm o m.1 m.2=some t:=by
  split at j;.rename_i hf;exact⟨hf,j⟩
  .cases j
 obtain⟨f,j⟩:=f;refine M g W fun v u F' H' s pv y=>⟨F',m.1,m.2,.val (.bl t),s.gs.sub,pv,y,by unfold qD;rw[j];rfl,fun w C H2 x q=>?_⟩;have s2:=s.trans (x.stp s.gs);have q:Rep X.K C w (.bl t):=q;rw[Rep]at q;subst q;refine⟨t,rfl,?_⟩;cases t with|false=>rw[if_neg Bool.false_ne_true]at e ⊢;cases e;exact k _ C H2 s2 (show Rep X.K C _ _ from fu _)|true=>
   rw[if_pos rfl]at e ⊢;obtain⟨z,ac,B,e⟩:=aj e;obtain⟨e4,e5⟩:=aB e;subst e5;refine O s2.gs B fun w F3 H3 s3 pw=>⟨F3,m.2,z,r,s3.gs.sub,?_,pw,e4,fun w' F4 H4 x4 q=>?_⟩
   . have x1:=x.fs;have x2:=s3.bN;rcases y with y|⟨_,_,_,_,_,_,h⟩;.exact .inl ((y.mono x1).mono x2)
     .rw[h]at f;cases f
   .have s4:=s2.trans s3;exact k w' F4 H4 (s4.trans (x4.stp s4.gs)) (.later s4 (q.nj s4.gs))
end
section
variable{X:Cx}{c:Call}{e a b d:Expr}{p pa pb pd:P}{pos:Pos}{rest:List Expr}
theorem mD{x:D}{k:Bool}(h:yO x=some k):x=.bl k:=by cases x<;>cases h;rfl
theorem cG{x:D}{k:Int}(h:iZ x=some k):x=.int k:=by cases x<;>cases h;rfl
theorem cM.bool{g j:Hp}{f:L2.St}{r:R}{k:Bool}(h:cM K g ρ' f j ρ σ H v r)(e:r.d=.bl k):v=.bl k:=by cases r with|val d=>cases(show d=.bl k from e);have h:Rep K g v (.bl k):=h;rw[Rep]at h;exact h|own ds=>cases e
def ST(X:Cx)(c:Call)(e:Expr)(p:P):Prop:=PT X e (Ed X.K (jc (HH.ev c p)))
def SW(X:Cx)(c:Call)(e:Expr)(p:P):Prop:=PW X e (Ed X.K (jc (HH.ev c p)))
theorem SW.st(h:SW X c e p):ST X c e p:=PW.pt h
theorem lN{t:TE}{Q:Bool->Hp->Prop}(hi:∀Q,sr X.K (HH.ev c p) σ H Q->t σ H Q)(h:Ed X.K (jc (HH.ev c p)) σ H Q):t σ H fun x l=>∃k,x=.bl k/\Q k l:=by obtain⟨F,ρ,k,ρ',g,e,q⟩:=h;obtain⟨r,j,m,f⟩:=aj e;have o:=aB f;clear f;obtain⟨f,u⟩:=o;subst u;exact hi _ ⟨F,ρ,r,j,g,m,fun v w y s z=>⟨k,z.bool (mD f),q w y s⟩⟩
theorem gC(h:SX X c e p)(he:∀f,isTrue e X.env f=(do let v<-f;standAt e.pos;holding [v] (truthy v)):=by intro _;rfl):ST X c e p:=wA (Qz h.ev he) fun σ H Q q=>lN (fun _ z=>z) q
theorem bW{o:Cm}(ho:gb X (compareOp op) (rD X.K (qD o)))(j:SX X c a pa)(l:SX X c b pb)(m:behindInMarks op b=false):ST X c (.Compare a [op] [b] pos) (.cmp o pa pb):=by obtain⟨y,A,h1,B,C⟩:=j.iI l;refine wA (Bk ho h1 B m) fun σ H Q q=>lN (t:=S9 (rD X.K (qD o)) y A) (fun Q z=>?_) q;obtain⟨F,ρ,r,ρ',g,e,k⟩:=z;rw[HH.E9]at e;obtain⟨h,E,G,f⟩:=aj e;have I:=aB f;clear f;obtain⟨f,J⟩:=I;subst J;refine C g G fun v u L Y s M N=>⟨L,h.1,h.2,r,s.gs.sub,M,N,f,fun w O U x W=>?_⟩;exact k w O U (s.trans (x.stp s.gs)) (.later s (W.nj s.gs))
theorem m9(l:ST X c a pa):ST X c (.UnaryOp .Not a pos) (.not pa):=by
 refine wA (RZ l) ?_;rintro σ H Q⟨F,ρ,k,ρ',g,e,q⟩;unfold jc at e;rw[HH.E6]at e;obtain⟨r,m,o,f⟩:=aj e;obtain⟨h,t,u,w⟩:=aj o;cases w;have y:=aB f;clear f;obtain⟨f,z⟩:=y;subst z;have f:(!h)=k:=by cases f;rfl
 exact⟨F,ρ,h,_,g,u,fun A j s=>by show Q (!h) j;rw[f];exact q A j s⟩
theorem Nj(ρ:List Sl):jc (HH.ev c (.and pa pb)) ρ=(jc (HH.ev c pa) ρ).bind fun x ρ=>if x then jc (HH.ev c pb) ρ else .ok false ρ:=by unfold jc;rw[HH.E7];unfold jc;cases HH.ev c pa ρ with|exc _ _=>rfl|stuck=>rfl|ok r f=>simp only[Res.bind];cases h:yO r.d with|none=>rfl|some k=>cases k with|false=>rfl|true=>simp only[lift,if_true];cases HH.ev c pb f with|exc _ _=>rfl|stuck=>rfl|ok g j=>simp only[Res.bind];cases h2:yO g.d with|none=>rfl|some l=>rfl
theorem S8(ρ:List Sl):jc (HH.ev c (.or pa pb)) ρ=(jc (HH.ev c pa) ρ).bind fun x ρ=>if x then .ok true ρ else jc (HH.ev c pb) ρ:=by unfold jc;rw[HH.E8];unfold jc;cases HH.ev c pa ρ with|exc _ _=>rfl|stuck=>rfl|ok r f=>simp only[Res.bind];cases h:yO r.d with|none=>rfl|some k=>cases k with|true=>rfl|false=>simp only[lift,false_eq_true,if_false];cases HH.ev c pb f with|exc _ _=>rfl|stuck=>rfl|ok g j=>simp only[Res.bind];cases h2:yO g.d with|none=>rfl|some l=>rfl
theorem uH(f:ST X c a pa):SW X c (.BoolOp .And [a] pos) pa:=Lk f
theorem yu(f:ST X c a pa):SW X c (.BoolOp .Or [a] pos) pa:=RX f
theorem zc(h:ST X c a pa)(j:SW X c (.BoolOp .And (b::rest) pos) pb):SW X c (.BoolOp .And (a::b::rest) pos) (.and pa pb):=by refine Pr (Vc h j) ?_;rintro σ H Q⟨F,ρ,k,ρ',g,e,q⟩;rw[Nj]at e;obtain⟨x,f,l,e⟩:=aj e;refine⟨F,ρ,x,f,g,l,fun F1 m s1=>?_⟩;cases x with|true=>rw[if_pos rfl]at e ⊢;exact⟨F1,f,k,ρ',s1.gs,e,fun o r s2=>q o r (s1.trans s2)⟩|false=>rw[if_neg Bool.false_ne_true]at e ⊢;cases e;exact q F1 m s1
theorem Ga(h:ST X c a pa)(j:SW X c (.BoolOp .Or (b::rest) pos) pb):SW X c (.BoolOp .Or (a::b::rest) pos) (.or pa pb):=by refine Pr (ZD h j) ?_;rintro σ H Q⟨F,ρ,k,ρ',g,e,q⟩;rw[S8]at e;obtain⟨x,f,l,e⟩:=aj e;refine⟨F,ρ,x,f,g,l,fun F1 m s1=>?_⟩;cases x with|true=>rw[if_pos rfl]at e ⊢;cases e;exact q F1 m s1|false=>rw[if_neg Bool.false_ne_true]at e ⊢;exact⟨F1,f,k,ρ',s1.gs,e,fun o r s2=>q o r (s1.trans s2)⟩
theorem Ri(j:SX X c a pa):SX X c (.UnaryOp .Not a pos) (.not pa):=by refine⟨di (RV j.ev) ?_,fun i h=>by cases h⟩;rintro σ H Q⟨F,ρ,r,ρ',g,e,k⟩;rw[HH.E6]at e;obtain⟨x,l,m,o⟩:=aj e;cases o;exact lN (c:=c) (fun _ z=>z) ⟨F,ρ,x,_,g,m,fun f q s=>k _ f q s (show Rep X.K f _ _ from fu _)⟩
theorem j6{op}(f:SX X c a pa):PE X (.BoolOp op [a] pos) (sr X.K (HH.ev c pa)):=UL f.ev
theorem il(o:SX X c a pa)(q:PE X (.BoolOp .And (b::rest) pos) (sr X.K (HH.ev c pb))):SX X c (.BoolOp .And (a::b::rest) pos) (.and pa pb):=by refine⟨di (S6 o.ev q) ?_,fun i h=>by cases h⟩;rintro σ H Q⟨F,ρ,r,ρ',g,e,k⟩;rw[HH.E7]at e;obtain⟨x,f,s,e⟩:=aj e;refine lN (c:=c) (fun _ z=>z) (Q:=fun x j=>if x=true then sr X.K (HH.ev c pb) σ j Q else Q (.bl false) j) ⟨F,ρ,x,f,g,s,fun F1 j s1=>?_⟩;cases x with|true=>rw[if_pos rfl]at e ⊢;obtain⟨y,t,u,w⟩:=aj e;cases w;obtain⟨A,B,C,l⟩:=aj u;have E:=aB l;clear l;obtain⟨l,G⟩:=E;subst G;refine⟨F1,f,A,_,s1.gs,C,fun v m I s2 J=>?_⟩;rw[J.bool (mD l)];exact k _ m I (s1.trans s2) (show Rep X.K m _ _ from fu _)|false=>rw[if_neg Bool.false_ne_true]at e ⊢;cases e;exact k _ F1 j s1 (show Rep X.K F1 _ _ from fu _)
theorem Yr(o:SX X c a pa)(q:PE X (.BoolOp .Or (b::rest) pos) (sr X.K (HH.ev c pb))):SX X c (.BoolOp .Or (a::b::rest) pos) (.or pa pb):=by refine⟨di (Hd o.ev q) ?_,fun i h=>by cases h⟩;rintro σ H Q⟨F,ρ,r,ρ',g,e,k⟩;rw[HH.E8]at e;obtain⟨x,f,s,e⟩:=aj e;refine lN (c:=c) (fun _ z=>z) (Q:=fun x j=>if x=true then Q (.bl true) j else sr X.K (HH.ev c pb) σ j Q) ⟨F,ρ,x,f,g,s,fun F1 j s1=>?_⟩;cases x with|true=>rw[if_pos rfl]at e ⊢;cases e;exact k _ F1 j s1 (show Rep X.K F1 _ _ from fu _)|false=>rw[if_neg Bool.false_ne_true]at e ⊢;obtain⟨y,t,u,w⟩:=aj e;cases w;obtain⟨A,B,C,l⟩:=aj u;have E:=aB l;clear l;obtain⟨l,G⟩:=E;subst G;refine⟨F1,f,A,_,s1.gs,C,fun v m I s2 J=>?_⟩;rw[J.bool (mD l)];exact k _ m I (s1.trans s2) (show Rep X.K m _ _ from fu _)
theorem vA(hc:ST X c e p)(w:SX X c a pa)(y:SX X c b pb):SX X c (.IfExp e a b pos) (.Ql p pa pb):=by refine⟨di (Ik hc w.ev y.ev) ?_,fun i h=>by cases h⟩;rintro σ H Q⟨F,ρ,r,ρ',g,e,k⟩;rw[HH.E11]at e;obtain⟨x,f,z,e⟩:=aj e;refine⟨F,ρ,x,f,g,z,fun F1 B s1=>?_⟩;cases x with|true=>rw[if_pos rfl]at e ⊢;obtain⟨j,l,m,o⟩:=aj e;cases o;refine⟨F1,f,j,_,s1.gs,m,fun v A q s2 s=>?_⟩;obtain⟨t,s3,_,u⟩:=s2.dj s;exact k v t q (s1.trans s3) u|false=>rw[if_neg Bool.false_ne_true]at e ⊢;obtain⟨j,l,m,o⟩:=aj e;cases o;refine⟨F1,f,j,_,s1.gs,m,fun v A q s2 s=>?_⟩;obtain⟨t,s3,_,u⟩:=s2.dj s;exact k v t q (s1.trans s3) u
theorem vK:∀{ps:List P}{ρ ρ':List Sl}{ds:List D},evs c ps ρ=.ok ds ρ'->ds.length=ps.length|[],_,_,_,h=>by rw[evs]at h;cases h;rfl|p::ps,_,_,_,h=>by rw[evs]at h;obtain⟨r,f,_,h⟩:=aj h;obtain⟨xs,g,j,h⟩:=aj h;cases h;simp[vK j]
theorem aU:SA X c [] []:=⟨qF cW fun σ H Q⟨F,ρ,ds,ρ',g,e,k⟩=>by rw[evs]at e;cases e;exact k [] F H (.refl g) .nil,rfl⟩
theorem pQ{ps:List P}(h:SX X c a pa)(hr:SA X c es ps)(hs:starEach (a::es) X.env=(false,eval a X.env)::starEach es X.env:=by rfl):SA X c (a::es) (pa::ps):=by refine⟨qF (bC h.ev hr.1 hs) ?_,by simp[hr.2]⟩;rintro σ H Q⟨F,ρ,ds,ρ',g,e,k⟩;rw[evs]at e;obtain⟨r,f,j,e⟩:=aj e;obtain⟨xs,l,m,e⟩:=aj e;cases e;refine⟨F,ρ,r,f,g,j,fun v y z s o=>?_⟩;obtain⟨F1,s1,_,q⟩:=s.dj o;refine⟨F1,f,xs,_,s1.gs,m,fun vs t u s2 w=>?_⟩;exact k _ t u (s1.trans s2) (.cons (q.mono s2.bN) w)
theorem Ext.K6{h j:Hp}{Q:VK}{xs:List V}(s:aC K j ρ σ h F ρ' σ H)(r:aG K F xs ds)(k:∀v g f,aC K j ρ σ h g ρ' σ f->cM K g ρ' σ f ρ σ h v (.val (.tup ds))->Q v f)(p:Addr)(l:H p=none):Q (.ref p) (upd H p (.tup xs)):=zX s.gs.sub r l fun v g f x m=>k v g f (s.trans (x.stp s.gs)) m
theorem cH{ps:List P}{x1}(h:SA X c es ps)(hz:ps.length<=sizeLine:=by decide):SX X c (.Tuple es x1 pos) (.tup ps):=by refine⟨di (GD h.1) ?_,fun i h=>by cases h⟩;rintro σ H Q⟨F,ρ,r,ρ',g,e,k⟩;rw[HH.E12]at e;obtain⟨ds,l,f,e⟩:=aj e;cases e;exact⟨F,ρ,ds,_,g,f,fun vs o q s j=>⟨by rw[j.length,vK f];exact hz,fun p m=>Ext.K6 s j k p m⟩⟩
theorem cP{ps:List P}(h:SA X c es ps)(hz:ps.length<=sizeLine:=by decide):SX X c (.List es pos) (.lst ps):=by refine⟨di (TJ h.1) ?_,fun i h=>by cases h⟩;rintro σ H Q⟨F,ρ,r,ρ',g,e,k⟩;rw[HH.E13]at e;obtain⟨ds,l,f,e⟩:=aj e;cases e;exact⟨F,ρ,ds,_,g,f,fun vs u w s j=>⟨by rw[j.length,vK f];exact hz,fun p m=>wW s.gs.sub j m fun v o q x t=>k v o q (s.trans (x.stp s.gs)) (.later s (t.nj s.gs))⟩⟩
theorem HS{i:Int}{d:D}(h:at' ds i=some d):∃j,L2.jM ds.length i=some j/\ds[j]?=some d:=bV h
theorem aeB:IxR X (rD X.K NQ):=by
 rintro f slice g s σ H x y v u Q I m l⟨F,d,e,r,sm,t,A,he,k⟩hs;unfold NQ at he;obtain⟨ds,B,he⟩:=bV he;obtain⟨i,C,he⟩:=bV he;obtain⟨z,E,he⟩:=map_some he;subst he;cases cG C;rw[A.int]at l;obtain⟨p,xs,rfl,hq,o⟩:=t.items sm B;obtain⟨j,h1,G⟩:=HS E;obtain⟨w,J,q⟩:=o.get G;have h:Ht xs i=some w:=by unfold Ht;rw[o.length,h1];exact J
 rcases hq with hq|hq;.exact De f slice g s σ H _ _ v u Q I m l ⟨p,xs,i,w,rfl,rfl,hq,h,cj.cX sm q k⟩ hs
 .exact Tz f slice g s σ H _ _ v u Q I m l ⟨p,xs,i,w,rfl,rfl,hq,h,cj.cX sm q k⟩ hs
theorem au(g:SX X c a pa)(h:SX X c b pb)(hs:uM b:=by intro _ _;rfl):SX X c (.Subscript a b pos) (.idx pa pb):=vJ (f:=NQ) (fun h1 j=>PQ aeB h1 j hs) g h (fun ρ=>rfl) rfl
def Ly(K:PySem.W.Frag)(f:D->Option R):List V->Hp->VK->Prop:=fun xs H Q=>∃x,xs=[x]/\rD1 K f x H Q
theorem oW{E:Expr}{f:D->Option R}{q:P}(l:∀{t},PA X [a] t->PE X E (tCB (Ly X.K f) t))(m:SX X c a pa)(o:∀ρ,HH.ev c q ρ=(HH.cC (isVar pa) (HH.ev c pa) ρ).bind fun x ρ=>lift (f x) ρ)(u:isVar q=none)(hs:starEach [a] X.env=(false,eval a X.env)::starEach [] X.env:=by rfl):SX X c E q:=by obtain⟨N,h1,y⟩:=m.cC;refine⟨di (l (bC h1 cW hs)) ?_,fun i h=>by rw[u]at h;cases h⟩;rintro σ H Q⟨F,ρ,r,ρ',g,e,k⟩;rw[o]at e;obtain⟨x,z,A,j⟩:=aj e;have B:=aB j;clear j;obtain⟨j,C⟩:=B;subst C;refine y g A fun v G O s I=>⟨v,rfl,G,x,r,s.gs.sub,I,j,fun w J L x M=>?_⟩;exact k w J L (s.trans (x.stp s.gs)) (.later s (M.nj s.gs))
theorem Yj:dI X (.builtin "len") (Ly X.K fun x=>blt .len [x]):=by rintro f s σ H xs g Q I r⟨x,h,F,d,j,sm,l,he,k⟩;obtain⟨ds,m,he⟩:=map_some (show(items d).map _=some j from he);subst he;obtain⟨p,ys,rfl,o,q⟩:=l.items sm m;exact u9 f s σ H xs g Q I r ⟨p,ys,h,o,by rw[q.length];exact cj.cX sm (bL _) k⟩
theorem R4:dI X (.type "list") (Ly X.K fun x=>blt .list [x]):=by rintro f s σ H xs g Q I r⟨x,h,F,d,j,sm,m,he,k⟩;obtain⟨ds,o,he⟩:=map_some (show(items d).map _=some j from he);subst he;obtain⟨p,ys,rfl,q,t⟩:=m.items sm o;exact uQ f s σ H xs g Q I r ⟨p,ys,h,q,fun l u=>wW sm t u k⟩
theorem Mw:dI X (.type "tuple") (Ly X.K fun x=>blt .tuple [x]):=by rintro f s σ H xs j Q I r⟨x,m,F,d,t,sm,o,he,k⟩;obtain⟨ds,g,he⟩:=map_some (show(items d).map _=some t from he);subst he;cases d with|tup es=>cases g;obtain⟨a,ys,rfl,h,q,rt⟩:=o.tup sm;exact lr f s σ H xs j Q I r ⟨a,ys,m,.inr ⟨h,cj.cX sm rt k⟩⟩|lst es=>cases g;obtain⟨a,ys,rfl,h,q⟩:=o.lst sm;exact lr f s σ H xs j Q I r ⟨a,ys,m,.inl ⟨h,fun l u=>zX sm q u k⟩⟩|_=>cases g
theorem cN(f:x="len")(g:Gl X x)(j:X.mg x=none)(k:SX X c a pa)(hs:starEach [a] X.env=(false,eval a X.env)::starEach [] X.env:=by rfl):SX X c (.Call (.Name x p') [a] [] pos) (.blt .len [pa]):=by subst f;exact oW (fun h=>dO Yj g j PySem.boot_len h (he:=hs)) k (fun ρ=>rfl) rfl hs
theorem Lq(f:x="list")(g:Gl X x)(j:X.mg x=none)(k:SX X c a pa)(hs:starEach [a] X.env=(false,eval a X.env)::starEach [] X.env:=by rfl):SX X c (.Call (.Name x p') [a] [] pos) (.blt .list [pa]):=by subst f;exact oW (fun h=>oA R4 g j (by decide+kernel) h (he:=hs)) k (fun ρ=>rfl) rfl hs
theorem jE(f:x="tuple")(g:Gl X x)(j:X.mg x=none)(k:SX X c a pa)(hs:starEach [a] X.env=(false,eval a X.env)::starEach [] X.env:=by rfl):SX X c (.Call (.Name x p') [a] [] pos) (.blt .tuple [pa]):=by subst f;exact oW (fun h=>oA Mw g j (by decide+kernel) h (he:=hs)) k (fun ρ=>rfl) rfl hs
end
def Kr(K:PySem.W.Frag)(np:Nat)(f:List Sl->Res R):Sp:=fun vs H Q _=>vs.length=np/\∃F args r a,GS K F args (vs.map some) H/\f args=.ok r a/\∀v e b c,aC K F args (vs.map some) H e a b c->cM K e a b c args (vs.map some) H v r->Q v c
section
variable{K:PySem.W.Frag}
def zU(K:PySem.W.Frag)(F:Hp)(ρ:List Sl)(σ:L2.St)(H:Hp)(ρ₀:List Sl)(H₀:Hp)(v:V):Arg->Prop|.dat d=>Rep K F v d|.tmp ds=>∃x xs,v=.ref x/\H x=some (.lst xs)/\F x=none/\aG K F xs ds/\¬ Own ρ σ x/\(Own ρ₀ σ x\/H₀ x=none)|.fP i=>σ[i]?=some (some v)
structure xZ(K:PySem.W.Frag)(F:Hp)(ρ:List Sl)(σ:L2.St)(H:Hp)(ρ₀:List Sl)(H₀:Hp)(as:List Arg)(vs:List V):Prop where
 len:as.length=vs.length
 one:∀(j:Nat)(a:Arg)(v:V),as[j]?=some a->vs[j]?=some v->zU K F ρ σ H ρ₀ H₀ v a
 dis:∀(j k:Nat)(ds es:List D)(x:Addr),as[j]?=some (.tmp ds)->as[k]?=some (.tmp es)->vs[j]?=some (.ref x)->vs[k]?=some (.ref x)->j=k
theorem zU.later{b f:Hp}{a:Arg}(s:aC K F ρ σ H b ρ' σ f)(h:zU K F ρ σ H ρ₀ H₀ v a):zU K b ρ' σ f ρ₀ H₀ v a:=by cases a with|dat d=>exact Rep.mono s.bN h|fP i=>exact h|tmp ds=>
   obtain⟨x,xs,h1,c,g,j,e,k⟩:=h;refine⟨x,xs,h1,s.keep x _ c e,?_,j.mono s.bN,fun o=>?_,k⟩;.cases q:b x with|none=>rfl|some o=>
       rcases s.yh x g (by rw[q];simp)with z|z;.exact absurd z e
       .exact(Hn c z).elim
   . rcases s.vW x o with z|z;.exact e z
     .rw[c]at z;cases z
theorem xZ.nil:xZ K F ρ σ H ρ₀ H₀ [] []:=⟨rfl,fun j a v h=>by simp at h,fun j k ds es x h=>by simp at h⟩
theorem xZ.cons{F H H₀:Hp}{ρ ρ₀:List Sl}{σ:L2.St}{a:Arg}{v:V}{as:List Arg}{vs:List V}(h:zU K F ρ σ H ρ₀ H₀ v a)(t:xZ K F ρ σ H ρ₀ H₀ as vs)(hd:∀ds x,a=.tmp ds->v=.ref x->∀(k:Nat)es,as[k]?=some (.tmp es)->vs[k]?≠some (.ref x)):xZ K F ρ σ H ρ₀ H₀ (a::as) (v::vs):=by
 refine⟨by simp[t.len],fun j b u h1 c=>?_,fun j k ds es x h1 c e f=>?_⟩;.cases j with|zero=>simp at h1 c;subst h1;subst c;exact h|succ j=>exact t.one j b u (by simpa using h1) (by simpa using c)
 .cases j with
   |zero=>cases k with|zero=>rfl|succ k=>simp at h1 e;exact absurd (by simpa using f) (hd ds x h1 e k es (by simpa using c))
   |succ j=>cases k with|zero=>simp at c f;exact absurd (by simpa using e) (hd es x c f j ds (by simpa using h1))|succ k=>rw[t.dis j k ds es x (by simpa using h1) (by simpa using c) (by simpa using e) (by simpa using f)]
def Ia(ρ:List Sl):Arg->Sl->Prop|.dat d,s=>s=.val false d|.tmp ds,s=>s=.own false ds|.fP i,s=>(∃b d,ρ[i]?=some (.val b d)/\s=.val false d)\/(∃b ds,ρ[i]?=some (.own b ds)/\s=.own true ds)\/∃ds,ρ[i]?=some (.lent ds)/\s=.lent ds
theorem qW{ρ:List Sl}:∀{as:List Arg}{c:List Nat}{args:List Sl},bU ρ as c=some args->args.length=as.length/\(∀(j:Nat)(a:Arg)(s:Sl),as[j]?=some a->args[j]?=some s->Ia ρ a s)/\(∀(j:Nat)(i:Nat)(s:Sl)ds,as[j]?=some (.fP i)->args[j]?=some s->lst? s=some ds->i∉c)/\(∀(j k:Nat)(i:Nat)(s t:Sl)ds es,as[j]?=some (.fP i)->as[k]?=some (.fP i)->args[j]?=some s->args[k]?=some t->lst? s=some ds->lst? t=some es->j=k)
 |[],c,args,h=>by rw[bU]at h;cases h;exact⟨rfl,fun j a s h=>by simp at h,fun j i s ds h=>by simp at h,fun j k i s t ds es h=>by simp at h⟩|a::as,c,args,h=>by--the afB slot,the afC
   have key:∃s0 r u,args=s0::r/\bU ρ as u=some r/\Ia ρ a s0/\((∃i ds,a=.fP i/\lst? s0=some ds/\u=i::c/\i∉c)\/((∀i ds,a=.fP i->lst? s0≠some ds)/\u=c)):=by cases a with|dat d=>rw[bU]at h;obtain⟨r,g,l⟩:=map_some h;exact⟨_,r,c,l.symm,g,rfl,.inr ⟨fun i ds z=>(by cases z),rfl⟩⟩|tmp d=>rw[bU]at h;obtain⟨r,g,l⟩:=map_some h;exact⟨_,r,c,l.symm,g,rfl,.inr ⟨fun i ds z=>(by cases z),rfl⟩⟩|fP i=>
      rw[bU]at h;split at h;.rename_i b d q;obtain⟨r,g,l⟩:=map_some h;exact⟨_,r,c,l.symm,g,.inl ⟨b,d,q,rfl⟩,.inr ⟨fun _ _ _ z=>(by cases z),rfl⟩⟩
      . rename_i b ds q;split at h;.cases h
        .rename_i o;obtain⟨r,g,l⟩:=map_some h;exact⟨_,r,_,l.symm,g,.inr (.inl ⟨b,ds,q,rfl⟩),.inl ⟨i,_,rfl,rfl,rfl,by simpa using o⟩⟩
      . rename_i ds q;split at h;.cases h
        .rename_i o;obtain⟨r,g,l⟩:=map_some h;exact⟨_,r,_,l.symm,g,.inr (.inr ⟨ds,q,rfl⟩),.inl ⟨i,_,rfl,rfl,rfl,by simpa using o⟩⟩
      .cases h
   obtain⟨s0,r,u,rfl,hr,A,o⟩:=key;obtain⟨M,l2,B,N⟩:=qW hr;have sub:∀i,i∉u->i∉c:=fun i hi J=>by
    rcases o with⟨_,_,_,_,rfl,_⟩|⟨_,rfl⟩;.exact hi (mem_cons_of_mem _ J)
    .exact hi J
   refine⟨by simp[M],fun j b s h1 f=>?_,fun j i s ds h1 f p=>?_,fun j k i s t ds es h1 f p y C E=>?_⟩;.cases j with|zero=>simp at h1 f;subst h1;subst f;exact A|succ j=>exact l2 j b s (by simpa using h1) (by simpa using f)
   .cases j with|zero=>
       simp at h1 f;subst h1;subst f;rcases o with⟨L,_,e,_,_,m⟩|⟨m,_⟩;.cases e;exact m
       .exact absurd p (m i ds rfl)|succ j=>exact sub i (B j i s ds (by simpa using h1) (by simpa using f) p)
   . have O:∀(k:Nat)(t:Sl)es,a=.fP i->lst? s0=some ds->(as[k]?=some (.fP i))->r[k]?=some t->lst? t=some es->False:=fun k t es w G I ht he=>by
      rcases o with⟨L,_,e,_,rfl,m⟩|⟨m,_⟩;.rw[w]at e;cases e;exact B k i t es I ht he mem_cons_self
      .exact m i ds w G
     have Q:∀(k:Nat)(t:Sl)es,a=.fP i->lst? s0=some es->(as[k]?=some (.fP i))->r[k]?=some t->lst? t=some ds->False:=fun k t es w G I ht he=>by
      rcases o with⟨L,_,e,_,rfl,m⟩|⟨m,_⟩;.rw[w]at e;cases e;exact B k i t ds I ht he mem_cons_self
      .exact m i es w G
     cases j with
     |zero=>cases k with|zero=>rfl|succ k=>simp at h1 p;subst p;exact(O k t es h1 C (by simpa using f) (by simpa using y) E).elim
     |succ j=>cases k with|zero=>simp at f y;subst y;exact(Q j s es f E (by simpa using h1) (by simpa using p) C).elim|succ k=>rw[N j k i s t ds es (by simpa using h1) (by simpa using f) (by simpa using p) (by simpa using y) C E]
theorem xZ.get(A:xZ K F ρ σ H ρ₀ H₀ as vs){args:List Sl}{j:Nat}{s:Sl}(c:args.length=as.length)(h:args[j]?=some s):∃a v,as[j]?=some a/\vs[j]?=some v/\zU K F ρ σ H ρ₀ H₀ v a:=by
 have e:j<args.length:=(dB h).1;have h1:j<as.length:=by omega
 have b:j<vs.length:=by rw[<-A.len];exact h1
 exact⟨as[j],vs[j],by simp[h1],by simp[b],A.one j _ _ (by simp[h1]) (by simp[b])⟩
theorem args_gs{args:List Sl}(g:GS K F ρ σ H)(A:xZ K F ρ σ H ρ₀ H₀ as vs)(h:bU ρ as []=some args):GS K F args (vs.map some) H:=by
 obtain⟨I,l2,l3,Z⟩:=qW h;have M:∀{j:Nat}{v:V},vs[j]?=some v->(vs.map some)[j]?=some (some v):=fun e=>by rw[getElem?_map,e];rfl
 have dn:∀{j:Nat}{v:V},(vs.map some)[j]?=some (some v)->vs[j]?=some v:=fun{j v}e=>by rw[getElem?_map]at e;cases q:vs[j]?with|none=>rw[q]at e;cases e|some w=>rw[q]at e;cases e;rfl
 refine⟨g.sub,by rw[I,A.len,length_map],fun j b d e=>?_,fun j s ds e J=>?_,fun j k x⟨⟨s,ds,e1,e2⟩,N⟩⟨⟨t,es,f1,f2⟩,f3⟩=>?_⟩;.obtain⟨a,v,h1,u,m⟩:=A.get I e;have B:=l2 j a _ h1 e;refine⟨v,M u,?_⟩;cases a with|dat d'=>cases B;exact m|tmp ds=>cases B|fP i=>
     rcases B with⟨O,d',r,c⟩|⟨_,_,_,c⟩|⟨_,_,c⟩;.cases c;obtain⟨w,f,p⟩:=g.val i O d r;have m:σ[i]?=some (some v):=m;rw[m]at f;cases f;exact p
     .cases c
     .cases c
 .obtain⟨a,v,h1,u,m⟩:=A.get I e;have B:=l2 j a _ h1 e;cases a with|dat d'=>cases B;cases J|tmp es=>cases B;cases J;obtain⟨x,xs,rfl,c,f,p,_⟩:=m;exact⟨x,_,M u,c,f,xs,rfl,p⟩|fP i=>
     have m:σ[i]?=some (some v):=m;rcases B with⟨O,d',r,c⟩|⟨O,es,r,c⟩|⟨es,r,c⟩;.cases c;cases J
     .cases c;cases J;obtain⟨x,xs,f,p⟩:=g.own i _ _ r rfl;rw[m]at f;cases f;exact⟨x,xs,M u,p⟩
     .cases c;cases J;obtain⟨x,xs,f,p⟩:=g.own i _ _ r rfl;rw[m]at f;cases f;exact⟨x,xs,M u,p⟩
 . obtain⟨a,v,h1,u,m⟩:=A.get I e1;obtain⟨Q,v',C,L,E⟩:=A.get I f1;have N:=dn N;have f3:=dn f3;rw[u]at N;cases N;rw[L]at f3;cases f3;have s1:=l2 j a _ h1 e1;have s2:=l2 k Q _ C f1;have U:∀{i:Nat}{s:Sl}{ds:Oc},lst? s=some ds->Ia ρ (.fP i) s->∃G o,ρ[i]?=some G/\lst? G=some o:=fun{i s ds}l z=>by
    rcases z with⟨_,_,_,z⟩|⟨b,es,q,_⟩|⟨es,q,_⟩;.subst z;cases l
    .exact⟨_,_,q,rfl⟩
    .exact⟨_,_,q,rfl⟩
   cases a with
   |dat d=>cases s1;cases e2|tmp Vh=>cases Q with|dat d=>cases s2;cases f2|tmp Y=>exact A.dis j k Vh Y x h1 C u L|fP i=>obtain⟨y,_,r,_,_,_,c,_⟩:=m;cases r;obtain⟨G,o,f,p⟩:=U f2 s2;exact absurd ⟨i,⟨G,o,f,p⟩,E⟩ c
   |fP i=>obtain⟨G,o,f,p⟩:=U e2 s1;cases Q with|dat d=>cases s2;cases f2|tmp Y=>obtain⟨y,_,r,_,_,_,c,_⟩:=E;cases r;exact absurd ⟨i,⟨G,o,f,p⟩,m⟩ c|fP i'=>obtain⟨W,X,q5,q6⟩:=U f2 s2;have:=g.dis i i' x ⟨⟨G,o,f,p⟩,m⟩ ⟨⟨W,X,q5,q6⟩,E⟩;subst this;exact Z j k i s t ds es h1 C e1 f1 e2 f2
theorem nU{as:List Arg}{ss:List Sl}:∀(ρ:List Sl)(n i:Nat),(dq as ss n ρ)[i]?=(ρ[i]?).map fun s=>fB s (bf (n+i) as ss)
 |[],n,i=>by simp[dq]|s::ρ,n,0=>by simp[dq]|s::ρ,n,i+1=>by
   rw[dq];simp only[getElem?_cons_succ];rw[nU ρ (n+1) i];have:n+1+i=n+(i+1):=by omega
   rw[this]
theorem nu{as:List Arg}{ss:List Sl}:∀(ρ:List Sl)(n:Nat),(dq as ss n ρ).length=ρ.length|[],n=>rfl|s::ρ,n=>by rw[dq];simp[nu ρ]
theorem jb{i:Nat}:∀{as:List Arg}{ss:List Sl}{t:Sl},bf i as ss=some t->∃j:Nat,as[j]?=some (.fP i)/\ss[j]?=some t
 |[],_,_,h=>by simp[bf]at h|a::as,[],_,h=>by cases a<;>simp[bf]at h|a::as,s::ss,t,h=>by
   have b:bf i as ss=some t->∃j:Nat,(a::as)[j]?=some (.fP i)/\(s::ss)[j]?=some t:=fun h=>by obtain⟨j,h1,c⟩:=jb h;exact⟨j+1,by simpa using h1,by simpa using c⟩
   cases a with|dat d=>exact b (by simpa[bf]using h)|tmp d=>exact b (by simpa[bf]using h)|fP k=>
     rw[bf]at h;split at h;.rename_i e;cases h;subst e;exact⟨0,rfl,rfl⟩
     .exact b h
theorem lO{i:Nat}:∀{as:List Arg}{ss:List Sl},as.length=ss.length->bf i as ss=none->∀j:Nat,as[j]?≠some (.fP i)
 |[],_,_,_=>fun j h=>by simp at h|a::as,[],b,_=>by simp at b|a::as,s::ss,b,h=>fun j c=>by
   have f:as.length=ss.length:=by simpa using b
   have g:bf i as ss=none/\a≠.fP i:=by cases a with|dat d=>exact⟨by simpa[bf]using h,by simp⟩|tmp d=>exact⟨by simpa[bf]using h,by simp⟩|fP k=>
      rw[bf]at h;split at h;.cases h
      .rename_i l;exact⟨h,fun e=>l (by cases e;rfl)⟩
   cases j with|zero=>simp at c;exact g.2 c|succ j=>exact lO f g.1 j (by simpa using c)
theorem Jx{Q X H':Hp}{args c:List Sl}{Y:L2.St}(s0:aC K Q ρ₀ σ H₀ F ρ σ H)(A:xZ K F ρ σ H ρ₀ H₀ as vs)(hb:bU ρ as []=some args)(s:aC K F args (vs.map some) H X c Y H'):aC K Q ρ₀ σ H₀ X (dq as c 0 ρ) σ H'/\∀v r,cM K X c Y H' args (vs.map some) H v r->cM K X (dq as c 0 ρ) σ H' ρ₀ σ H₀ v r:=by
 have g:=s0.gs;obtain⟨M,l2,l3,l4⟩:=qW hb;have up:∀{j:Nat}{v:V},vs[j]?=some v->(vs.map some)[j]?=some (some v):=fun e=>by rw[getElem?_map,e];rfl
 have dn:∀{j:Nat}{v:V},(vs.map some)[j]?=some (some v)->vs[j]?=some v:=fun{j v}e=>by rw[getElem?_map]at e;cases q:vs[j]?with|none=>rw[q]at e;cases e|some w=>rw[q]at e;cases e;rfl
 have la:as.length=c.length:=by rw[s.len,M]--whose are the lists that the callee holds
 have own:∀b,Own args (vs.map some) b->(∃(j:Nat)(ds:List D),as[j]?=some (Arg.tmp ds)/\vs[j]?=some (V.ref b)/\¬ Own ρ σ b/\(Own ρ₀ σ b\/H₀ b=none))\/Own ρ σ b:=fun b⟨j,⟨sl,ds,E,U⟩,e3⟩=>by obtain⟨a,v,h1,C,J⟩:=A.get M E;have s1:=l2 j a _ h1 E;have e3:=dn e3;rw[C]at e3;cases e3;cases a with|dat d=>cases s1;cases U|tmp es=>obtain⟨x,_,k,_,_,_,f,N⟩:=J;cases k;exact .inl ⟨j,es,h1,C,f,N⟩|fP i=>
    right;rcases s1 with⟨_,_,_,z⟩|⟨b',es,q,_⟩|⟨es,q,_⟩;.subst z;cases U
    .exact⟨i,⟨_,_,q,rfl⟩,J⟩
    .exact⟨i,⟨_,_,q,rfl⟩,J⟩
 have back:∀b,Own ρ σ b\/H b=none->Own ρ₀ σ b\/H₀ b=none:=fun b h=>by
  rcases h with h|h;.exact s0.vW b h
  . by_cases ho:Own ρ₀ σ b;.exact .inl ho
    .right;cases e:H₀ b with|none=>rfl|some o=>rw[s0.keep b o e ho]at h;cases h
 have L:∀b,Own args (vs.map some) b->Own ρ₀ σ b\/H₀ b=none:=fun b h=>by
  rcases own b h with⟨_,_,_,_,_,z⟩|z;.exact z
  .exact back b (.inl z)--a name's slot behind the call
 have slot:∀{i:Nat}{t:Sl},(dq as c 0 ρ)[i]?=some t->∃s1,ρ[i]?=some s1/\t=fB s1 (bf i as c):=fun{i t}h=>by rw[nU]at h;obtain⟨s1,E,U⟩:=map_some h;exact⟨s1,E,by rw[<-U,Nat.zero_add]⟩
 have Z8:∀{i:Nat}{s1:Sl},ρ[i]?=some s1->(dq as c 0 ρ)[i]?=some (fB s1 (bf i as c)):=fun{i s1}h=>by rw[nU,h,Nat.zero_add];rfl--what the callee left of a list that was lent to it
 have lent:∀{i j:Nat}{s1 t:Sl}{ds:List D},ρ[i]?=some s1->lst? s1=some (.l ds)->as[j]?=some (.fP i)->c[j]?=some t->∃v s2,σ[i]?=some (some v)/\Y[j]?=some (some v)/\args[j]?=some s2/\mF s2 t/\((∃b,s1=.own b ds/\s2=.own true ds)\/(s1=.lent ds/\s2=.lent ds)):=fun{i j s1 t ds}h1 C J h4=>by
  have Z:j<args.length:=by rw[M];exact(dB J).1
  have E:args[j]?=some args[j]:=by simp[Z]
  obtain⟨a,v,k,f,N⟩:=A.get M E;rw[J]at k;cases k;have q4:=l2 j _ _ J E;have kind:(∃b,s1=.own b ds/\args[j]=.own true ds)\/(s1=.lent ds/\args[j]=.lent ds):=by
   rcases q4 with⟨_,_,z,_⟩|⟨b,es,z,z'⟩|⟨es,z,z'⟩;.rw[h1]at z;cases z;cases C
   .rw[h1]at z;cases z;cases C;exact .inl ⟨b,rfl,z'⟩
   .rw[h1]at z;cases z;cases C;exact .inr ⟨rfl,z'⟩
  have lk:tY args[j]=true:=by rcases kind with⟨_,_,z⟩|⟨_,z⟩<;>rw[z]<;>rfl
  obtain⟨u,s',y,z3⟩:=s.lk j _ E lk;rw[h4]at y;cases y;exact⟨v,_,N,by rw[u];exact up f,E,z3,kind⟩
 have Od:∀{i:Nat}{x:Addr},aZ (dq as c 0 ρ) σ i x->aZ ρ σ i x:=fun{i x}⟨⟨t,ds,E,U⟩,e3⟩=>by obtain⟨s1,k,f⟩:=slot E;refine⟨?_,e3⟩;cases s1 with|aQ=>subst f;cases U|val b d=>subst f;cases U|own b es=>exact⟨_,_,k,rfl⟩|lent es=>exact⟨_,_,k,rfl⟩|gQ m=>exact⟨_,_,k,rfl⟩|cF m=>exact⟨_,_,k,rfl⟩|hold _=>subst f;cases U
 refine⟨?_,fun v r h=>?_⟩;rotate_left;.cases r with|val d=>exact h|own ds=>
     obtain⟨x,xs,h1,C,J,h4,h5,h6⟩:=h;refine⟨x,xs,h1,C,J,h4,fun⟨i,h⟩=>?_,?_⟩
     . have hO:=Od h;obtain⟨⟨s1,Vh,k,f⟩,N⟩:=hO;obtain⟨x',ah,w1,w2,_⟩:=g.own i s1 Vh k f;rw[N]at w1;cases w1;rcases h6 with h6|h6
       . rcases own x h6 with⟨_,_,_,_,z,_⟩|_;.exact z ⟨i,⟨s1,Vh,k,f⟩,N⟩
         .--a name was lent
           obtain⟨j,⟨sl,es,w3,w4⟩,w5⟩:=h6;obtain⟨a',v',G,O,y3⟩:=A.get M w3;have sa:=l2 j a' _ G w3;have w5:=dn w5;rw[O]at w5;cases w5;cases a' with|dat d=>cases sa;cases w4|tmp ai=>obtain⟨_,_,u1,_,_,_,u2,_⟩:=y3;cases u1;exact u2 ⟨i,⟨s1,Vh,k,f⟩,N⟩|fP i'=>
             have ex:∃s' ac,ρ[i']?=some s'/\lst? s'=some ac:=by
              rcases sa with⟨_,_,_,z⟩|⟨b,es,q,_⟩|⟨es,q,_⟩;.subst z;cases w4
              .exact⟨_,_,q,rfl⟩
              .exact⟨_,_,q,rfl⟩
             have:=g.dis i i' x ⟨⟨s1,Vh,k,f⟩,N⟩ ⟨ex,y3⟩;subst this;have hk:∃Ob,Vh=.l Ob:=by
              rcases sa with⟨_,_,_,z⟩|⟨b,es,q,_⟩|⟨es,q,_⟩;.subst z;cases w4
              .rw[k]at q;cases q;cases f;exact⟨_,rfl⟩
              .rw[k]at q;cases q;cases f;exact⟨_,rfl⟩
             obtain⟨Ob,rfl⟩:=hk;have Z:j<c.length:=by rw[<-la];exact(dB G).1
             have B:c[j]?=some c[j]:=by simp[Z]
             obtain⟨v2,s2,u1,u2,u3,u4,u5⟩:=lent k f G B;rw[N]at u1;cases u1--the slot behind the call is a list's
             obtain⟨⟨t,dt,t1,t2⟩,_⟩:=h;obtain⟨s3,t3,t4⟩:=slot t1;rw[k]at t3;cases t3;have lo:∃t5,bf i as c=some t5:=by cases I:bf i as c with|none=>exact absurd G (lO la I j)|some t5=>exact⟨t5,rfl⟩
             obtain⟨t5,I⟩:=lo;obtain⟨j2,t6,t7⟩:=jb I;have al:j2<args.length:=by rw[M];exact(dB t6).1
             obtain⟨_,s6,_,am,ae,ap,af⟩:=lent k f t6 t7;have ag:j2=j:=by
              have a1:lst? s6=some (.l Ob):=by rcases af with⟨_,_,z⟩|⟨_,z⟩<;>rw[z]<;>rfl
              have a2:lst? s2=some (.l Ob):=by rcases u5 with⟨_,_,z⟩|⟨_,z⟩<;>rw[z]<;>rfl
              exact l4 j2 j i s6 s2 _ _ t6 G ae u3 a1 a2
             subst ag;rw[B]at t7;cases t7;rw[I]at t4;refine h5 ⟨j2,?_,u2⟩;rcases u5 with⟨b,u,y⟩|⟨u,y⟩
             . subst u;subst y;rcases u4 with⟨d2,z⟩|⟨d2,z⟩;.exact⟨_,.l d2,B,by rw[z];rfl⟩
               .rw[z]at t4;subst t4;cases t2
             .subst u;subst y;exact⟨_,.l Ob,B,by rw[show c[j2]=.lent Ob from u4];rfl⟩
       .rw[w2]at h6;cases h6
     . rcases h6 with h6|h6;.exact L x h6
       .exact back x (.inr h6)
 refine⟨⟨s.gs.sub,by rw[nu];exact g.len,fun i b d e=>?_,fun i t ds e B=>?_,fun i j x h1 C=>g.dis i j x (Od h1) (Od C)⟩,s0.bN.trans s.bN,fun b n n'=>?_,fun b o h n=>?_,fun b⟨i,h⟩=>back b (.inl ⟨i,Od h⟩),by rw[nu];exact s0.len,fun i s1 h l=>?_⟩;.--data
   obtain⟨s1,k,f⟩:=slot e;cases s1 with|aQ=>cases f|lent es=>cases f|gQ _=>cases f|cF _=>cases f|hold _=>cases f|val b' d'=>cases f;obtain⟨v,u,y⟩:=g.val i b d k;exact⟨v,u,y.mono s.bN⟩|own b' es=>cases I:bf i as c with|none=>rw[I]at f;cases f|some t=>rw[I]at f;obtain⟨j,u,y⟩:=jb I;obtain⟨v,s2,G,O,y3,y4,p⟩:=lent k rfl u y;cases t with|aQ=>cases f|own _ _=>cases f|lent _=>cases f|gQ _=>cases f|cF _=>cases f|hold _=>cases f|val b2 d2=>cases f;obtain⟨w,W,x2⟩:=s.gs.val j b2 d y;rw[O]at W;cases W;exact⟨v,G,x2⟩
 .--lists
   obtain⟨s1,k,f⟩:=slot e--a list that was not lent
   have stay:∀es,lst? s1=some es->(∀j:Nat,as[j]?≠some (.fP i))->t=s1->∃(a:Addr)(xs:HO),σ[i]?=some (some (V.ref a))/\H' a=some xs/\X a=none/\lq K X xs ds:=fun es he hn ht=>by
    subst ht;rw[he]at B;cases B;obtain⟨a,xs,u,y,z3,z4⟩:=g.own i _ ds k he;have no:¬ Own args (vs.map some) a:=fun h=>by obtain⟨j,⟨sl,es,w1,w2⟩,w3⟩:=h;obtain⟨a',v,h1,C,J⟩:=A.get M w1;have sa:=l2 j a' _ h1 w1;have w3:=dn w3;rw[C]at w3;cases w3;cases a' with|dat d=>cases sa;cases w2|tmp es=>obtain⟨x,_,G,_,_,_,O,_⟩:=J;cases G;exact O ⟨i,⟨_,ds,k,he⟩,u⟩|fP i'=>
       have:∃s' ac,ρ[i']?=some s'/\lst? s'=some ac:=by
        rcases sa with⟨_,_,_,z⟩|⟨b,es,q,_⟩|⟨es,q,_⟩;.subst z;cases w2
        .exact⟨_,_,q,rfl⟩
        .exact⟨_,_,q,rfl⟩
       have:=g.dis i i' a ⟨⟨_,ds,k,he⟩,u⟩ ⟨this,J⟩;subst this;exact hn j h1
    refine⟨a,xs,u,s.keep a _ y no,?_,z4.mono s.bN⟩;cases q:X a with|none=>rfl|some o=>
      rcases s.yh a z3 (by rw[q];simp)with z|z;.exact absurd z no
      .rw[y]at z;exact(Gs z4 z).elim
   cases I:bf i as c with
   |none=>have hn:=lO la I;rw[I]at f;cases s1 with|aQ=>subst f;cases B|val b' d'=>subst f;cases B|own b' es=>exact stay _ rfl hn f|lent es=>exact stay _ rfl hn f|gQ m=>exact stay _ rfl hn f|cF m=>exact stay _ rfl hn f|hold _=>subst f;cases B
   |some t2=>rw[I]at f;obtain⟨j,u,y⟩:=jb I;cases s1 with
     |aQ=>subst f;cases B|val b' d'=>subst f;cases B|hold _=>subst f;cases B|gQ m=>
       have Z:j<args.length:=by rw[M];exact(dB u).1
       rcases l2 j _ _ u (show args[j]?=some args[j]by simp[Z])with⟨_,_,z,_⟩|⟨_,_,z,_⟩|⟨_,z,_⟩<;>(rw[k]at z;cases z)|cF m=>
       have Z:j<args.length:=by rw[M];exact(dB u).1
       rcases l2 j _ _ u (show args[j]?=some args[j]by simp[Z])with⟨_,_,z,_⟩|⟨_,_,z,_⟩|⟨_,z,_⟩<;>(rw[k]at z;cases z)|own b' es=>
       obtain⟨v,s2,G,O,y3,y4,p⟩:=lent k rfl u y;have:t2≠.aQ/\∀x,t2≠.lent x:=by
        rcases p with⟨_,_,p⟩|⟨p,_⟩;.subst p;rcases y4 with⟨_,rfl⟩|⟨_,rfl⟩<;>simp
        .cases p
       cases t2 with
       |aQ=>exact absurd rfl this.1|hold x=>
         rcases p with⟨_,_,p⟩|⟨p,_⟩;.subst p;rcases y4 with⟨_,h⟩|⟨_,h⟩<;>cases h
         .cases p|gQ x=>
         rcases p with⟨_,_,p⟩|⟨p,_⟩;.subst p;rcases y4 with⟨_,h⟩|⟨_,h⟩<;>cases h
         .cases p|cF x=>
         rcases p with⟨_,_,p⟩|⟨p,_⟩;.subst p;rcases y4 with⟨_,h⟩|⟨_,h⟩<;>cases h
         .cases p|lent x=>exact absurd rfl (this.2 x)|val b2 d2=>subst f;cases B|own b2 ar=>subst f;cases B;obtain⟨a,xs,W,x2⟩:=s.gs.own j _ _ y rfl;rw[O]at W;cases W;exact⟨a,xs,G,x2⟩
     |lent es=>
       obtain⟨v,s2,G,O,y3,y4,p⟩:=lent k rfl u y;have ht:t=.lent es:=by rw[f];cases t2<;>rfl
       subst ht;cases B;rcases p with⟨_,p,_⟩|⟨_,p⟩;.cases p
       .subst p;cases(show t2=.lent es from y4);obtain⟨a,xs,W,x2⟩:=s.gs.own j _ _ y rfl;rw[O]at W;cases W;exact⟨a,xs,G,x2⟩
 . by_cases q:F b=none
   . rcases s.yh b q n' with z|z;.exact(L b z).imp id kE
     . by_cases ho:Own ρ₀ σ b;.exact .inl ho
       .right;cases f:H₀ b with|none=>rfl|some o=>rw[s0.keep b o f ho]at z;exact z
   .exact s0.yh b n q
 . refine s.keep b o (s0.keep b o h n) fun z=>?_;rcases L b z with z|z;.exact n z
   .rw[h]at z;cases z
 .obtain⟨E,s2,C,k2⟩:=s0.lk i s1 h l;refine⟨E,_,Z8 C,?_⟩;have Xd:=k2.tY l;refine mF.trans l k2 ?_;cases s2 with
   |aQ=>cases Xd|gQ _=>cases Xd|cF _=>cases Xd|hold _=>exact mF.refl _|val b d=>exact mF.refl _|lent es=>cases bf i as c with|none=>rfl|some t=>cases t<;>rfl
   |own b es=>cases b with|false=>cases Xd|true=>cases bf i as c with|none=>exact .inl ⟨_,rfl⟩|some t=>cases t with|aQ=>exact .inl ⟨_,rfl⟩|lent _=>exact .inl ⟨_,rfl⟩|gQ _=>exact .inl ⟨_,rfl⟩|cF _=>exact .inl ⟨_,rfl⟩|hold _=>exact .inl ⟨_,rfl⟩|own _ ds=>exact .inl ⟨_,rfl⟩|val _ d=>exact .inr ⟨_,rfl⟩
theorem xZ.rebase{F1 g k l:Hp}{c f:List Sl}(a:aC K F ρ σ H F1 c σ g)(A:xZ K k f σ l c g as vs):xZ K k f σ l ρ H as vs:=by refine⟨A.len,fun j b v h1 m=>?_,A.dis⟩;have h:=A.one j b v h1 m;cases b with|dat d=>exact h|fP i=>exact h|tmp ds=>
   obtain⟨x,xs,p,q,r,s,t,q6⟩:=h;refine⟨x,xs,p,q,r,s,t,?_⟩;rcases q6 with q6|q6;.exact a.vW x q6
   . by_cases ho:Own ρ σ x;.exact .inl ho
     .right;cases e:H x with|none=>rfl|some o=>rw[a.keep x o e ho]at q6;cases q6
theorem xZ.ZW{F1 c e f:Hp}{a b:List Sl}{r:R}(s1:aC K F ρ σ H F1 a σ c)(g:cM K F1 a σ c ρ σ H v r)(s2:aC K F1 a σ c e b σ f)(A:xZ K e b σ f a c as vs):xZ K e b σ f ρ H (xW r::as) (v::vs):=by
 have h1:zU K F1 a σ c ρ H v (xW r):=by cases r with|val d=>exact g|own ds=>exact g
 refine .cons (h1.later s2) (A.rebase s1) fun ds x m ev k es o j=>?_;cases r with|val d=>cases m|own p=>
   obtain⟨y,xs,l,q,u,w,s,B⟩:=g;rw[ev]at l;cases l;have h:=A.one k _ _ o j;obtain⟨z,C,t,_,_,_,_,w6⟩:=h;cases t;rcases w6 with w6|w6;.exact s w6
   .rw[q]at w6;cases w6
end
section
variable{K:PySem.W.Frag}{F F1 H H1:Hp}{ρ ρ1 ρ2:List Sl}{σ σ1:L2.St}
theorem vD{s:Sl}(h:put ρ i s=some ρ1):∃s0,ρ[i]?=some s0/\tY s0=false/\ρ1=ρ.set i s:=by
 unfold put at h;split at h;.rename_i q;cases h;exact⟨_,q,rfl,rfl⟩
 .rename_i q;cases h;exact⟨_,q,rfl,rfl⟩
 .rename_i q;cases h;exact⟨_,q,rfl,rfl⟩
 .cases h
theorem aC.put{r:R}(s:aC K F ρ σ H F1 ρ1 σ1 H1)(y:cM K F1 ρ1 σ1 H1 ρ σ H v r)(h:HH.put ρ1 i (yK r)=some ρ2):aC K F ρ σ H F1 ρ2 (σ1.set i (some v)) H1:=by
 obtain⟨s0,h0,B,rfl⟩:=vD h;have hi:i<ρ1.length:=(dB h0).1;have m:i<σ1.length:=by rw[<-s.gs.len];exact hi
 have f:∀{j:Nat}{a:Addr},j≠i->aZ (ρ1.set i (yK r)) (σ1.set i (some v)) j a->aZ ρ1 σ1 j a:=fun{j a}c⟨⟨t,ds,o,p⟩,g⟩=>by rw[fH c]at o g;exact⟨⟨t,ds,o,p⟩,g⟩
 have q:∀{a:Addr},aZ (ρ1.set i (yK r)) (σ1.set i (some v)) i a->¬ Own ρ1 σ1 a/\(Own ρ σ a\/H a=none):=fun{a}⟨⟨t,ds,o,p⟩,g⟩=>by rw[getElem?_set_self hi]at o;rw[getElem?_set_self m]at g;cases o;cases g;cases r with|val d=>cases p|own es=>obtain⟨x,xs,I,C,E,G,J,L⟩:=y;cases I;exact⟨J,L⟩
 refine⟨⟨s.gs.sub,by simp[s.gs.len],fun j b d e=>?_,fun j t ds e z=>?_,fun j k a h1 A=>?_⟩,s.bN,s.yh,s.keep,fun a⟨j,c⟩=>?_,by simp[s.len],fun j t e l=>?_⟩
 . by_cases c:j=i;.subst c;rw[getElem?_set_self hi]at e;cases r with|own es=>cases e|val d'=>cases e;exact⟨v,getElem?_set_self m,y⟩
   .rw[fH c]at e ⊢;exact s.gs.val j b d e
 . by_cases c:j=i;.subst c;rw[getElem?_set_self hi]at e;cases r with|val d'=>cases e;cases z|own es=>cases e;cases z;obtain⟨x,xs,rfl,C,E,G,_⟩:=y;exact⟨x,_,getElem?_set_self m,C,E,xs,rfl,G⟩
   .rw[fH c]at e ⊢;exact s.gs.own j t ds e z
 . by_cases c:j=i
   . by_cases u:k=i;.rw[c,u]
     .subst c;exact absurd ⟨k,f u A⟩ (q h1).1
   . by_cases u:k=i;.subst u;exact absurd ⟨j,f c h1⟩ (q A).1
     .exact s.gs.dis j k a (f c h1) (f u A)
 . by_cases w:j=i;.subst w;exact(q c).2
   .exact s.vW a ⟨j,f w c⟩
 . obtain⟨o,t1,p,g⟩:=s.lk j t e l;have c:j≠i:=by rintro rfl;rw[h0]at p;cases p;rw[g.tY l]at B;cases B
   exact⟨by rw[fH c];exact o,t1,by rw[fH c];exact p,g⟩
theorem GS.mut{x:Nat}{b:Bool}{es:List D}{a:Addr}{ys:List V}(g:GS K F ρ σ H)(e:ρ[x]?=some (.own b ds))(p:σ[x]?=some (some (.ref a)))(r:aG K F ys es):aC K F ρ σ H F (ρ.set x (.own b es)) σ (upd H a (.lst ys)):=by
 have hi:x<ρ.length:=(dB e).1;have w:aZ ρ σ x a:=⟨⟨_,_,e,rfl⟩,p⟩;obtain⟨J,xs,h1,L,y,M⟩:=g.lG x _ ds e rfl;rw[p]at h1;cases h1;have h:∀{j:Nat}{c:Addr},aZ (ρ.set x (.own b es)) σ j c->aZ ρ σ j c:=fun{j c}⟨⟨t,dt,m,s⟩,q3⟩=>by
  by_cases f:j=x;.subst f;exact⟨⟨_,_,e,rfl⟩,q3⟩
  .rw[fH f]at m;exact⟨⟨t,dt,m,s⟩,q3⟩
 refine⟨⟨fun c o q=>?_,by simp[g.len],fun j A d q=>?_,fun j t dt q u=>?_,fun j k c m s=>g.dis j k c (h m) (h s)⟩,.refl _,fun c n B=>absurd n B,fun c o q n=>?_,fun c⟨j,q⟩=>.inl ⟨j,h q⟩,by simp,fun j t q l=>⟨rfl,?_⟩⟩
 . have:c≠a:=by rintro rfl;rw[y]at q;cases q
   rw[aD this];exact g.sub c o q
 . by_cases f:j=x;.subst f;rw[getElem?_set_self hi]at q;cases q
   .rw[fH f]at q;exact g.val j A d q
 . by_cases f:j=x;.subst f;rw[getElem?_set_self hi]at q;cases q;cases u;exact⟨a,_,p,aO,y,ys,rfl,r⟩
   . rw[fH f]at q;obtain⟨c,C,z,E,G,I⟩:=g.own j t dt q u;have:c≠a:=by rintro rfl;exact f (g.dis j x c ⟨⟨t,dt,q,u⟩,z⟩ w)
     exact⟨c,C,z,by rw[aD this];exact E,G,I⟩
 . have:c≠a:=by rintro rfl;exact n ⟨x,w⟩
   rw[aD this];exact q
 . by_cases f:j=x;.subst f;rw[e]at q;cases q;refine⟨_,getElem?_set_self hi,?_⟩;cases b with|true=>exact .inl ⟨_,rfl⟩|false=>cases l
   .exact⟨t,by rw[fH f];exact q,.refl t⟩
theorem GS.lend{b:Bool}(g:GS K F ρ σ H)(e:ρ[i]?=some (.own b ds)):GS K F (ρ.set i (.lent ds)) σ H:=by
 have hi:i<ρ.length:=(dB e).1;have f:∀{j:Nat}{c:Addr},aZ (ρ.set i (.lent ds)) σ j c->aZ ρ σ j c:=fun{j c}⟨⟨t,dt,h,l⟩,q3⟩=>by
  by_cases a:j=i;.subst a;exact⟨⟨_,_,e,rfl⟩,q3⟩
  .rw[fH a]at h;exact⟨⟨t,dt,h,l⟩,q3⟩
 refine⟨g.sub,by simp[g.len],fun j o d q=>?_,fun j t dt q m=>?_,fun j k c h l=>g.dis j k c (f h) (f l)⟩
 . by_cases a:j=i;.subst a;rw[getElem?_set_self hi]at q;cases q
   .rw[fH a]at q;exact g.val j o d q
 . by_cases a:j=i;.subst a;rw[getElem?_set_self hi]at q;cases q;cases m;exact g.own j _ _ e rfl
   .rw[fH a]at q;exact g.own j t dt q m
theorem aC.aX{b:Bool}(g:GS K F ρ σ H)(e:ρ[i]?=some (.own b ds))(s:aC K F (ρ.set i (.lent ds)) σ H F1 ρ1 σ1 H1):aC K F ρ σ H F1 (ρ1.set i (.own b ds)) σ1 H1/\∀v r,cM K F1 ρ1 σ1 H1 (ρ.set i (.lent ds)) σ H v r->cM K F1 (ρ1.set i (.own b ds)) σ1 H1 ρ σ H v r:=by
 have hi:i<ρ.length:=(dB e).1;have h1:(ρ.set i (.lent ds))[i]?=some (.lent ds):=getElem?_set_self hi;obtain⟨C,E,z,G⟩:=s.lk i _ h1 rfl;cases(show E=.lent ds from G);have u:i<ρ1.length:=(dB z).1;have A:∀{j:Nat}{c:Addr},aZ (ρ.set i (.lent ds)) σ j c->aZ ρ σ j c:=fun{j c}⟨⟨t,dt,f,p⟩,m⟩=>by
  by_cases a:j=i;.subst a;exact⟨⟨_,_,e,rfl⟩,m⟩
  .rw[fH a]at f;exact⟨⟨t,dt,f,p⟩,m⟩
 have I:∀{c:Addr},Own ρ σ c->Own (ρ.set i (.lent ds)) σ c:=fun{c}⟨j,⟨t,dt,f,p⟩,m⟩=>by
  by_cases a:j=i;.subst a;exact⟨j,⟨_,_,h1,rfl⟩,m⟩
  .exact⟨j,⟨t,dt,by rw[fH a];exact f,p⟩,m⟩
 have y:∀{j:Nat}{c:Addr},aZ (ρ1.set i (.own b ds)) σ1 j c->aZ ρ1 σ1 j c:=fun{j c}⟨⟨t,dt,f,p⟩,m⟩=>by
  by_cases a:j=i;.subst a;exact⟨⟨_,_,z,rfl⟩,m⟩
  .rw[fH a]at f;exact⟨⟨t,dt,f,p⟩,m⟩
 have w:∀{c:Addr}{h:Hp},Own (ρ.set i (.lent ds)) σ c\/h c=none->Own ρ σ c\/h c=none:=fun{c h}q=>q.imp (fun⟨j,q⟩=>⟨j,A q⟩) id;have J:∀{c:Addr}{h:Hp},Own (ρ.set i (.lent ds)) σ c\/nt (h c)=none->Own ρ σ c\/nt (h c)=none:=fun{c h}q=>q.imp (fun⟨j,q⟩=>⟨j,A q⟩) id;refine⟨⟨⟨s.gs.sub,by simp[s.gs.len],fun j L d q=>?_,fun j t dt q B=>?_,fun j k c f p=>s.gs.dis j k c (y f) (y p)⟩,s.bN,fun c n M=>J (s.yh c n M),fun c o q n=>s.keep c o q fun⟨j,x⟩=>n ⟨j,A x⟩,fun c⟨j,q⟩=>w (s.vW c ⟨j,y q⟩),by simpa using s.len,fun j t q l=>?_⟩,fun v r h=>?_⟩
 . by_cases a:j=i;.subst a;rw[getElem?_set_self u]at q;cases q
   .rw[fH a]at q;exact s.gs.val j L d q
 . by_cases a:j=i;.subst a;rw[getElem?_set_self u]at q;cases q;cases B;exact s.gs.own j _ _ z rfl
   .rw[fH a]at q;exact s.gs.own j t dt q B
 . by_cases a:j=i;.subst a;rw[e]at q;cases q;refine⟨C,_,getElem?_set_self u,?_⟩;cases b with|true=>exact .inl ⟨_,rfl⟩|false=>cases l
   .obtain⟨N,t',O,Q⟩:=s.lk j t (by rw[fH a];exact q) l;exact⟨N,t',by rw[fH a];exact O,Q⟩
 .cases r with|val d=>exact h|own es=>obtain⟨x,xs,f,p,m,U,W,X⟩:=h;exact⟨x,xs,f,p,m,U,fun⟨j,q⟩=>W ⟨j,y q⟩,w X⟩
theorem GS.give(g:GS K F ρ σ H)(e:ρ[i]?=some (.own false ds)):∃v,σ[i]?=some (some v)/\aC K F ρ σ H F (ρ.set i .aQ) σ H/\cM K F (ρ.set i .aQ) σ H ρ σ H v (.own ds):=by
 have hi:i<ρ.length:=(dB e).1;obtain⟨a,xs,h1,r,s,u⟩:=g.lG i _ ds e rfl;have f:∀{j:Nat}{c:Addr},aZ (ρ.set i .aQ) σ j c->aZ ρ σ j c/\j≠i:=fun{j c}⟨⟨t,dt,h,m⟩,q3⟩=>by
  by_cases b:j=i;.subst b;rw[getElem?_set_self hi]at h;cases h;cases m
  .rw[fH b]at h;exact⟨⟨⟨t,dt,h,m⟩,q3⟩,b⟩
 have o:aZ ρ σ i a:=⟨⟨_,_,e,rfl⟩,h1⟩;refine⟨.ref a,h1,⟨⟨g.sub,by simp[g.len],fun j w d q=>?_,fun j t dt q p=>?_,fun j k c h m=>g.dis j k c (f h).1 (f m).1⟩,.refl _,fun c n y=>absurd n y,fun _ _ q _=>q,fun c⟨j,q⟩=>.inl ⟨j,(f q).1⟩,by simp,fun j t q l=>⟨rfl,?_⟩⟩,a,xs,rfl,r,s,u,fun⟨j,q⟩=>?_,.inl ⟨i,o⟩⟩
 . by_cases b:j=i;.subst b;rw[getElem?_set_self hi]at q;cases q
   .rw[fH b]at q;exact g.val j w d q
 . by_cases b:j=i;.subst b;rw[getElem?_set_self hi]at q;cases q;cases p
   .rw[fH b]at q;exact g.own j t dt q p
 . by_cases b:j=i;.subst b;rw[e]at q;cases q;cases l
   .exact⟨t,by rw[fH b];exact q,.refl t⟩
 .exact(f q).2 (g.dis j i a (f q).1 o)
theorem GS.more{τ:List (Option V)}(g:GS K F ρ σ H)(u:τ.length=n):GS K F (ρ++replicate n .aQ) (σ++τ) H:=by
 have get:∀{j:Nat}{t:Sl},(ρ++replicate n Sl.aQ)[j]?=some t->t≠.aQ->ρ[j]?=some t/\j<ρ.length:=fun{j t}q ne=>by
  by_cases h:j<ρ.length;.rw[getElem?_append_left h]at q;exact⟨q,h⟩
  . rw[getElem?_append_right (by omega),List.getElem?_replicate]at q;split at q;.cases q;exact absurd rfl ne
    .cases q
 have m:∀{j:Nat}{v:Option V},j<ρ.length->(σ[j]?=some v↔(σ++τ)[j]?=some v):=fun{j v}h=>by rw[getElem?_append_left (by rw[<-g.len];exact h)]
 have e:∀{j:Nat}{c:Addr},aZ (ρ++replicate n .aQ) (σ++τ) j c->aZ ρ σ j c:=fun{j c}⟨⟨t,dt,o,l⟩,q3⟩=>by obtain⟨h1,f⟩:=get o (by rintro rfl;cases l);exact⟨⟨t,dt,h1,l⟩,(m f).mpr q3⟩
 refine⟨g.sub,by simp[g.len,u],fun j b d q=>?_,fun j t dt q s=>?_,fun j k c o l=>g.dis j k c (e o) (e l)⟩;.obtain⟨h1,f⟩:=get q (by simp);obtain⟨v,p,r⟩:=g.val j b d h1;exact⟨v,(m f).mp p,r⟩
 .obtain⟨h1,f⟩:=get q (by rintro rfl;cases s);obtain⟨a,xs,p,r⟩:=g.own j t dt h1 s;exact⟨a,xs,(m f).mp p,r⟩
theorem aC.less{τ:List (Option V)}{m:Nat}(L:m=ρ.length)(g:GS K F ρ σ H)(hn:τ.length=n)(s:aC K F (ρ++replicate n .aQ) (σ++τ) H F1 ρ1 σ1 H1):aC K F ρ σ H F1 (ρ1.take m) (σ1.take m) H1/\∀v r,cM K F1 ρ1 σ1 H1 (ρ++replicate n .aQ) (σ++τ) H v r->cM K F1 (ρ1.take m) (σ1.take m) H1 ρ σ H v r:=by
 subst L;have M:ρ.length<=ρ1.length:=by rw[s.len];simp
 have l2:ρ.length<=σ1.length:=by rw[<-s.gs.len];exact M
 have z:∀{y:Type}{l:List y}{j:Nat}{x:y},(l.take ρ.length)[j]?=some x->l[j]?=some x/\j<ρ.length:=fun{y l j x}q=>by
  rw[List.getElem?_take]at q;split at q;.exact⟨q,by assumption⟩
  .cases q
 have B:∀{y:Type}{l:List y}{j:Nat}{x:y},j<ρ.length->l[j]?=some x->(l.take ρ.length)[j]?=some x:=fun{y l j x}f q=>by rw[List.getElem?_take,if_pos f];exact q
 have C:∀{c:Addr},Own (ρ++replicate n .aQ) (σ++τ) c->Own ρ σ c:=fun{c}⟨j,⟨t,dt,e,p⟩,u⟩=>by
  by_cases f:j<ρ.length;.rw[getElem?_append_left f]at e;rw[getElem?_append_left (by rw[<-g.len];exact f)]at u;exact⟨j,⟨t,dt,e,p⟩,u⟩
  . rw[getElem?_append_right (by omega),List.getElem?_replicate]at e;split at e;.cases e;cases p
    .cases e
 have N:∀{c:Addr},Own ρ σ c->Own (ρ++replicate n .aQ) (σ++τ) c:=fun{c}⟨j,⟨t,dt,e,p⟩,u⟩=>by have f:j<ρ.length:=(dB e).1;exact⟨j,⟨t,dt,by rw[getElem?_append_left f];exact e,p⟩,by rw[getElem?_append_left (by rw[<-g.len];exact f)];exact u⟩
 have A:∀{j:Nat}{c:Addr},aZ (ρ1.take ρ.length) (σ1.take ρ.length) j c->aZ ρ1 σ1 j c:=fun{j c}⟨⟨t,dt,e,p⟩,u⟩=>⟨⟨t,dt,(z e).1,p⟩,(z u).1⟩;have w:∀{c:Addr}{h:Hp},Own (ρ++replicate n .aQ) (σ++τ) c\/h c=none->Own ρ σ c\/h c=none:=fun{c h}q=>q.imp C id;have O:∀{c:Addr}{h:Hp},Own (ρ++replicate n .aQ) (σ++τ) c\/nt (h c)=none->Own ρ σ c\/nt (h c)=none:=fun{c h}q=>q.imp C id;refine⟨⟨⟨s.gs.sub,by simp only[length_take];omega,fun j b d q=>?_,fun j t dt q Q=>?_,fun j k c e p=>s.gs.dis j k c (A e) (A p)⟩,s.bN,fun c a b=>O (s.yh c a b),fun c o q n=>s.keep c o q fun x=>n (C x),fun c⟨j,q⟩=>w (s.vW c ⟨j,A q⟩),by simp only[length_take];omega,fun j t q l=>?_⟩,fun v r h=>?_⟩;.obtain⟨h1,E⟩:=z q;obtain⟨v,G,I⟩:=s.gs.val j b d h1;exact⟨v,B E G,I⟩
 .obtain⟨h1,E⟩:=z q;obtain⟨a,xs,G,I⟩:=s.gs.own j t dt h1 Q;exact⟨a,xs,B E G,I⟩
 .have f:j<ρ.length:=(dB q).1;obtain⟨J,t',U,W⟩:=s.lk j t (by rw[getElem?_append_left f];exact q) l;rw[getElem?_append_left (by rw[<-g.len];exact f)]at J;refine⟨?_,t',B f U,W⟩;rw[List.getElem?_take,if_pos f];exact J
 .cases r with|val d=>exact h|own es=>obtain⟨x,xs,e,p,u,X,Y,Z⟩:=h;exact⟨x,xs,e,p,u,X,fun⟨j,q⟩=>Y ⟨j,A q⟩,w Z⟩
end
section
variable{X:Cx}{c:Call}{n:Nat}{e a b d:Expr}{p pa pb pd:P}{pos:Pos}{es:List Expr}{ps:List P}
inductive adg(K:PySem.W.Frag)(f:List Sl->Res (List Arg))(σ:L2.St)(H:Hp)(Q:List V->Hp->Prop):Prop where|mk(F:Hp)(ρ:List Sl)(as:List Arg)(ρ':List Sl)(g:GS K F ρ σ H)(e:f ρ=.ok as ρ')(k:∀vs F' H',aC K F ρ σ H F' ρ' σ H'->xZ K F' ρ' σ H' ρ H as vs->Q vs H')
def SG(X:Cx)(c:Call)(es:List Expr)(ps:List P):Prop:=PA X es (adg X.K (yt c ps))
theorem az:SG X c [] []:=qF cW fun σ H Q⟨F,ρ,as,ρ',g,e,k⟩=>by rw[yt]at e;cases e;exact k [] F H (.refl g) .nil
theorem Ky(q:SX X c a pa)(hr:SG X c es ps)(hs:starEach (a::es) X.env=(false,eval a X.env)::starEach es X.env:=by rfl):SG X c (a::es) (pa::ps):=by cases hv:isVar pa with|none=>refine qF (bC q.ev hr hs) ?_;rintro σ H Q⟨F,ρ,as,ρ',g,e,k⟩;rw[yt,hv]at e;obtain⟨r,f,s,e⟩:=aj e;obtain⟨xs,h,j,e⟩:=aj e;cases e;refine⟨F,ρ,r,f,g,s,fun v F1 B s1 t=>⟨F1,f,xs,_,s1.gs,j,fun vs l m s2 A=>k _ l m (s1.trans s2) (xZ.ZW s1 t s2 A)⟩⟩|some i=>refine qF (bC (q.var i hv) hr hs) ?_;rintro σ H Q⟨F,ρ,as,ρ',g,e,k⟩;rw[yt,hv]at e;obtain⟨x0,u,w,e⟩:=aj e;obtain⟨o,y⟩:=aB w;subst y;obtain⟨xs,h,j,e⟩:=aj e;cases e;obtain⟨v,h1,_⟩:=g.pk o;exact⟨v,h1,F,ρ,xs,_,g,j,fun vs l m s2 A=>k _ l m s2 (.cons h1 A fun ds x z=>by cases z)⟩
theorem Mi{k f:Nat}{t:Addr}{fd:FuncData}{j:List Str}(J:nH X.prog X.w X.K X.mg X.base Hu k t fd j (Kr X.K j.length (c f)))(hr:jL k X.A)(L:Gl X x)(M:X.mg x=some (.ref t))(N:keepIn X.K (.ref t)=true)(O:Binds X.K fd j [])(U:SG X c (e::es) ps)(W:(e::es).length=j.length)(u:(x==("__debug__":Str))=false:=by decide)(he:starEach (e::es) X.env=(false,eval e X.env)::starEach es X.env:=by rfl)(hpl:(backTo pos (starEach es X.env)).any (·.1)=false:=by rfl)(y:ps.length=(e::es).length:=by rfl):SX X c (.Call (.Name x p') (e::es) [] pos) (.call f ps):=by
 refine⟨di (Lb (E:=E0) J hr L M N O .nil Y4 U u he hpl) ?_,fun i h=>by cases h⟩;rintro σ H Q⟨F,ρ,r,ρ',g,e,k⟩;rw[HH.E16]at e;obtain⟨as,z,G,e⟩:=aj e;unfold qM at e;split at e;.cases e
 . rename_i args m;split at e
   . rename_i r' l hc;cases e;refine⟨F,ρ,as,z,g,G,fun vs F1 Y s1 A=>?_⟩;have o:vs.length=j.length:=by
      have:∀{ps:List P}{ρ ρ':List Sl}{as:List Arg},yt c ps ρ=.ok as ρ'->as.length=ps.length:=by intro ps;induction ps with|nil=>intro ρ ρ' as h;rw[yt]at h;cases h;rfl|cons q j I=>
         intro ρ ρ' as h;rw[yt]at h;split at h;.obtain⟨_,_,_,h⟩:=aj h;obtain⟨xs,B,C,h⟩:=aj h;cases h;simp[I C]
         .obtain⟨_,_,_,h⟩:=aj h;obtain⟨xs,B,C,h⟩:=aj h;cases h;simp[I C]
      rw[<-A.len,this G,y,W]
     show Kr X.K j.length (c f) (vs++[]) Y Q E0;rw[append_nil];refine⟨o,F1,args,r,l,args_gs s1.gs A m,hc,fun v Z ac H' s rr=>?_⟩;obtain⟨z1,z2⟩:=Jx s1 A m s;exact k v Z H' z1 (z2 v r rr)
   .cases e
   .cases e
def JL(K:PySem.W.Frag)(D:Ends)(h:Hp)(ρ':List Sl)(f:L2.St)(g:Hp)(ρ:List Sl)(σ:L2.St)(H:Hp)(fl:Fl):Prop:=match fl with|.next=>D.nx f g|.brk=>D.bk f g|.cont=>D.ct f g|.ret r=>∀v,cM K h ρ' f g ρ σ H v r->D.rt v g
inductive tEx(K:PySem.W.Frag)(f:List Sl->Res Fl)(D:Ends)(σ:L2.St)(H:Hp):Prop where|mk(F:Hp)(ρ:List Sl)(fl:Fl)(ρ':List Sl)(g:GS K F ρ σ H)(e:f ρ=.ok fl ρ')(k:∀F' σ' H',aC K F ρ σ H F' ρ' σ' H'->JL K D F' ρ' σ' H' ρ σ H fl)
def SS(X:Cx)(c:Call)(n:Nat)(st:Stmt)(s:S):Prop:=PS X st (tEx X.K (ex c n s))
def SB(X:Cx)(c:Call)(n:Nat)(st:List Stmt)(s:List S):Prop:=xn X st (tEx X.K (iz c n s))
theorem dw{st:Stmt}{t t':TS}(h:PS X st t)(i:∀D σ H,t' D σ H->t D σ H):PS X st t':=fun f s σ H D I q=>h f s σ H D I (i D σ H q)
theorem m8{st:List Stmt}{t t':TS}(h:xn X st t)(i:∀D σ H,t' D σ H->t D σ H):xn X st t':=fun f s σ H D I q=>h f s σ H D I (i D σ H q)
theorem xs0{c:Call}:iz c n [] ρ=.ok .next ρ:=rfl
theorem TX{c:Call}{s:S}{r:List S}:iz c n (s::r) ρ=(ex c n s ρ).bind fun fl ρ=>match fl with|.next=>iz c n r ρ|fl=>.ok fl ρ:=rfl
theorem ao:SB X c n [] []:=m8 CQ fun D σ H⟨F,ρ,fl,ρ',g,e,k⟩=>by rw[xs0]at e;cases e;exact k F σ H (.refl g)
theorem aM{st:Stmt}{s:S}{f:List Stmt}{ss:List S}(h1:SS X c n st s)(m:SB X c n f ss):SB X c n (st::f) (s::ss):=by refine m8 (lX h1 m) ?_;rintro D σ H⟨F,ρ,fl,ρ',g,e,k⟩;rw[TX]at e;obtain⟨f1,h,j,e⟩:=aj e;cases f1 with
 |next=>refine⟨F,ρ,.next,h,g,j,fun F1 o y s1=>⟨F1,h,fl,ρ',s1.gs,e,fun t l u s2=>?_⟩⟩;have q:=k t l u (s1.trans s2);cases fl with|next=>exact q|brk=>exact q|cont=>exact q|ret r=>exact fun v w=>q v (w.later s1)
 |brk=>cases e;exact⟨F,ρ,.brk,_,g,j,k⟩|cont=>cases e;exact⟨F,ρ,.cont,_,g,j,k⟩|ret r=>cases e;exact⟨F,ρ,.ret r,_,g,j,k⟩
theorem oh{st:Stmt}:SS X c n st .bad:=dw GF fun D σ H⟨F,ρ,fl,ρ',g,e,k⟩=>by rw[HH.X4]at e;cases e
theorem Bu(he:SX X c e p)(hs:swapsWith e none pos.line X.env=pure false:=by rfl):SS X c n (.Expr e pos) (.expr p):=by refine dw (pW he.ev hs) ?_;rintro D σ H⟨F,ρ,fl,ρ',g,e,k⟩;rw[HH.X5]at e;obtain⟨r,f,h,e⟩:=aj e;cases e;exact⟨F,ρ,r,_,g,h,fun v F1 j s1 l=>k F1 σ j s1⟩
theorem Hd{t1 t2:TE}(h1:PE X e t1)(g:PE X e t2):PE X e (fun σ H Q=>t1 σ H Q\/t2 σ H Q):=fun f s σ H Q I h=>h.elim (h1 f s σ H Q I) (g f s σ H Q I)
theorem Uz(he:SX X c e p):SS X c n (.Return (some e) pos) (.ret p):=by
 have plain:∀(D:Ends)(σ:L2.St)(H:Hp),(∃F ρ fl ρ',GS X.K F ρ σ H/\((HH.ev c p ρ).bind fun r ρ=>.ok (Fl.ret r) ρ)=.ok fl ρ'/\∀j f h,aC X.K F ρ σ H j ρ' f h->(match fl with|.next=>D.nx f h|.brk=>D.bk f h|.cont=>D.ct f h|.ret r=>∀v,cM X.K j ρ' f h ρ σ H v r->D.rt v h))->sr X.K (HH.ev c p) σ H D.rt:=fun D σ H⟨F,ρ,fl,ρ',g,e,k⟩=>by obtain⟨r,l,m,e⟩:=aj e;cases e;exact⟨F,ρ,r,_,g,m,fun v F1 o s1 s=>k F1 σ o s1 v s⟩
 cases hv:isVar p with|none=>refine dw (Jm he.ev) fun D σ H⟨F,ρ,fl,ρ',g,e,k⟩=>plain D σ H ⟨F,ρ,fl,ρ',g,?_,k⟩;rw[HH.X11,hv]at e;exact e|some i=>--by the name itself:its own list is handed back,else its data
   have t:p=.var i:=by cases p<;>cases hv;rfl
   subst t;refine dw (Jm (Hd (he.var i hv) he.ev)) ?_;rintro D σ H⟨F,ρ,fl,ρ',g,e,k⟩;rw[HH.X11,hv]at e;dsimp only at e;split at e;.rename_i ds q;cases e;obtain⟨v,h1,u,w⟩:=g.give q;exact .inl ⟨v,h1,k F σ H u v w⟩
   .exact .inr (plain D σ H ⟨F,ρ,fl,ρ',g,e,k⟩)
theorem eG{m o:List Stmt}{s t:List S}(hc:ST X c e p)(u:SB X c n m s)(w:SB X c n o t):SS X c n (.If e m o pos) (.ifs p s t):=by refine dw (Oz hc u w) ?_;rintro D σ H⟨F,ρ,fl,ρ',g,e,k⟩;rw[HH.X13]at e;obtain⟨x,j,y,e⟩:=aj e;refine⟨F,ρ,x,j,g,y,fun F1 z s1=>?_⟩;have go:∀{f:List Sl->Res Fl},f j=.ok fl ρ'->tEx X.K f D σ z:=fun{f}h=>⟨F1,j,fl,ρ',s1.gs,h,fun A l B s2=>by have q:=k A l B (s1.trans s2);cases fl with|next=>exact q|brk=>exact q|cont=>exact q|ret r=>exact fun v C=>q v (C.later s1)⟩;cases x with|true=>rw[if_pos rfl]at e;exact go e|false=>rw[if_neg Bool.false_ne_true]at e;exact go e
theorem nD{f:Pos}(l:X.N.Nodup)(hi:X.N[i]?=some x)(m:Loc X.env.scope x)(he:SX X c e p)(hs:swapsWith e (some (.Name x f)) pos.line X.env=pure false:=by rfl)(o:X.fn x=true\/X.env.scope.names.lookup x=some .local:=by first|exact .inl rfl|exact .inr rfl|assumption):SS X c n (.Assign [.Name x f] e pos) (.asg i p):=by refine dw (u6 l hi m he.ev hs o) ?_;rintro D σ H⟨F,ρ,fl,ρ',g,e,k⟩;rw[HH.X6]at e;obtain⟨r,j,q,e⟩:=aj e;obtain⟨s,t,h,e⟩:=aj e;cases e;have u:=aB h;clear h;obtain⟨h,z⟩:=u;exact⟨F,ρ,r,j,g,q,fun v F1 w s1 y=>k F1 _ w (s1.put y h)⟩
end
end HH
end
section
namespace L2
open PySem PySem.Spec PyProof.Rows
variable{env:Env}{scope:Scope}{X:Cx}
noncomputable def oR(X:Cx)(scope:Scope)(N':List Str)(cl:List (Str×Addr))(C:Addr)(s₀:Shared)(H₀:Hp)(ex:List Addr):Cx:={X with N:=N',s₀:=s₀,H₀:=H₀,env:=compEnvC scope cl C X.env,outer:=X.stack,stack:=X.stack,ex:=ex,fn:=fun x=>scope.names.lookup x==some .cell,pn:=[],xe:=fun _ _=>False}
theorem yC(l:List (Str×NameKind)):∀(cs:List (Str×Addr)),(∀n,(n,NameKind.free)∈l->∃c,env.cells.lookup n=some c)->(∀n c,cs.lookup n=some c->env.cells.lookup n=some c)->∃ cl,(forIn l cs (fun(x:Str × NameKind)(r:List (Str × Addr))=>(if(x.2==NameKind.free)=true then(do let a<-cellOf env x.1;pure (ForInStep.yield ((x.1,a)::r)))else pure (ForInStep.yield r):Sem (ForInStep (List (Str × Addr))))):Sem (List (Str × Addr)))=pure cl/\(∀n c,cl.lookup n=some c->env.cells.lookup n=some c)/\(∀n,((n,NameKind.free)∈l\/(cs.lookup n).isSome)->(cl.lookup n).isSome):=by induction l with|nil=>intro cs _ h;exact⟨cs,rfl,h,fun n hn=>by rcases hn with hn|hn;cases hn;exact hn⟩|cons y l i=>
   obtain⟨n,k⟩:=y;intro cs b hc;rw[forIn_cons];by_cases f:k=.free
   . subst f;obtain⟨a,j⟩:=b n mem_cons_self;obtain⟨cl,e,h1,g⟩:=i ((n,a)::cs) (fun m hm=>b m (mem_cons_of_mem _ hm)) fun m c hm=>by
      rw[lookup_cons]at hm;split at hm;.rename_i q;have q:=eq_of_beq q;subst q;cases hm;exact j
      .exact hc m c hm
     refine⟨cl,?_,h1,fun m hm=>g m ?_⟩
     . rw[<-e];have:cellOf env n=pure a:=by unfold cellOf;rw[j]
       simp only[beq_self_eq_true,if_true,this];rfl
     . rcases hm with hm|hm
       . rcases mem_cons.mp hm with hm|hm;.cases hm;right;simp[lookup_cons]
         .exact .inl hm
       . right;rw[lookup_cons];split;.rfl
         .exact hm
   . obtain⟨cl,e,h1,g⟩:=i cs (fun m hm=>b m (mem_cons_of_mem _ hm)) hc;refine⟨cl,?_,h1,fun m hm=>g m ?_⟩
     . rw[<-e];have:(k==NameKind.free)=false:=by simpa using f
       simp only[this,false_eq_true,if_false];rfl
     . rcases hm with hm|hm
       . rcases mem_cons.mp hm with hm|hm;.cases hm;exact absurd rfl f
         .exact .inl hm
       .exact .inr hm
theorem yU(a:∀n,(n,NameKind.free)∈scope.names->∃c,env.cells.lookup n=some c):∃cl,closureFor scope env=pure cl/\(∀n c,cl.lookup n=some c->env.cells.lookup n=some c)/\∀n,(n,NameKind.free)∈scope.names->(cl.lookup n).isSome:=by obtain⟨cl,e,h1,b⟩:=yC (env:=env) scope.names [] a (by simp);refine⟨cl,?_,h1,fun n f=>b n (.inl f)⟩;unfold closureFor;exact(congrArg (fun t=>t>>=fun r=>pure r) e).trans rfl
theorem eZ{env:Env}:∀(names:List (Str×NameKind))(x:Str),(names.map fun(n,k)=>if(k==NameKind.free&&env.scope.kind==.function&&env.kindOf n==some .cell)then(n,NameKind.cell)else(n,k)).lookup x=(names.lookup x).map fun k=>if(k==NameKind.free&&env.scope.kind==.function&&env.kindOf x==some .cell)=true then NameKind.cell else k
 |[],x=>rfl|(n,k)::r,x=>by
   have a:=eZ (env:=env) r x;show List.lookup x ((if(k==NameKind.free&&env.scope.kind==.function&&env.kindOf n==some .cell)=true then(n,NameKind.cell)else(n,k))::_)=_;by_cases hc:(k==NameKind.free&&env.scope.kind==.function&&env.kindOf n==some .cell)=true;.rw[if_pos hc,lookup_cons,lookup_cons];cases hx:x==n with|true=>have:=eq_of_beq hx;subst this;show some NameKind.cell=some (if _ then _ else _);rw[if_pos hc]|false=>exact a
   .rw[if_neg hc,lookup_cons,lookup_cons];cases hx:x==n with|true=>have:=eq_of_beq hx;subst this;show some k=some (if _ then _ else _);rw[if_neg hc]|false=>exact a
noncomputable def ZV(N N':List Str)(a:Scope):Bool:=(N.zip N').all fun p=>(p.1==p.2&&a.names.lookup p.2==some .free)||(a.names.lookup p.2!=some .local&&a.names.lookup p.2!=some .cell&&a.names.lookup p.2!=some .free)
structure eY(X:Cx)(scope:Scope)(N':List Str)(n:Nat):Prop where
 kind:scope.kind=.function
 cons:∀y∈scope.names,scope.names.lookup y.1=some y.2
 names:∀y∈scope.names,y.2=.local->scope.names.lookup y.1=some .local
 cap:∀y∈scope.names,y.2=.free->X.env.scope.names.lookup y.1=some .cell\/X.env.scope.names.lookup y.1=some .free
 len:N'.length=X.N.length+n
 same:ZV X.N N' scope=true
theorem eY.get{N':List Str}{n:Nat}(c:eY X scope N' n){i:Nat}{x:Str}(hi:i<X.N.length)(h:N'[i]?=some x)(a:vV (relabel scope X.env) x):X.N[i]?=some x/\scope.names.lookup x=some .free:=by
 have hz:(X.N.zip N')[i]?=some (X.N[i],x):=by rw[List.getElem?_zip_eq_some];exact⟨by simp[hi],h⟩
 have:=(all_eq_true.mp c.same) _ (mem_of_getElem? hz);simp only[or_eq_true,and_eq_true]at this;rcases this with⟨h1,b⟩|⟨⟨h1,b⟩,f⟩;.have h1:=eq_of_beq h1;have b:=eq_of_beq b;exact⟨by simp[hi,h1],b⟩
 . exfalso;have h1:scope.names.lookup x≠some .local:=by simpa using h1
   have b:scope.names.lookup x≠some .cell:=by simpa using b
   have f:scope.names.lookup x≠some .free:=by simpa using f
   have e:=eZ (env:=X.env) scope.names x;have a:(relabel scope X.env).names.lookup x=some .local\/(relabel scope X.env).names.lookup x=some .cell\/(relabel scope X.env).names.lookup x=some .free:=a;rw[show(relabel scope X.env).names.lookup x=_ from e]at a;cases q:scope.names.lookup x with|none=>rw[q]at a;simp at a|some k=>
     rw[q]at a h1 b f;have g:(k==NameKind.free)=false:=by cases k<;>first|rfl|exact absurd rfl f
     simp only[Option.map_some,g,Bool.false_and,false_eq_true,if_false,Option.some.injEq]at a;rcases a with rfl|rfl|rfl;.exact h1 rfl
     .exact b rfl
     .exact f rfl
structure CI(cl:List (Str×Addr))(z:Nat)(h:Heap)(acc:List (Str×Addr)):Prop where from':∀n c,acc.lookup n=some c->cl.lookup n=some c\/(z<=c/\h.IsCell c none)inj:∀n n' c,acc.lookup n=some c->acc.lookup n'=some c->n=n'
theorem Gm{cl:List (Str×Addr)}{z:Nat}(i:∀n c,cl.lookup n=some c->c<z):∀(names:List (Str×NameKind))(h:Heap)(f:List (Str×Addr)),z<=h.objs.size->CI cl z h f->CI cl z (pushCells h names) (cellsFrom h.objs.size names f)/\(∀n,(f.lookup n).isSome->((cellsFrom h.objs.size names f).lookup n).isSome)/\(∀n,((∃c,f.lookup n=some c/\z<=c)\/(n,NameKind.cell)∈names)->∃c,(cellsFrom h.objs.size names f).lookup n=some c/\z<=c)/\(∀n c,(n,NameKind.cell)∉names->(cellsFrom h.objs.size names f).lookup n=some c->f.lookup n=some c)
 |[],h,f,hz,x=>by
   refine⟨x,fun _ q=>q,fun n q=>?_,fun _ _ _ q=>q⟩;rcases q with q|q;.exact q
   .cases q|(name,kind)::r,h,f,hz,x=>by
   unfold pushCells cellsFrom;by_cases l:kind=.cell
   . subst l;rw[if_pos (by rfl),if_pos (by rfl)];have p:CI cl z (h.push {cls:=.type "cell",data:=.cell none}) ((name,h.objs.size)::f):=by
      have lt:∀n c,f.lookup n=some c->c<h.objs.size:=fun n c e=>by
       rcases x.from' n c e with q|q;.exact lt_of_lt_of_le (i n c q) hz
       .exact q.2.lt
      refine⟨fun n c e=>?_,fun n m c e j=>?_⟩
      . rw[lookup_cons]at e;split at e;.cases e;exact .inr ⟨hz,_,get?_push_size _ rfl,rfl⟩
        . rcases x.from' n c e with q|q;.exact .inl q
          .exact .inr ⟨q.1,q.2.keeps fun b o e=>dG e⟩
      . rw[lookup_cons]at e j;split at e<;>split at j;.rename_i _ a _ b;rw[eq_of_beq a,eq_of_beq b]
        .cases e;exact absurd (lt m _ j) (lt_irrefl _)
        .cases j;exact absurd (lt n _ e) (lt_irrefl _)
        .exact x.inj n m c e j
     have g:=Gm i r (h.push {cls:=.type "cell",data:=.cell none}) ((name,h.objs.size)::f) (by rw[size_push];omega) p;rw[size_push]at g;refine⟨g.1,fun n q=>g.2.1 n ?_,fun n q=>g.2.2.1 n ?_,fun n c q e=>?_⟩
     . rw[lookup_cons];split;.rfl
       .exact q
     . rcases q with⟨c,e,hc⟩|q
       . left;rw[lookup_cons];split;.exact⟨_,rfl,hz⟩
         .exact⟨c,e,hc⟩
       . rcases mem_cons.mp q with q|q;.cases q;left;exact⟨_,by simp[lookup_cons],hz⟩
         .exact .inr q
     . have:=g.2.2.2 n c (fun z=>q (mem_cons_of_mem _ z)) e;rw[lookup_cons]at this;split at this;.rename_i a;exact absurd (by rw[eq_of_beq a];exact mem_cons_self) q
       .exact this
   . have k:(kind==NameKind.cell)=false:=by simpa using l
     rw[if_neg (by rw[k];decide),if_neg (by rw[k];decide)];have g:=Gm i r h f hz x;refine⟨g.1,g.2.1,fun n q=>g.2.2.1 n ?_,fun n c q e=>g.2.2.2 n c (fun z=>q (mem_cons_of_mem _ z)) e⟩;rcases q with q|q;.exact .inl q
     . rcases mem_cons.mp q with q|q;.cases q;exact absurd rfl l
       .exact .inr q
structure HR(X:Cx)(scope:Scope)(z:Nat)(h:Heap)(cs:List (Str×Addr)):Prop where
 from':∀n c,cs.lookup n=some c->X.env.cells.lookup n=some c\/(z<c/\h.IsCell c none)inj:∀n n' c,cs.lookup n=some c->cs.lookup n'=some c->n=n'
 has:∀n,(scope.names.lookup n=some .free\/scope.names.lookup n=some .cell)->∃c,cs.lookup n=some c
 fre:∀n c,scope.names.lookup n=some .free->cs.lookup n=some c->X.env.cells.lookup n=some c
 own:∀n c,scope.names.lookup n=some .cell->cs.lookup n=some c->z<c
theorem DR{M:Model}{A:Around}{E:Value->Shared->Prop}{s:Shared}{N':List Str}{n:Nat}{cl:List (Str×Addr)}{Q:Env->Shared->Prop}(ok:eY X scope N' n)(h:∀n c,X.env.cells.lookup n=some c->c<s.heap.objs.size)(f:∀x y c,X.env.cells.lookup x=some c->X.env.cells.lookup y=some c->x=y)(a:∀n c,cl.lookup n=some c->X.env.cells.lookup n=some c)(l:∀n,(n,NameKind.free)∈scope.names->(cl.lookup n).isSome)(m:∀ cs h',h'.Ns s.heap.objs.size (fun _=>none)->(∀ b o,s.heap.get? b=some o->h'.get? b=some o)->HR X scope s.heap.objs.size h' cs->Q {scope:=scope,locals:=s.heap.objs.size,globals:=X.env.globals,cells:=cs,qual:=X.env.qual,func:=none,code:=X.env.code,frame:=X.env.frame,builtins:=X.env.builtins} {s with heap:=h'}):wpAny M A (newFunctionEnv scope X.env.globals cl [] X.env.qual none .none (some X.env)) Q E s:=by
 simp only[newFunctionEnv,Option.isSome_some,if_true];refine wpAny_bind (wpAny_alloc ?_);refine wpAny_bind (wpAny_layCells _ (fun name kind cells=>by cases i:kind==NameKind.cell<;>simp[i]) _ _ _ _ ?_);have ck:=Gm (cl:=cl) (z:=s.heap.objs.size+1) (fun n c e=>Nat.lt_succ_of_lt (h n c (a n c e))) scope.names (s.heap.push {cls:=.type "dict",data:=.dict #[]}) cl (by rw[size_push];exact dz) ⟨fun n c e=>.inl e,fun n k c e g=>f n k c (a n c e) (a k c g)⟩;obtain⟨c1,c2,c3,c4⟩:=ck;rw[show({s with heap:=s.heap.push {cls:=.type "dict",data:=.dict #[]}}:Shared).heap.objs.size=(s.heap.push {cls:=.type "dict",data:=.dict #[]}).objs.size from rfl];refine wpAny_bind ?_;rw[forIn_nil];refine wpAny_pure (wpAny_pure (m _ _ ((Heap.Ns.new s.heap (.type "dict")).keeps (pushCells_keeps _ _)) (fun b o e=>pushCells_keeps _ _ b o (dG e)) ⟨fun n c e=>?_,c1.inj,fun n q=>?_,fun n c q e=>?_,fun n c q e=>?_⟩))
 . rcases c1.from' n c e with z|z;.exact .inl (a n c z)
   .exact .inr ⟨z.1,z.2⟩
 . rcases q with q|q;.exact Option.isSome_iff_exists.mp (c2 n (l n (PySem.mem_of_lookup q)))
   .obtain⟨c,e,_⟩:=c3 n (.inr (PySem.mem_of_lookup q));exact⟨c,e⟩
 .refine a n c (c4 n c (fun z=>?_) e);have:=ok.cons _ z;rw[q]at this;cases this
 .obtain⟨p,g,j⟩:=c3 n (.inr (PySem.mem_of_lookup q));rw[e]at g;cases g;exact j
section
variable{X:Cx}{pins:List (Addr×Obj)}{σ:L2.St}{H:Hp}{s:Shared}{scope:Scope}{N':List Str}{n:Nat}{fp:List Addr}{cl:List (Str×Addr)}
theorem Gx{h1:Heap}{m:Str->Option Value}{t:Nat}{cs:List (Str×Addr)}(ok:eY X scope N' n)(I:Inv X pins σ H s)(G:∀b∈fp,nZ X pins H b/\b<s.heap.objs.size)(w:HR X scope s.heap.objs.size h1 cs)(Q:h1.Ns s.heap.objs.size m)(j:∀b u,s.heap.get? b=some u->h1.get? b=some u):Inv (oR X scope N' cs s.heap.objs.size s H fp) [] (σ++replicate n none) H {s with heap:=h1,toks:=t}:=by
 have U:∀x,scope.names.lookup x=some .free->(relabel scope X.env).names.lookup x=some .cell\/(relabel scope X.env).names.lookup x=some .free:=fun x h=>by
  have e:=eZ (env:=X.env) scope.names x;rw[h]at e;have J:(relabel scope X.env).names.lookup x=_:=e;rw[J];simp only[Option.map_some];split;.exact .inl rfl
  .exact .inr rfl
 refine⟨⟨I.ok.mod,ok.kind,I.ok.glob,I.ok.blt,dz,fun x y c h1 W=>w.inj x y c h1 W,fun x z=>?_,fun x c h e=>le_of_lt (w.own x c (eq_of_beq (show(scope.names.lookup x==some NameKind.cell)=true from h)) e),I.ok.hd,I.ok.frames,.inl rfl,fun b B=>?_,I.bs,le_trans I.ok.Qi I.sz,fun b u e B=>?_,fun b B L=>?_,I.stack,I.Cw⟩,rfl,I.bare,Un.kept j,⟨m,Q,fun i x v Y C Z=>?_⟩,fun x c e=>?_,I.hok.fresh (dz),fun x c e=>?_,fun p hp=>(by cases hp),I.hok.kept j,?_⟩;.--a aaa name has its cell
   have z:(relabel scope X.env).names.lookup x=some .cell\/(relabel scope X.env).names.lookup x=some .free:=z;have e:=eZ (env:=X.env) scope.names x;have J:(relabel scope X.env).names.lookup x=_:=e;rw[J]at z;refine w.has x ?_;cases q:scope.names.lookup x with|none=>rw[q]at z;simp at z|some k=>
     rw[q]at z;by_cases hk:k=.free;.rw[hk];exact .inl rfl
     . have g:(k==NameKind.free)=false:=by simpa using hk
       simp only[Option.map_some,g,Bool.false_and,false_eq_true,if_false,Option.some.injEq]at z;rcases z with rfl|rfl;.exact .inr rfl
       .exact absurd rfl hk
 . obtain⟨f,lt⟩:=G b B;refine⟨ne_of_lt lt,fun x c e=>?_⟩;rcases w.from' x c e with e|e;.exact f.2.2.2.2.1 x c e
   .rintro rfl;exact absurd (Nat.lt_trans e.1 lt) (lt_irrefl _)
 . obtain⟨f,lt⟩:=G b B;rcases f.2.2.2.1 with h|h;.exact I.ok.JM b u e h
   .have this:b<X.base.objs.size:=lt_size e;exact absurd (lt_of_lt_of_le this (le_trans I.ok.Qi h)) (lt_irrefl _)
 . obtain⟨f,lt⟩:=G b B;rcases mem_cons.mp (I.vB b L)with h|h;.exact f.2.1 h
   .exact f.2.2.1 h
 .--the names
   have hi:i<σ.length:=by
    by_cases hi:i<σ.length;.exact hi
    .rw[getElem?_append_right (by omega),List.getElem?_replicate]at C;split at C<;>cases C
   rw[getElem?_append_left hi]at C;obtain⟨M,o⟩:=ok.get (by rw[<-I.len];exact hi) Y Z;have hk:=ok.cap (x,.free) (PySem.mem_of_lookup o) rfl;obtain⟨m0,ac,hl⟩:=I.loc;obtain⟨u,r,l⟩:=hl i x v M C (.inr hk);refine⟨u,r,.inr ⟨U x o,?_⟩⟩;rcases l with⟨g,_⟩|⟨_,c,hc,A⟩;.have g:X.env.scope.names.lookup x=some .local:=g;rcases hk with hk|hk<;>(rw[g]at hk;cases hk)
   .obtain⟨c',E⟩:=w.has x (.inl o);have:=w.fre x c' o E;rw[hc]at this;cases this;refine⟨c,E,?_⟩;obtain⟨oc,N,O⟩:=A;exact⟨oc,j c oc N,O⟩
 . rcases w.from' x c e with e|e;.obtain⟨v,oc,N,O⟩:=I.cell x c e;exact⟨v,oc,j c oc N,O⟩
   .exact⟨_,e.2⟩
 . rcases w.from' x c e with e|e;.exact I.lB x c e
   .exact I.hok.fresh (le_of_lt e.1)
 .show(σ++replicate n none).length=N'.length;rw[length_append,List.length_replicate,I.len,ok.len]
theorem uN{prog:Program}{w:World}{A:Around}{R:Result->Shared->Prop}{p a iter:Expr}{ifs:List Expr}{pos:Pos}{it q:Value}(I:Nat->Shared->Prop)(t:∀ n s,I n s->wpAny (model prog w) A (pyNext it) (fun r b=>match r with|none=>R (.ok .next) b|some v=>wpAny (model prog w) A (letOwnedTupleGo a it v) (fun _ b=>wpAny (model prog w) A (assign a env v) (fun _ j=>wpAny (model prog w) A (forIn ifs true fun c r=>if r=true then do let ok<-isTrue c env (eval c env);pure (ForInStep.yield ok)else pure (ForInStep.yield r)) (fun ok g=>if ok=true then wpAny (model prog w) A (eval p env) (fun x k=>wpAny (model prog w) A (call (.builtin "list.append") [q,x]) (fun _ l=>∃m,m<n/\I m l) (notedBy (model prog w) A env fun e i=>R (.error e) i) k) (notedBy (model prog w) A env fun e i=>R (.error e) i) g else ∃m,m<n/\I m g) (notedBy (model prog w) A env fun e i=>R (.error e) i) j) (notedBy (model prog w) A env fun e i=>R (.error e) i) b) (notedBy (model prog w) A env fun e i=>R (.error e) i) b) (notedBy (model prog w) A env fun e i=>R (.error e) i) s)(n:Nat){s:Shared}(h:I n s):codeAny (model prog w) A (.compLoop (.ListComp p [⟨a,iter,ifs,0⟩] scope pos) 0 it q env) R s:=by refine codeAny_loop rfl I (fun n s B=>?_) n h;show wpAny _ A ((compTurn (.ListComp p [⟨a,iter,ifs,0⟩] scope pos) 0 it q env).onRaise (fun x=>do noteFrame x env;theTreesLotGoes x)) _ _ s;refine wpAny_noted ?_;rw[compTurn_list];refine wpAny_bind (wpAny_standAt (wpAny_bind (wpAny_mono (t n s B) (fun r b f=>?_) fun _ _ h'=>h')));cases r with|none=>exact wpAny_pure f|some v=>refine wpAny_bind (wpAny_mono f (fun _ b f=>?_) fun _ _ h'=>h');refine wpAny_bind (wpAny_mono f (fun _ j u=>wpAny_bind (wpAny_mono u (fun ok g o=>?_) fun _ _ h'=>h')) fun _ _ h'=>h');cases ok with|false=>exact wpAny_pure ⟨rfl,o⟩|true=>exact wpAny_bind (wpAny_bind (wpAny_mono o (fun x k y=>wpAny_bind (wpAny_mono y (fun _ l z=>wpAny_pure (wpAny_pure ⟨rfl,z⟩)) fun _ _ h'=>h')) fun _ _ h'=>h'))
def Ut(X:Cx)(ifs:List Expr)(t:TT):Prop:=∀(pins:List (Addr × Obj))(s:Shared)(σ:L2.St)(H:Hp)(Q:Bool->Hp->Prop),Inv X pins σ H s->t σ H Q->wpAny (model X.prog X.w) X.A (forIn ifs true fun c r=>if r=true then do let ok<-isTrue c X.env (eval c X.env);pure (ForInStep.yield ok)else pure (ForInStep.yield r)) (TP X pins σ Q) X.xe s
theorem K4:Ut X [] (fun _ H Q=>Q true H):=fun pins s σ H Q I h=>wpAny_tests_nil ⟨H,I,h⟩
theorem K7{c:Expr}{t:TT}(h:PT X c t):Ut X [c] t:=fun pins s σ H Q I q=>wpAny_tests_one (h pins s σ H Q I q)
def PN(J:It)(g:TG)(tt:TT)(te:TE)(D:Addr)(Q:Hp->Prop)(W:Nat->Nat->List V->L2.St->Hp->Prop):Prop:=∀ i m ys σ H,W i m ys σ H->H D=some (.lst ys)/\((J.stop i H/\Q H)\/(J.go i H/\∀ x e,J.JP i H x e->g x σ e fun a j=>tt a j fun b f=>if b=true then te a f fun y h=>h D=some (.lst ys)/\ys.length<sizeLine/\∃c,c<m/\W (i+1) c (ys++[y]) a (upd h D (.lst (ys++[y])))else ∃c,c<m/\W (i+1) c ys a f))
theorem tu{E:Value->Shared->Prop}{af a iter:Expr}{ifs:List Expr}{pos:Pos}{it:Addr}{tn:Nat->Heap->Prop}{J:It}{g:TG}{tt:TT}{te:TE}{Q:Addr->Hp->Prop}{RR:Value->Addr->Result->Shared->Prop}(hc:X.calm=true)(ok:eY X scope N' n)(I:Inv X pins σ H s)(bp:∀n c,cl.lookup n=some c->X.env.cells.lookup n=some c)(Ac:∀n,(n,NameKind.free)∈scope.names->(cl.lookup n).isSome)(T:Turn X.prog X.w X.K a J fp it tn)(h0:tn 0 s.heap)(hf:∀b∈fp,nZ X pins H b)(hg:∀cl C s₀ H₀ ex,PG (oR X scope N' cl C s₀ H₀ ex) a g)(ht:∀cl C s₀ H₀ ex,Ut (oR X scope N' cl C s₀ H₀ ex) ifs tt)(he:∀cl C s₀ H₀ ex,PE (oR X scope N' cl C s₀ H₀ ex) af te)(hw:∀D,H D=none->∃W,(∃m,W 0 m [] (σ++replicate n none) (upd H D (.lst [])))/\PN J g tt te D (Q D) W)(bq:∀D C B l,Q D l->(∃m,B.heap.Ns C m)->nZ X pins l C->Inv X pins σ l B->RR (.ref D) C (.ok .next) B):wpAny (model X.prog X.w) X.A (newList []) (fun aw ax=>wpAny (model X.prog X.w) X.A (newFunctionEnv scope X.env.globals cl [] X.env.qual none .none (some X.env)) (fun al ay=>codeAny (model X.prog X.w) X.A (.compStart (.ListComp af [⟨a,iter,ifs,0⟩] scope pos) 0 (.ref it) aw {al with scope:=relabel scope X.env}) (RR aw al.locals) ay) E ax) E s:=by
 refine wpAny_newObj_type (DR ok (fun x c e=>?lt) I.ok.inj bp Ac (fun cs M am hold bc=>?_));case lt=>obtain⟨v,z⟩:=I.cell x c e;exact lt_of_lt_of_le z.lt (by show _<=(s.heap.push _).objs.size;rw[size_push];exact le_succ _)
 dsimp only at am hold bc ⊢--the new list,tracked
 have I3:Inv X pins σ (upd H s.heap.objs.size (.lst [])) {s with heap:=s.heap.push {cls:=.type "list",data:=.seq ([]:List Value).toArray}}:=I.U9 (t':=s.toks) .nil (vf);generalize ap:({s with heap:=s.heap.push {cls:=.type "list",data:=.seq ([]:List Value).toArray}}:Shared)=s3 at I3;have hsz:s3.heap.objs.size=s.heap.objs.size+1:=by rw[<-ap];exact size_push _ _
 have Qp:s3.heap=s.heap.push {cls:=.type "list",data:=.seq ([]:List Value).toArray}:=by rw[<-ap]
 obtain⟨W,⟨m0,w0⟩,aE⟩:=hw s.heap.objs.size I.fresh;have aI:∀{h':Heap},(∀b o,s.heap.get? b=some o->h'.get? b=some o)->tn 0 h':=fun k=>T.keep _ _ _ h0 fun b j o e=>k b o e;have ag:∀b∈fp,nZ X pins (upd H s.heap.objs.size (.lst [])) b/\b<s3.heap.objs.size:=fun b j=>by obtain⟨o,e,_⟩:=T.obj 0 _ h0 b j;have lt:=lt_size e;obtain⟨f1,f2⟩:=hf b j;exact⟨⟨by rw[aD (ne_of_lt lt)];exact f1,f2⟩,by rw[hsz];exact Nat.lt_succ_of_lt lt⟩
 rw[<-Qp]at am hold bc ⊢;have I4:=Gx (t:=s3.toks) ok I3 ag bc am hold;have aS:∀b o,s.heap.get? b=some o->M.get? b=some o:=fun b o e=>hold b o (by rw[Qp];exact dG e);generalize U:oR X scope N' cs s3.heap.objs.size s3 (upd H s.heap.objs.size (.lst [])) fp=G at I4;have hA:G.A=X.A:=by rw[<-U];rfl
 have N:G.prog=X.prog:=by rw[<-U];rfl
 have O:G.w=X.w:=by rw[<-U];rfl
 have aT:G.K=X.K:=by rw[<-U];rfl
 have Y:G.calm=true:=by rw[<-U];exact hc
 have br:G.xe=fun _ _=>False:=by rw[<-U];rfl
 have a9:G.env=compEnvC scope cs s3.heap.objs.size X.env:=by rw[<-U];rfl
 have bt:PG G a g:=by rw[<-U];exact hg _ _ _ _ _
 have bv:Ut G ifs tt:=by rw[<-U];exact ht _ _ _ _ _
 have bP:PE G af te:=by rw[<-U];exact he _ _ _ _ _
 have ff:∀{l:Hp}{b:Addr},b∈fp->l b=none->nZ G [] l b:=fun{l b}j hn=>by
  obtain⟨f,lt⟩:=ag b j;rw[<-U];refine⟨hn,ne_of_lt lt,fun bS=>?_,.inl j,fun x c e=>?_,fun p hp=>by cases hp⟩
  . rcases mem_cons.mp (I3.vB b bS)with h|h;.exact f.2.1 h
    .exact f.2.2.1 h
  . rcases bc.from' x c e with e|e;.exact f.2.2.2.2.1 x c e
    .rintro rfl;exact absurd (Nat.lt_trans e.1 lt) (lt_irrefl _)--behind the block
 have fin:∀{L:L2.St}{l:Hp}{B:Shared},Inv G [] L l B->Q s.heap.objs.size l->RR (.ref s.heap.objs.size) s3.heap.objs.size (.ok .next) B:=fun{L l B}J' q=>by
  rw[<-U]at J';have hC:l s3.heap.objs.size=none:=J'.free;obtain⟨hh,gg,dd,bX,ca⟩:=B;have cb:ca=s3.os:=J'.os;subst cb;refine bq _ _ _ l q (let⟨m,hm,_⟩:=J'.loc;⟨m,hm⟩) ?_ (I3.call (h':=hh) (g':=gg) (d':=dd) (t':=bX) (ch:=fp) J'.base J'.hok J'.bare fun b j=>?_);.exact I3.zq (dz) hC
  .obtain⟨f,lt⟩:=ag b j;exact⟨f.2.2.2.1,f.2.1,f.2.2.2.2.1,f.2.2.2.2.2⟩
 have ac:codeAny (model X.prog X.w) X.A (.compLoop (.ListComp af [⟨a,iter,ifs,0⟩] scope pos) 0 (.ref it) (.ref s.heap.objs.size) G.env) (RR (.ref s.heap.objs.size) s3.heap.objs.size) {s3 with heap:=M,toks:=s3.toks}:=by
  refine uN (fun k B=>∃i ys L l,Inv G [] L l B/\tn i B.heap/\(∀b∈fp,l b=none)/\W i k ys L l) (fun k s5 hI=>?_) m0 ⟨0,[],_,_,I4,aI aS,fun b j=>(ag b j).1.1,w0⟩;obtain⟨i,ys,ah,H5,I5,t5,f5,w5⟩:=hI;obtain⟨hD,ar⟩:=aE i k ys ah H5 w5;have ai:∀{Z:Value->Shared->Prop},∀(e:Value)(B:Shared),G.xe e B->Z e B:=fun e B z=>by rw[br]at z;exact False.elim z
  rcases ar with⟨stop,q⟩|⟨go,step⟩;.have z:=T.done G N O aT Y i [] s5 ah H5 (fun _ _=>False) I5 (fun b j=>ff j (f5 b j)) t5 stop;rw[hA]at z;refine wpAny_mono z (?_) fun _ _ z=>False.elim z;rintro r s6⟨hr,I6⟩;subst hr;exact fin I6 q
  . have z:=T.item G N O aT Y i [] s5 ah H5 (fun _ _=>False) I5 (fun b j=>ff j (f5 b j)) t5 go;rw[hA]at z;refine wpAny_mono z (?_) fun _ _ z=>False.elim z;rintro r s6⟨u,hr,z6⟩;subst hr;refine wpAny_mono z6 (?_) fun _ _ z=>False.elim z;rintro _ s7⟨x,H7,I7,r7,y7,t7,f7⟩;have ce:=I7.pinned (fun b j=>ff j (f7 b j)) (T.obj _ _ t7)--what the pins keep
    have back:∀{L:L2.St}{l:Hp}{B:Shared},Inv G ([]++qy fp s7.heap) L l B->Inv G [] L l B/\tn (i+1) B.heap/\∀b∈fp,l b=none:=fun{L l B}J'=>by refine⟨J'.mY,T.keep _ _ _ t7 fun b j o e=>(J'.pin (b,o) (mem_append_right _ (mem_append_right _ (iR j e)))).1,fun b j=>?_⟩;obtain⟨o,e,_⟩:=T.obj _ _ t7 b j;exact(J'.pin (b,o) (mem_append_right _ (mem_append_right _ (iR j e)))).2.1
    have z7:=bt _ s7 ah H7 x u _ ce r7 (step x H7 y7);rw[hA,N,O]at z7;refine wpAny_mono z7 (?_) ai;rintro _ s8⟨ae,H8,I8,q8⟩;have z8:=bv _ s8 ae H8 _ I8 q8;rw[hA,N,O]at z8;refine wpAny_mono z8 (?_) ai;rintro b s9⟨H9,I9,q9⟩;cases b with|false=>rw[if_neg Bool.false_ne_true]at q9 ⊢;obtain⟨m',hm,w'⟩:=q9;obtain⟨b1,b2,b3⟩:=back I9;exact⟨m',hm,i+1,ys,ae,H9,b1,b2,b3,w'⟩|true=>rw[if_pos rfl]at q9 ⊢;have z9:=bP _ s9 ae H9 _ I9 q9;rw[hA,N,O]at z9;refine wpAny_mono z9 (?_) ai;rintro y nJ⟨yv,bi,cf,ci,cn,bm,m',hm,w'⟩;have bn:=nQ _ nJ ae bi (.ref s.heap.objs.size) [yv] (.ref s.heap.objs.size) [y] (fun v bo=>bo=upd bi s.heap.objs.size (.lst (ys++[yv]))) cf rfl (.cons ci .nil) ⟨_,ys,yv,rfl,rfl,cn,bm,rfl⟩;rw[hA,N,O]at bn;refine wpAny_mono bn (?_) ai;rintro _ Kc⟨_,bo,cp,_,cq⟩;subst cq;obtain⟨b1,b2,b3⟩:=back cp;exact⟨m',hm,i+1,ys++[yv],ae,_,b1,b2,b3,w'⟩
 have e3:({s3 with heap:=M,toks:=s3.toks}:Shared)={s with heap:=M}:=by rw[<-ap]
 rw[a9,e3]at ac;exact codeAny_compStart_list ac (T.self _ 0 _ _ _ (aI aS) ac)
end
section
variable{X:Cx}{elt target iter:Expr}{ifs:List Expr}{scope:Scope}{pos:Pos}{N':List Str}{n:Nat}{wi:TI}{g:TG}{tt:TT}{te:TE}
def uq(n:Nat)(wi:TI)(g:TG)(tt:TT)(te:TE):TE:=fun σ H Q=>wi σ H fun J a=>∀D,a D=none->∃W,(∃m,W 0 m [] (σ++replicate n none) (upd a D (.lst [])))/\PN J g tt te D (fun b=>Q (.ref D) b) W
theorem lZ{a:List (Addr×Obj)}{σ:L2.St}{H:Hp}{s:Shared}(I:Inv X a σ H s)(ok:eY X scope N' n):∃cl,closureFor scope X.env=pure cl/\(∀n c,cl.lookup n=some c->X.env.cells.lookup n=some c)/\∀n,(n,NameKind.free)∈scope.names->(cl.lookup n).isSome:=yU fun m b=>I.ok.has m (ok.cap (m,.free) b rfl)
theorem Cj(hc:X.calm=true)(ok:eY X scope N' n)(hi:PI X target iter wi)(r:∀cl C s₀ H₀ ex,PG (oR X scope N' cl C s₀ H₀ ex) target g)(ht:∀cl C s₀ H₀ ex,Ut (oR X scope N' cl C s₀ H₀ ex) ifs tt)(he:∀cl C s₀ H₀ ex,PE (oR X scope N' cl C s₀ H₀ ex) elt te)(hs:∀x,foldedSetIterable iter X.env x=pure x:=by intro _;rfl):PE X (.ListComp elt [⟨target,iter,ifs,0⟩] scope pos) (uq n wi g tt te):=by intro a s σ H Q I h;obtain⟨cl,c,i,t⟩:=lZ I ok;rw[eval_ListComp];refine wpAny_comprehension_free (use:=none) rfl hs c ok.kind ok.names (bR (hi a s σ H _ I h) fun v s1 h1=>bR h1 fun u s2 y=>?_);obtain⟨it,M,N,J,O,rfl,z,T,t0,f2,B⟩:=y;refine tu (Q:=fun D j=>Q (.ref D) j) (RR:=fun k C=>compPost (model X.prog X.w) X.A X.xe none (EP X a σ Q) k C) hc ok z i t T t0 f2 r ht he B fun D C E j q l f G=>?_;obtain⟨m,l⟩:=l;refine⟨m,l,fun h' p=>⟨.ref D,j,?_,rfl,q⟩⟩;exact G.turned (t':=E.toks) (fun b o L e=>p.extBut b o L e) f.1 f.2.1 f.2.2.2.1 f.2.2.2.2.1 f.2.2.2.2.2
theorem uw{i:Nat}{x:Str}{c j:Pos}(hc:X.calm=true)(U:X.N.Nodup)(r:X.N[i]?=some x)(W:Loc X.env.scope x)(ok:eY X scope N' n)(hi:PI X target iter wi)(Y:∀cl C s₀ H₀ ex,PG (oR X scope N' cl C s₀ H₀ ex) target g)(ht:∀cl C s₀ H₀ ex,Ut (oR X scope N' cl C s₀ H₀ ex) ifs tt)(he:∀cl C s₀ H₀ ex,PE (oR X scope N' cl C s₀ H₀ ex) elt te)(t:swapsWith (.ListComp elt [⟨target,iter,ifs,0⟩] scope pos) (some (.Name x c)) j.line X.env=pure true)(hs:∀x,foldedSetIterable iter X.env x=pure x:=by intro _;rfl)(Z:X.fn x=true\/X.env.scope.names.lookup x=some .local:=by first|exact .inl rfl|exact .inr rfl|assumption):PS X (.Assign [.Name x c] (.ListComp elt [⟨target,iter,ifs,0⟩] scope pos) j) (Sd (uq n wi g tt te) (jD i)):=by
 intro f s σ H D I h;obtain⟨cl,k,u,Ac⟩:=lZ I ok;rw[exec_Assign_Name_used _ _ _ _ t];refine wpAny_bind (wpAny_standAt (wpAny_bind ?_));show wpAny _ X.A (do let _<-comprehension (.ListComp elt [⟨target,iter,ifs,0⟩] scope pos) scope X.env _ (newList []) false (eval iter X.env) (some (assign (.Name x c) X.env))) _ _ s;refine wpAny_bind (wpAny_mono (wpAny_comprehension_free (use:=some (assign (.Name x c) X.env)) (Q:=fun _ p=>SP X f D .next p) rfl hs k ok.kind ok.names (bR (hi f s σ H _ I h) fun v s1 h1=>bR h1 fun ac s2 h2=>?_)) (fun _ p hq=>wpAny_pure (wpAny_pure hq)) fun _ _ e=>e);obtain⟨it,fp,tn,J,H2,rfl,I2,T,t0,f2,hw⟩:=h2;refine tu (Q:=fun Da y=>D.nx (σ.set i (some (.ref Da))) y) (RR:=fun B C=>compPost (model X.prog X.w) X.A X.xe (some (assign (.Name x c) X.env)) (fun _ p=>SP X f D .next p) B C) hc ok I2 u Ac T t0 f2 Y ht he hw fun Da C p y q E l I'=>?_;obtain⟨m,E⟩:=E;show wpAny _ X.A (assign (.Name x c) X.env (.ref Da)) _ _ _;refine wpAny_assign_Name (ue I' U r W (show RelV (.ref Da) (.ref Da)from rfl) (?_) Z);rintro G L⟨a,sb,ha⟩;have M:C≠a:=by
  rcases ha with rfl|ha;.exact l.2.1
  .exact fun z=>l.2.2.2.2.1 x a ha z.symm
 refine⟨m,E.sameBut sb M,fun h' O=>⟨_,y,?_,q⟩⟩;exact L.turned (t':=G.toks) (fun b o hb e=>O.extBut b o hb e) l.1 l.2.1 l.2.2.2.1 l.2.2.2.2.1 l.2.2.2.2.2
def aev(K:PySem.W.Frag)(c:TE):TI:=fun σ H R=>c σ H fun x b=>∃a,x=.ref a/\(((∃xs,eV K b a xs)/\R (UT K a) b)\/((∃xs,iQ K b a xs)/\R (W5 K a) b))
theorem yM{u l:Expr}{r:TE}(w:PE X l r):PI X u l (aev X.K r):=by
 intro f s σ H R I h;refine bR (w f s σ H _ I h) ?_;rintro v s1⟨x,t,c,r1,j⟩;obtain⟨a,e,j⟩:=j;subst e;cases r1;rcases j with⟨⟨xs,k⟩,q⟩|⟨⟨xs,k⟩,q⟩
 . obtain⟨i,y,p,hz⟩:=c.list k;refine wpAny_pyIter_list p.isList ?_;refine⟨s1.heap.objs.size,[s1.heap.objs.size],_,_,t,rfl,c.kept (t':=s1.toks) fun b o e=>dG e,EY a _,⟨_,get?_push_size _ rfl,rfl,rfl⟩,fun b m=>?_,q⟩;have e:b=s1.heap.objs.size:=by simpa using m
   subst e;exact c.zq (dz) (c.hok.fresh (dz))
 . obtain⟨i,y,p,hz⟩:=c.tuple k;refine wpAny_pyIter_tuple (show s1.heap.IsTuple a i.toArray from p) ?_;refine⟨s1.heap.objs.size,[s1.heap.objs.size],_,_,t,rfl,c.kept (t':=s1.toks) fun b o e=>dG e,zP a _,⟨_,get?_push_size _ rfl,rfl,rfl⟩,fun b m=>?_,q⟩;have e:b=s1.heap.objs.size:=by simpa using m
   subst e;exact c.zq (dz) (c.hok.fresh (dz))
end
end L2
end
section
namespace HH
open PySem L2 PySem.Spec PyProof.Rows
variable{v:V}{i m:Nat}{K:PySem.W.Frag}{F H:Hp}{ρ:List Sl}{σ:L2.St}{x:Str}{p':Pos}{is:List Nat}{ds:List D}{s:Shared}{A:Around}{u':Value}
structure Walk(K:PySem.W.Frag)(F:Hp)(ρ:List Sl)(σ:L2.St)(H:Hp)(ul:List Sl->List Sl)(J:It)(ds:List D)(F1:Hp)(ρ1:List Sl)(H1:Hp):Prop where
 gs:GS K F1 ρ1 σ H1
 src:∀(n k:Nat)(F':Hp)(ρ':List Sl)(σ':L2.St)(H':Hp),aC K F1 (ρ1++replicate n .aQ) (σ++replicate n none) H1 F' ρ' σ' H'->(∀d,ds[k]?=some d->J.go k H'/\∀x kY,J.JP k H' x kY->∃F'',Ext F' H' F'' kY/\Rep K F'' x d)/\(ds.length<=k->J.stop k H')fin:∀F2 ρ2 σ2 H2,aC K F1 ρ1 σ H1 F2 ρ2 σ2 H2->aC K F ρ σ H F2 (ul ρ2) σ2 H2/\∀v r,cM K F2 ρ2 σ2 H2 ρ1 σ H1 v r->cM K F2 (ul ρ2) σ2 H2 ρ σ H v r
inductive tIt(K:PySem.W.Frag)(iv:Option Nat)(f:Ev)(σ:L2.St)(H:Hp)(R:It->Hp->Prop):Prop where|mk(F:Hp)(ρ:List Sl)(ds:List D)(ρ1:List Sl)(g:GS K F ρ σ H)(e:srcOf iv f ρ=.ok ds ρ1)(k:∀J F1 H1,Walk K F ρ σ H (aX ρ iv) J ds F1 ρ1 H1->R J H1)
section
variable{K:PySem.W.Frag}{F F1 H H1:Hp}{ρ ρ1:List Sl}{σ:L2.St}{ds:List D}{a:Addr}
theorem Av{xs:List V}{f b:Hp}(g:iQ K b a xs)(r:aG K f xs ds)(s:aF f b)(k:Nat):(∀d,ds[k]?=some d->(W5 K a).go k b/\∀x j,(W5 K a).JP k b x j->∃c,Ext f b c j/\Rep K c x d)/\(ds.length<=k->(W5 K a).stop k b):=by refine⟨fun d hd=>?_,fun h=>⟨xs,g,by rw[r.length];exact h⟩⟩;obtain⟨w,h1,l⟩:=r.get hd;refine⟨⟨xs,w,g,h1⟩,?_⟩;rintro x j⟨e,y⟩;subst e;have:=y xs g;rw[h1]at this;cases this;exact⟨f,.refl s,l⟩
theorem qw{xs:List V}{f b:Hp}(g:eV K b a xs)(r:aG K f xs ds)(s:aF f b)(k:Nat):(∀d,ds[k]?=some d->(UT K a).go k b/\∀x j,(UT K a).JP k b x j->∃c,Ext f b c j/\Rep K c x d)/\(ds.length<=k->(UT K a).stop k b):=by refine⟨fun d hd=>?_,fun h=>⟨xs,g,by rw[r.length];exact h⟩⟩;obtain⟨w,h1,l⟩:=r.get hd;refine⟨⟨xs,w,g,h1⟩,?_⟩;rintro x j⟨e,y⟩;subst e;have:=y xs g;rw[h1]at this;cases this;exact⟨f,.refl s,l⟩
theorem wV{ul:List Sl->List Sl}{d:D}(s:aC K F ρ σ H F1 ρ1 σ H1)(r:Rep K F1 v d)(hi:items d=some ds)(fin:∀f b c g,aC K F1 ρ1 σ H1 f b c g->aC K F ρ σ H f (ul b) c g/\∀v r,cM K f b c g ρ1 σ H1 v r->cM K f (ul b) c g ρ σ H v r):∃a,v=.ref a/\(((∃xs,eV K H1 a xs)/\Walk K F ρ σ H ul (UT K a) ds F1 ρ1 H1)\/((∃xs,iQ K H1 a xs)/\Walk K F ρ σ H ul (W5 K a) ds F1 ρ1 H1)):=by cases d with|tup es=>cases hi;rw[Rep]at r;obtain⟨a,xs,rfl,h1,h⟩:=r;exact⟨a,rfl,.inr ⟨⟨xs,aF.gB s.gs.sub h1⟩,s.gs,fun n k o j l p e=>Av (aF.gB e.gs.sub (aF.gB e.bN h1)) (h.mono e.bN) e.gs.sub k,fin⟩⟩|lst es=>cases hi;rw[Rep]at r;obtain⟨a,xs,rfl,h1,h⟩:=r;exact⟨a,rfl,.inl ⟨⟨xs,s.gs.sub.seq h1⟩,s.gs,fun n k o j l p e=>qw (e.gs.sub.seq (e.bN.seq h1)) (h.mono e.bN) e.gs.sub k,fin⟩⟩|_=>cases hi
theorem sZ{ul:List Sl->List Sl}(g:GS K F ρ1 σ H)(e:ρ1[i]?=some (.lent ds))(fin:∀f b c h,aC K F ρ1 σ H f b c h->aC K F ρ σ H f (ul b) c h/\∀v r,cM K f b c h ρ1 σ H v r->cM K f (ul b) c h ρ σ H v r):∃a,σ[i]?=some (some (.ref a))/\(∃xs,eV K H a xs)/\Walk K F ρ σ H ul (UT K a) ds F ρ1 H:=by obtain⟨a,xs,h1,p,C,E⟩:=g.lG i _ ds e rfl;have hi:i<ρ1.length:=(dB e).1;refine⟨a,h1,⟨xs,eV.of p⟩,g,fun n k G q u I j=>?_,fin⟩;obtain⟨l,t,w,y⟩:=j.lk i _ (by rw[getElem?_append_left hi];exact e) rfl;cases(show t=.lent ds from y);rw[getElem?_append_left (by rw[<-g.len];exact hi),h1]at l;obtain⟨J,ys,o,z,L,B⟩:=j.gs.lG i _ ds w rfl;rw[l]at o;cases o;exact qw (eV.of z) B j.gs.sub k
end
section
variable{X:Cx}{c:Call}{n:Nat}{e a b d tg:Expr}{p pa pb pd:P}{pos:Pos}
theorem lA{t t':TI}(h:PI X tg e t)(i:∀σ H R,t' σ H R->t σ H R):PI X tg e t':=fun f s σ H R I q=>h f s σ H R I (i σ H R q)
def SI(X:Cx)(c:Call)(tg e:Expr)(p:P):Prop:=PI X tg e (tIt X.K (isVar p) (HH.ev c p))
theorem dM(h:SX X c e p):SI X c tg e p:=by unfold SI;cases hv:isVar p with|none=>refine lA (yM h.ev) ?_;rintro σ H R⟨F,ρ,ds,u,g,e,k⟩;obtain⟨r,f,L,t⟩:=aj e;have y:=aB t;clear t;obtain⟨t,B⟩:=y;subst B;refine⟨F,ρ,r,_,g,L,fun v U W s C=>?_⟩;obtain⟨l,s2,_,M⟩:=s.dj C;obtain⟨a,E,G⟩:=wV (ul:=aX ρ none) s2 M t fun Y N O Z s3=>⟨s2.trans s3,fun v r C=>C.later s2⟩;exact⟨a,E,G.imp (fun⟨z,w⟩=>⟨z,k _ _ _ w⟩) (fun⟨z,w⟩=>⟨z,k _ _ _ w⟩)⟩|some i=>
   refine lA (yM (h.var i hv)) ?_;rintro σ H R⟨F,ρ,ds,u,g,e,k⟩;unfold srcOf at e;dsimp only at e;split at e
   . rename_i b d q;have y:=aB e;clear e;obtain⟨t,B⟩:=y;subst B;obtain⟨v,h1,Q⟩:=g.val i b d q;have fin:∀l f j o,aC X.K F ρ σ H l f j o->aC X.K F ρ σ H l (aX ρ (some i) f) j o/\∀v r,cM X.K l f j o ρ σ H v r->cM X.K l (aX ρ (some i) f) j o ρ σ H v r:=fun l f j o s=>by unfold aX;dsimp only;rw[q];exact⟨s,fun _ _ z=>z⟩
     obtain⟨a,E,G⟩:=wV (ul:=aX ρ (some i)) (.refl g) Q t fin;exact⟨v,h1,a,E,G.imp (fun⟨z,w⟩=>⟨z,k _ _ _ w⟩) (fun⟨z,w⟩=>⟨z,k _ _ _ w⟩)⟩
   . rename_i b I q;cases e;have hi:i<ρ.length:=(dB q).1;have fin:∀l f j o,aC X.K F (ρ.set i (.lent ds)) σ H l f j o->aC X.K F ρ σ H l (aX ρ (some i) f) j o/\∀v r,cM X.K l f j o (ρ.set i (.lent ds)) σ H v r->cM X.K l (aX ρ (some i) f) j o ρ σ H v r:=fun l f j o s=>by unfold aX;dsimp only;rw[q];exact aC.aX g q s
     obtain⟨a,h1,J,w⟩:=sZ (ul:=aX ρ (some i)) (g.lend q) (getElem?_set_self hi) fin;exact⟨_,h1,a,rfl,.inl ⟨J,k _ _ _ w⟩⟩
   . rename_i I q;cases e;have fin:∀l f j o,aC X.K F ρ σ H l f j o->aC X.K F ρ σ H l (aX ρ (some i) f) j o/\∀v r,cM X.K l f j o ρ σ H v r->cM X.K l (aX ρ (some i) f) j o ρ σ H v r:=fun l f j o s=>by unfold aX;dsimp only;rw[q];exact⟨s,fun _ _ z=>z⟩
     obtain⟨a,h1,J,w⟩:=sZ (ul:=aX ρ (some i)) g q fin;exact⟨_,h1,a,rfl,.inl ⟨J,k _ _ _ w⟩⟩
   .cases e
theorem xN{F1 g:Hp}{f:List Sl}(s:aC K F ρ σ H F1 f σ g)(i j:Int):Walk K F ρ σ H (aX ρ none) (V4 i (j-i).toNat) ((List.range (j-i).toNat).map fun(k:Nat)=>D.int (i+(k:Int))) F1 f g:=by
 refine⟨s.gs,fun n k o q t I u=>⟨fun d hd=>?_,fun h=>?_⟩,fun J w y L s3=>⟨s.trans s3,fun v r z=>z.later s⟩⟩;.rw[getElem?_map]at hd;obtain⟨m,B,C⟩:=map_some hd;obtain⟨h1,l⟩:=dB B;rw[List.getElem_range]at l;subst l;subst C;rw[length_range]at h1;refine⟨h1,?_⟩;rintro x M⟨E,G⟩;subst E;subst G;exact⟨o,.refl u.gs.sub,bL _⟩
 .rw[length_map,length_range]at h;exact h
theorem gZ(t:x="range")(u:Gl X x)(w:X.mg x=none)(y:SX X c a pa)(hs:starEach [a] X.env=[(false,eval a X.env)]:=by rfl):SI X c tg (.Call (.Name x p') [a] [] pos) (.rW (.con (.int 0)) pa):=by
 subst t;obtain⟨U,h1,z⟩:=y.cC;refine lA (tW u w (bC h1 cW hs) hs) ?_;rintro σ H R⟨F,ρ,ds,B,g,e,k⟩;obtain⟨r,C,q,h⟩:=aj e;have l:=aB h;clear h;obtain⟨h,E⟩:=l;subst E;rw[HH.E21]at q;obtain⟨W,G,I,f⟩:=aj q;have l:=aB f;clear f;obtain⟨f,J⟩:=l;subst J;obtain⟨Y,L,M,o⟩:=aj I;cases o;obtain⟨i,f1,f⟩:=bV f;obtain⟨j,f2,f⟩:=bV f;obtain⟨⟨b1,b2,b3,b4⟩,f⟩:=bz f;have f1:i=0:=by cases f1;rfl
 subst f1;subst f;cases h;cases cG f2;refine z g M fun v N O s Q=>⟨j,by rw[Q.int],by omega,by omega,?_⟩;have:=xN s 0 j;rw[sub_zero]at this;refine k _ N O ?_;rw[sub_zero];exact this
theorem M3(y:x="range")(z:Gl X x)(B:X.mg x=none)(C:SX X c a pa)(E:SX X c b pb)(hs:starEach [a,b] X.env=[(false,eval a X.env),(false,eval b X.env)]:=by rfl)(h:starEach [b] X.env=[(false,eval b X.env)]:=by rfl):SI X c tg (.Call (.Name x p') [a,b] [] pos) (.rW pa pb):=by subst y;obtain⟨Y,Z,h1,G,I⟩:=C.iI E;refine lA (Ei z B (bC h1 (bC G cW h) (by rw[hs,h])) hs h) ?_;rintro σ H R⟨F,ρ,ds,J,g,e,k⟩;obtain⟨r,L,o,l⟩:=aj e;have q:=aB l;clear l;obtain⟨l,M⟩:=q;subst M;rw[HH.E21]at o;obtain⟨xy,N,O,f⟩:=aj o;have q:=aB f;clear f;obtain⟨f,Q⟩:=q;subst Q;obtain⟨i,f1,f⟩:=bV f;obtain⟨j,f2,f⟩:=bV f;obtain⟨⟨b1,b2,b3,b4⟩,f⟩:=bz f;subst f;cases l;refine I g O fun v u U W s t w=>⟨i,j,?_,by omega,k _ U W (xN s i j)⟩;have o:=cG f1;have l:=cG f2;rw[o]at t;rw[l]at w;rw[t.int,w.int]
end
section
variable{X:Cx}{c:Call}{n:Nat}{e a b d tg iter:Expr}{p pa pb pd:P}{pos:Pos}{body:List Stmt}{ss:List S}
def Ii(K:PySem.W.Frag)(j:List Sl->D->Option (List Sl))(g:TG):Prop:=∀(x:V)(d:D)(F:Hp)(ρ f:List Sl)(σ:L2.St)(H:Hp)(Q:L2.St->Hp->Prop),GS K F ρ σ H->Rep K F x d->j ρ d=some f->(∀h,aC K F ρ σ H F f h H->Q h H)->g x σ H Q
theorem vg(i:Nat):Ii K (fun ρ d=>put ρ i (.val false d)) (jD i):=fun x d F ρ f σ H Q g r h k=>k _ (aC.put (r:=.val d) (.refl g) r h)
theorem cY:∀(is:List Nat)(gs:FP),(∀(xs:List V)(ds:List D)(F:Hp)(ρ f:List Sl)(σ:L2.St)(H:Hp)(Q:L2.St->Hp->Prop),GS K F ρ σ H->aG K F xs ds->putAll ρ is ds=some f->(∀j,aC K F ρ σ H F f j H->Q j H)->gs xs σ H Q)->∀i,∀(xs:List V)(ds:List D)(F:Hp)(ρ f:List Sl)(σ:L2.St)(H:Hp)(Q:L2.St->Hp->Prop),GS K F ρ σ H->aG K F xs ds->putAll ρ (i::is) ds=some f->(∀j,aC K F ρ σ H F f j H->Q j H)->Gz (jD i) gs xs σ H Q:=by intro is gs o i xs ds F ρ f σ H Q g r h k;cases ds with|nil=>simp[putAll]at h|cons d ds=>obtain⟨v,vs,rfl,h1,q⟩:=r.cA;rw[putAll]at h;obtain⟨l,t,u⟩:=bV h;have s1:=aC.put (r:=.val d) (.refl g) h1 t;refine⟨v,vs,rfl,o vs ds F l f _ H _ s1.gs q u fun j s2=>k j (s1.trans s2)⟩
theorem kI:∀(xs:List V)(ds:List D)(F:Hp)(ρ f:List Sl)(σ:L2.St)(H:Hp)(Q:L2.St->Hp->Prop),GS K F ρ σ H->aG K F xs ds->putAll ρ [] ds=some f->(∀j,aC K F ρ σ H F f j H->Q j H)->Qw xs σ H Q:=by intro xs ds F ρ f σ H Q g r h k;cases ds with|nil=>rw[putAll]at h;cases h;exact⟨r.fW,k σ (.refl g)⟩|cons d ds=>simp[putAll]at h
theorem lK:∀{is:List Nat}{ds:List D}{ρ f:List Sl},putAll ρ is ds=some f->ds.length=is.length|[],[],_,_,_=>rfl|[],_::_,_,_,h=>by simp[putAll]at h|_::_,[],_,_,h=>by simp[putAll]at h|i::is,d::ds,ρ,f,h=>by rw[putAll]at h;obtain⟨g,k,j⟩:=bV h;simp[lK j]
theorem nF{gs:FP}(q:m=is.length)(h:∀(xs:List V)(ds:List D)(F:Hp)(ρ f:List Sl)(σ:L2.St)(H:Hp)(Q:L2.St->Hp->Prop),GS K F ρ σ H->aG K F xs ds->putAll ρ is ds=some f->(∀l,aC K F ρ σ H F f l H->Q l H)->gs xs σ H Q):Ii K (fun ρ d=>cT ρ is false d) (T7 K m gs):=by intro x d F ρ f σ H Q g r j k;replace j:cT ρ is false d=some f:=j;cases d with|tup ds=>replace j:putAll ρ is ds=some f:=j;rw[Rep]at r;obtain⟨a,xs,rfl,h1,o⟩:=r;exact⟨a,xs,rfl,aF.gB g.sub h1,by rw[o.length,lK j,q],h xs _ F ρ f σ H Q g o j k⟩|_=>cases j
theorem oF{g:TG}{one:Bool}(hp:PassesOwn (model X.prog X.w) X.A X.env X.xe)(hc:X.calm=true)(hi:SI X c tg iter p)(hg:PG X tg g)(ac:Ii X.K (fun ρ d=>cT ρ is one d) g)(hb:SB X c n body ss)(hs:∀x,foldedSetIterable iter X.env x=pure x:=by intro _;rfl):SS X c n (.For tg iter body [] pos) (.iM p is one ss):=by
 refine dw (JH hp hc hi hg hb hs) ?_;rintro D σ H⟨F,ρ,fl,t,g0,e,k⟩;rw[HH.X14]at e;obtain⟨ds,o,e1,e⟩:=aj e;obtain⟨af,I,e2,e⟩:=aj e;cases e;refine⟨F,ρ,ds,o,g0,e1,fun J F1 H1 w=>?_⟩;have src:∀(i:Nat)(U:Hp)(t:List Sl)(h:L2.St)(j:Hp),aC X.K F1 o σ H1 U t h j->(∀d,ds[i]?=some d->J.go i j/\∀x kY,J.JP i j x kY->∃L,Ext U j L kY/\Rep X.K L x d)/\(ds.length<=i->J.stop i j):=fun i U t h j s=>w.src 0 i U t h j (by simpa using s);refine⟨fun i m q W=>∃G f,aC X.K F1 o σ H1 G f q W/\m=ds.length-i/\i<=ds.length/\iD is one (iz c n ss) (ds.drop i) f=.ok fl I,⟨_,F1,o,.refl w.gs,rfl,vf,e2⟩,?_⟩;rintro i m q W⟨G,f,Y,rfl,ag,l⟩;obtain⟨s1,s2⟩:=src i G f q W Y;by_cases u:i<ds.length
 . right;have hd:ds[i]?=some ds[i]:=by simp[u]
   obtain⟨go,step⟩:=s1 _ hd;refine⟨go,fun h j=>∃m',m'<ds.length-i/\∃G f,aC X.K F1 o σ H1 G f h j/\m'=ds.length-(i+1)/\i+1<=ds.length/\iD is one (iz c n ss) (ds.drop (i+1)) f=.ok fl I,fun h j z=>z,fun x j y=>?_⟩;obtain⟨F2,ext,rx⟩:=step x j y;have M:=Y.trans (ext.stp Y.gs);rw[drop_eq_getElem_cons u,iD]at l;cases hbd:cT f is one ds[i]with|none=>rw[hbd]at l;cases l|some N=>rw[hbd]at l;obtain⟨O,C,eb,l⟩:=aj l;refine ac x _ F2 f N q j _ M.gs rx hbd fun ah sb=>?_;have E:=M.trans sb;refine⟨F2,N,O,C,E.gs,eb,fun Z Q H4 s4=>?_⟩;have B:=E.trans s4;cases O with|next=>exact⟨_,by omega,Z,C,B,rfl,u,l⟩|cont=>exact⟨_,by omega,Z,C,B,rfl,u,l⟩|brk=>cases l;exact k Z Q H4 (w.fin _ _ _ _ B).1|ret r=>cases l;intro v rr;obtain⟨z1,z2⟩:=w.fin _ _ _ _ B;exact k Z Q H4 z1 v (z2 v r (rr.later E))
 . left;have ae:ds.drop i=[]:=by rw[drop_eq_nil_iff];omega
   rw[ae,iD]at l;cases l;exact⟨s2 (by omega),k G q W (w.fin _ _ _ _ Y).1⟩
theorem nC(i:Nat):(fun(ρ:List Sl)(d:D)=>cT ρ [i] true d)=fun ρ d=>put ρ i (.val false d):=by funext ρ d;rfl
theorem BX{f:Pos}(h:PassesOwn (model X.prog X.w) X.A X.env X.xe)(hc:X.calm=true)(j:X.N.Nodup)(g:X.N[i]?=some x)(k:Loc X.env.scope x)(hi:SI X c (.Name x f) iter p)(l:SB X c n body ss)(hs:∀x,foldedSetIterable iter X.env x=pure x:=by intro _;rfl)(o:X.fn x=true\/X.env.scope.names.lookup x=some .local:=by first|exact .inl rfl|exact .inr rfl|assumption):SS X c n (.For (.Name x f) iter body [] pos) (.iM p [i] true ss):=oF h hc hi (aL j g k o) (by rw[nC];exact vg i) l hs
theorem zb(M:PassesOwn (model X.prog X.w) X.A X.env X.xe)(ht:ST X c e p)(O:SB X c n body ss):SS X c n (.While e body [] pos) (.whl p ss):=by refine dw (Jy M ht O) ?_;rintro D σ H⟨F,ρ,fl,o,g,e,k⟩;rw[HH.X15]at e;refine⟨fun m j E=>∃q f,aC X.K F ρ σ H q f j E/\sH (jc (HH.ev c p)) (iz c n ss) m f=.ok fl o,⟨n,F,ρ,.refl g,e⟩,?_⟩;rintro m j E⟨q,f,G,h⟩;cases m with|zero=>rw[sH]at h;cases h|succ m=>rw[sH]at h;obtain⟨b,t,Q,h⟩:=aj h;refine⟨q,f,b,t,G.gs,Q,fun F1 U s1=>?_⟩;have s2:=G.trans s1;cases b with|false=>rw[if_neg Bool.false_ne_true]at h;cases h;exact k F1 j U s2|true=>rw[if_pos rfl]at h;obtain⟨u,l,W,h⟩:=aj h;refine(show ∃N:L2.St->Hp->Prop,_/\_ from⟨fun y I=>∃J,J<m+1/\∃q f,aC X.K F ρ σ H q f y I/\sH (jc (HH.ev c p)) (iz c n ss) J f=.ok fl o,fun y I z=>z,F1,t,u,l,s2.gs,W,fun C B L s4=>?_⟩);have s5:=s2.trans s4;cases u with|next=>exact⟨m,by omega,C,l,s5,h⟩|cont=>exact⟨m,by omega,C,l,s5,h⟩|brk=>cases h;exact k C B L s5|ret r=>cases h;exact fun v Y=>k C B L s5 v (Y.later s2)
end
section
variable{X:Cx}{c:Call}{n:Nat}{e elt tg iter:Expr}{p ps pe:P}{pos:Pos}{scope:Scope}{N':List Str}{ifs:List Expr}
theorem HX{t t':TE}(h:PE X e t)(i:∀σ H Q,σ.length=X.N.length->t' σ H Q->t σ H Q):PE X e t':=fun a s σ H Q I q=>h a s σ H Q I (i σ H Q I.len q)
theorem Gb{st:Stmt}{t t':TS}(h:PS X st t)(i:∀D σ H,σ.length=X.N.length->t' D σ H->t D σ H):PS X st t':=fun a s σ H D I q=>h a s σ H D I (i D σ H I.len q)
def lz(K:PySem.W.Frag)(m:Nat)(is:List Nat)(one:Bool)(g:TG):Prop:=∀(x:V)(d:D)(F:Hp)(ρ b:List Sl)(σ:L2.St)(H:Hp)(Q:L2.St->Hp->Prop),GS K F ρ σ H->Rep K F x d->cT ρ is one d=some b->(∀a,aC K F ρ σ H F b a H->a.take m=σ.take m->Q a H)->g x σ H Q
theorem take_set{b:Type}{l:List b}{a:b}(h:m<=i):(l.set i a).take m=l.take m:=by rw[List.take_set_of_le h]
theorem dR(h:m<=i):lz K m [i] true (jD i):=fun x d F ρ a σ H Q g r b k=>k _ (aC.put (r:=.val d) (.refl g) r b) (take_set h)
def Ma(K:PySem.W.Frag)(m:Nat)(is:List Nat)(gs:FP):Prop:=∀(xs:List V)(ds:List D)(F:Hp)(ρ b:List Sl)(σ:L2.St)(H:Hp)(Q:L2.St->Hp->Prop),GS K F ρ σ H->aG K F xs ds->putAll ρ is ds=some b->(∀a,aC K F ρ σ H F b a H->a.take m=σ.take m->Q a H)->gs xs σ H Q
theorem cz{gs:FP}(hi:m<=i)(j:Ma K m is gs):Ma K m (i::is) (Gz (jD i) gs):=by intro xs ds F ρ a σ H Q g r h k;cases ds with|nil=>simp[putAll]at h|cons d ds=>obtain⟨v,vs,rfl,h1,l⟩:=r.cA;rw[putAll]at h;obtain⟨b,o,q⟩:=bV h;have s1:=aC.put (r:=.val d) (.refl g) h1 o;exact⟨v,vs,rfl,j vs ds F b a _ H _ s1.gs l q fun f s2 z=>k f (s1.trans s2) (z.trans (take_set hi))⟩
theorem iU:Ma K m [] Qw:=by intro xs ds F ρ a σ H Q g r h k;cases ds with|nil=>rw[putAll]at h;cases h;exact⟨r.fW,k σ (.refl g) rfl⟩|cons d ds=>simp[putAll]at h
theorem jd{gs:FP}{l:Nat}(o:l=is.length)(h:Ma K m is gs):lz K m is false (T7 K l gs):=by intro x d F ρ b σ H Q g r f k;cases d with|tup ds=>replace f:putAll ρ is ds=some b:=f;rw[Rep]at r;obtain⟨a,xs,rfl,h1,j⟩:=r;exact⟨a,xs,rfl,aF.gB g.sub h1,by rw[j.length,lK f,o],h xs _ F ρ b σ H Q g j f k⟩|_=>cases f
def SQ(X:Cx)(c:Call)(ifs:List Expr)(t:Option P):Prop:=Ut X ifs (Ed X.K (qd c t))
theorem cO:SQ X c [] none:=fun a s σ H Q I⟨F,ρ,k,ρ',g,e,q⟩=>by rw[qd]at e;cases e;exact K4 a s σ H Q I (q F H (.refl g))
theorem CW(h:ST X c e p):SQ X c [e] (some p):=fun a s σ H Q I⟨F,ρ,k,ρ',g,e,q⟩=>by rw[qd]at e;exact K7 h a s σ H Q I ⟨F,ρ,k,ρ',g,e,q⟩
theorem aC.Ig{F1 j:Hp}{f:List Sl}{g:L2.St}{Da:Addr}{o:HO}(s:aC K F ρ σ H F1 f g j)(h:H Da=none)(q:F1 Da=none)(ho:¬ Own f g Da):aC K F ρ σ H F1 f g (upd j Da o):=by
 refine⟨⟨fun b u e=>?_,s.gs.len,s.gs.val,fun i t ds e k=>?_,s.gs.dis⟩,s.bN,s.yh,fun b u e n=>?_,s.vW,s.len,s.lk⟩
 . have:b≠Da:=by rintro rfl;rw[q]at e;cases e
   rw[aD this];exact s.gs.sub b u e
 . obtain⟨a,xs,l,r,w,y⟩:=s.gs.own i t ds e k;have:a≠Da:=by rintro rfl;exact ho ⟨i,⟨t,ds,e,k⟩,l⟩
   exact⟨a,xs,l,by rw[aD this];exact r,w,y⟩
 . have:b≠Da:=by rintro rfl;rw[h]at e;cases e
   rw[aD this];exact s.keep b u e n
theorem qX{b r:List Sl}{ul:List Sl->List Sl}{ti:TI}{one:Bool}{u:List Sl->Res Bool}{el:Ev}{g:TG}{Q:VK}{xs:List D}(hm:σ.length=m)(ah:lz K m is one g)(ai:∀R:It->Hp->Prop,(∀J F1 W,Walk K F ρ σ H ul J ds F1 b W->R J W)->ti σ H R)(ap:ds.length<=lim)(e2:turns is one u el ds [] (b++replicate n .aQ)=.ok xs r)(k:∀v F' H',aC K F ρ σ H F' (ul (r.take b.length)) σ H'->cM K F' (ul (r.take b.length)) σ H' ρ σ H v (.own xs)->Q v H'):uq n ti g (Ed K u) (sr K el) σ H Q:=by
 refine ai _ fun J F1 W w Da O=>?_;have al:b.length=σ.length:=w.gs.len;have gm:=w.gs.more (n:=n) (τ:=replicate n none) (by simp);have fD:F1 Da=none:=by cases q:F1 Da with|none=>rfl|some o=>rw[w.gs.sub Da o q]at O;cases O
 have nO:¬ Own (b++replicate n .aQ) (σ++replicate n none) Da:=fun⟨i,⟨t,dt,q1,q2⟩,q3⟩=>by obtain⟨a,ys,z1,z2,_⟩:=gm.own i t dt q1 q2;rw[q3]at z1;cases z1;rw[O]at z2;cases z2
 refine⟨fun i mm ys f G=>∃E h l,aC K F1 (b++replicate n .aQ) (σ++replicate n none) W E h f G/\f.take m=σ/\G Da=some (.lst ys)/\E Da=none/\¬ Own h f Da/\aG K E ys l/\l.length<=i/\mm=ds.length-i/\i<=ds.length/\turns is one u el (ds.drop i) l h=.ok xs r,⟨_,F1,_,[],(aC.refl gm).Ig O fD nO,by rw[List.take_append_of_le_length (by omega),List.take_of_length_le (by omega)],aO,fD,nO,.nil,vf,rfl,vf,e2⟩,?_⟩;rintro i mm ys f G⟨E,h,l,Y,I,Z,hF,hO,rs,ar,rfl,aw,j⟩;refine⟨Z,?_⟩--what stays of the new list through a step
 have stay:∀{L U:Hp}{M:List Sl}{B:L2.St},aC K E h f G L M B U->U Da=some (.lst ys)/\L Da=none/\¬ Own M B Da:=fun{L U M B}s=>by
  refine⟨s.keep Da _ Z hO,?_,fun o=>?_⟩;.cases q:L Da with|none=>rfl|some o=>
      rcases s.yh Da hF (by rw[q];simp)with z|z;.exact absurd z hO
      .exact(Hn Z z).elim
  . rcases s.vW Da o with z|z;.exact hO z
    .rw[Z]at z;cases z
 obtain⟨s1,s2⟩:=w.src n i E h f G Y;by_cases C:i<ds.length
 . right;have hd:ds[i]?=some ds[i]:=by simp[C]
   obtain⟨go,step⟩:=s1 _ hd;refine⟨go,fun x U y=>?_⟩;obtain⟨L,ext,rx⟩:=step x U y;have t2:=ext.stp Y.gs;rw[drop_eq_getElem_cons C,turns]at j;cases hbd:cT h is one ds[i]with|none=>rw[hbd]at j;cases j|some ac=>rw[hbd]at j;obtain⟨bb,N,eb,j⟩:=aj j;refine ah x _ L h ac f U _ t2.gs rx hbd fun B sb ae=>?_;have t3:=t2.trans sb;refine⟨L,ac,bb,N,t3.gs,eb,fun F4 H4 s4=>?_⟩;have t4:=t3.trans s4;cases bb with|false=>rw[if_neg Bool.false_ne_true]at j;obtain⟨y1,y2,y3⟩:=stay t4;exact⟨_,by omega,F4,N,l,Y.trans t4,ae.trans I,y1,y2,y3,rs.mono t4.bN,by omega,rfl,C,j⟩|true=>
       rw[if_pos rfl]at j;obtain⟨re,af,ee,j⟩:=aj j;refine(show sr K el B H4 _ from⟨F4,N,re,af,t4.gs,ee,fun v F5 H5 s5 rr=>?_⟩);obtain⟨F6,s6,_,rp⟩:=s5.dj rr;have t6:=t4.trans s6;obtain⟨y1,y2,y3⟩:=stay t6;have ag:ys.length<sizeLine:=by have h1:=rs.length;have h2:lim=sizeLine:=rfl;omega
       exact⟨y1,ag,_,by omega,F6,af,l++[re.d],(Y.trans t6).Ig O y2 y3,ae.trans I,aO,y2,y3,(rs.mono t6.bN).append (.cons rp .nil),by simp;omega,rfl,C,j⟩
 . left;have am:ds.drop i=[]:=by rw[drop_eq_nil_iff];omega
   rw[am,turns]at j;cases j;refine⟨s2 (by omega),?_⟩;obtain⟨l1,l2⟩:=aC.less (m:=b.length) rfl w.gs (by simp) Y;have hst:f.take b.length=σ:=by rw[al,hm];exact I
   rw[hst]at l1;have rr:cM K E r f G (b++replicate n .aQ) (σ++replicate n none) W (.ref Da) (.own xs):=⟨Da,ys,rfl,Z,hF,rs,hO,.inr O⟩;have Qq:=l2 _ _ rr;rw[hst]at Qq;obtain⟨z1,z2⟩:=w.fin _ _ _ _ l1;exact k _ E G z1 (z2 _ _ Qq)
theorem CP{iv:Option Nat}{f:Ev}{one:Bool}{b:List Sl->Res Bool}{w:Ev}{g:TG}{Q:VK}{r:R}{j:List Sl}(z:σ.length=m)(q:lz K m is one g)(B:GS K F ρ σ H)(e:((srcOf iv f ρ).bind fun ds a=>if ds.length<=lim then(turns is one b w ds [] (a++replicate n .aQ)).bind fun xs l=>Res.ok (R.own xs) (aX ρ iv (l.take a.length))else .stuck)=.ok r j)(k:∀v y t,aC K F ρ σ H y j σ t->cM K y j σ t ρ σ H v r->Q v t):uq n (tIt K iv f) g (Ed K b) (sr K w) σ H Q:=by
 obtain⟨ds,u,C,e⟩:=aj e;split at e;.rename_i o;obtain⟨xs,E,G,e⟩:=aj e;cases e;exact qX z q (fun R h=>⟨F,ρ,ds,u,B,C,h⟩) o G k
 .cases e
theorem fL{g:TG}{one:Bool}{t:Option P}(hc:X.calm=true)(ok:eY X scope N' n)(hi:SI X c tg iter ps)(b:∀cl C s₀ H₀ ex,PG (oR X scope N' cl C s₀ H₀ ex) tg g)(a:lz X.K X.N.length is one g)(ht:∀cl C s₀ H₀ ex,SQ (oR X scope N' cl C s₀ H₀ ex) c ifs t)(he:∀cl C s₀ H₀ ex,SX (oR X scope N' cl C s₀ H₀ ex) c elt pe)(hs:∀x,foldedSetIterable iter X.env x=pure x:=by intro _;rfl):SX X c (.ListComp elt [⟨tg,iter,ifs,0⟩] scope pos) (.comp ps n is one t pe):=by refine⟨HX (Cj (tt:=Ed X.K (qd c t)) (te:=sr X.K (HH.ev c pe)) hc ok hi b ht (fun cl C s₀ H₀ ex=>(he cl C s₀ H₀ ex).ev) hs) ?_,fun i h=>by cases h⟩;rintro σ H Q f⟨F,ρ,r,j,l,e,k⟩;rw[HH.E20]at e;exact CP f a l e k
theorem Ba{a b:Pos}{nn:Nat}{g:TG}{one:Bool}{t:Option P}(hc:X.calm=true)(q:X.N.Nodup)(h:X.N[i]?=some x)(u:Loc X.env.scope x)(ok:eY X scope N' n)(hi:SI X c tg iter ps)(w:∀cl C s₀ H₀ ex,PG (oR X scope N' cl C s₀ H₀ ex) tg g)(j:lz X.K X.N.length is one g)(ht:∀cl C s₀ H₀ ex,SQ (oR X scope N' cl C s₀ H₀ ex) c ifs t)(he:∀cl C s₀ H₀ ex,SX (oR X scope N' cl C s₀ H₀ ex) c elt pe)(l:swapsWith (.ListComp elt [⟨tg,iter,ifs,0⟩] scope pos) (some (.Name x a)) b.line X.env=pure true:=by rfl)(hs:∀x,foldedSetIterable iter X.env x=pure x:=by intro _;rfl)(y:X.fn x=true\/X.env.scope.names.lookup x=some .local:=by first|exact .inl rfl|exact .inr rfl|assumption):SS X c nn (.Assign [.Name x a] (.ListComp elt [⟨tg,iter,ifs,0⟩] scope pos) b) (.asg i (.comp ps n is one t pe)):=by refine Gb (uw (tt:=Ed X.K (qd c t)) (te:=sr X.K (HH.ev c pe)) hc q h u ok hi w ht (fun cl C s₀ H₀ ex=>(he cl C s₀ H₀ ex).ev) l hs y) ?_;rintro D σ H z⟨F,ρ,fl,B,E,e,k⟩;rw[HH.X6]at e;obtain⟨r,G,o,e⟩:=aj e;obtain⟨I,J,f,e⟩:=aj e;cases e;have L:=aB f;clear f;obtain⟨f,Q⟩:=L;rw[HH.E20]at o;exact CP z j E o fun v F1 M s1 O=>k F1 _ M (s1.put O f)
end
section
variable{X:Cx}{c:Call}{n:Nat}{e a b d:Expr}{p pa pb pd:P}{pos:Pos}{es:List Expr}{ps:List P}
noncomputable def tyN:D->String|.non=>"NoneType"|.bl _=>"bool"|.int _=>"int"|.str _=>"str"|.tup _=>"tuple"|.lst _=>"list"|.eO _=>"dict"|.dv _ _=>"dict"
noncomputable def zu:Ty->String|.none=>"NoneType"|.bool=>"bool"|.int=>"int"|.str=>"str"|.tuple=>"tuple"|.list=>"list"
theorem Qe(K:PySem.W.Frag)(t:Ty)(d:D):PySem.W.kitOne K (.type (tyN d)) (.type (zu t))=some (cB t d):=by cases t<;>cases d<;>rfl
theorem Ar(K:PySem.W.Frag)(d:D):∀f:List Ty,PySem.W.kitAny K (.type (tyN d)) (f.map fun t=>Value.type (zu t))=some (f.any fun t=>cB t d)|[]=>rfl|t::f=>by rw[map_cons,PySem.W.kitAny,Qe,any_cons];cases cB t d with|true=>rfl|false=>rw[Bool.false_or];exact Ar K d f
theorem Om{k:List (Addr×Obj)}{x:V}{u:Value}{dt:D}(I:L2.Inv X k σ H s)(sm:aF F H)(g:dC X.K F H x dt)(f:RelV x u):(∃r,PySem.W.KitX X.K u (.type (tyN dt)) r/\r s.heap)/\u≠.builtin "__main__.__loader__#opaque":=by cases dt with|non=>rw[g.non]at f;cases f;exact⟨⟨_,PySem.W.kitx_none,trivial⟩,nofun⟩|bl y=>rw[g.bl]at f;cases f;exact⟨⟨_,PySem.W.kitx_bool,trivial⟩,nofun⟩|int i=>rw[g.int]at f;obtain⟨t,rfl⟩:=f;exact⟨⟨_,PySem.W.kitx_int,trivial⟩,nofun⟩|str y=>rw[g.str]at f;obtain⟨t,rfl⟩:=f;exact⟨⟨_,PySem.W.kitx_str,trivial⟩,nofun⟩|tup ds=>obtain⟨q,xs,rfl,h,_⟩:=g.tup sm;cases f;obtain⟨l,_,⟨o,h1,j,_⟩,_⟩:=I.tuple h;exact⟨⟨_,PySem.W.kitx_tuple,⟨o,h1,j⟩⟩,nofun⟩|lst ds=>obtain⟨q,xs,rfl,h,_⟩:=g.lst sm;cases f;obtain⟨l,_,w,_⟩:=I.list h;obtain⟨o,h1,j,_⟩:=w.isList;exact⟨⟨_,PySem.W.kitx_list,⟨o,h1,j⟩⟩,nofun⟩|eO m=>obtain⟨q,_,rfl,h⟩:=g.eO sm;cases f;obtain⟨o,h1,j⟩:=Hf I h;exact⟨⟨_,kitx_dict,⟨o,h1,j⟩⟩,nofun⟩|dv ks ds=>obtain⟨q,_,vs,rfl,h,_⟩:=g.dv sm;cases f;obtain⟨o,h1,j⟩:=Ij I h;exact⟨⟨_,kitx_dict,⟨o,h1,j⟩⟩,nofun⟩
theorem QH(t:Ty):dI X (.builtin "isinstance") (fun xs H Q=>∃x F dt,xs=[x,.ty (zu t)]/\aF F H/\dC X.K F H x dt/\Q (.bl (cB t dt)) H):=by rintro g s σ H xs w Q I r⟨x,F,dt,h,sm,j,q⟩;subst h;obtain⟨u,k,rfl,l,rt⟩:=r.two;cases(show k=Value.type (zu t)from rt);obtain⟨⟨y,Z,hz⟩,f⟩:=Om I sm j l;exact PySem.W.kia_one Z I.Pb hz (Qe _ t dt) f fun o=>⟨.bl _,H,I.tok o,rfl,q⟩
theorem BP:∀{g:List Ty}{f:List Value},Vals (g.map fun t=>V.ty (zu t)) f->f=g.map fun t=>Value.type (zu t)|[],_,h=>h.zero|t::g,_,.cons r1 j=>by rw[map_cons,<-BP j,show _=_ from r1]
theorem KZ(g:List Ty):dI X (.builtin "isinstance") (fun xs H Q=>∃x F dt q,xs=[x,.ref q]/\H q=some (.tup (g.map fun t=>V.ty (zu t)))/\aF F H/\dC X.K F H x dt/\Q (.bl (g.any fun t=>cB t dt)) H):=by rintro l s σ H xs J Q I r⟨x,F,dt,q,o,y,sm,z,k⟩;subst o;obtain⟨u,B,rfl,C,rt⟩:=r.two;cases(show B=Value.ref q from rt);obtain⟨⟨L,Z,hz⟩,h⟩:=Om I sm z C;obtain⟨_,j,E,⟨⟨cls,M,data,sl⟩,ho,hc,n,hd⟩⟩:=(show bJ X.prog X.w H s.heap q (.tup _)from I.hok q _ y);simp only at hc hd;subst hc hd;have f:j=g.map fun t=>Value.type (zu t):=BP E;subst f;exact PySem.W.kia_tup Z I.Pb hz ho (Ar _ dt g) h fun G=>⟨.bl _,H,I.tok G,rfl,k⟩
theorem v5:bootBuiltins "isinstance"=some (.builtin "isinstance"):=by decide+kernel
theorem ye{y:Str}{p2:Pos}(t:Ty)(u:x="isinstance")(w:Gl X x)(z:X.mg x=none)(B:SX X c a pa)(f:Gl X y)(j:X.mg y=none)(C:bootBuiltins y=some (.type (zu t)))(l:y≠"__name__":=by decide)(o:(y==("__debug__":Str))=false:=by decide)(hs:starEach [a,.Name y p2] X.env=(false,eval a X.env)::starEach [.Name y p2] X.env:=by rfl):SX X c (.Call (.Name x p') [a,.Name y p2] [] pos) (.inst [t] pa):=by subst u;obtain⟨N,h1,E⟩:=B.cC;refine⟨di (dO (QH t) w z v5 (bC h1 (bC (BJ (v:=.ty (zu t)) f j C rfl l o) cW) hs) (he:=hs)) ?_,fun i h=>by cases h⟩;rintro σ H Q⟨F,ρ,r,G,g,e,k⟩;rw[HH.E19]at e;obtain⟨dt,I,J,e⟩:=aj e;cases e;refine E g J fun v q L s M=>⟨v,q,dt,rfl,s.gs.sub,M,k _ q L s ?_⟩;show Rep X.K q _ _;rw[any_cons,List.any_nil,Bool.or_false];exact fu _
def My(X:Cx)(f:List Ty)(es:List Expr):Prop:=PA X es (fun _ H Q=>Q (f.map fun t=>V.ty (zu t)) H)
theorem Nv:My X [] []:=qF cW fun _ _ _ h=>h
theorem v9{y:Str}{p2:Pos}{l:List Ty}(t:Ty)(f:Gl X y)(g:X.mg y=none)(o:bootBuiltins y=some (.type (zu t)))(h:My X l es)(j:y≠"__name__":=by decide)(k:(y==("__debug__":Str))=false:=by decide)(hs:starEach (.Name y p2::es) X.env=(false,eval (.Name y p2) X.env)::starEach es X.env:=by rfl):My X (t::l) (.Name y p2::es):=qF (bC (BJ (v:=.ty (zu t)) f g o rfl j k) h hs) fun _ _ _ h=>h
theorem Jk{p2:Pos}{k2}{j:List Ty}(w:x="isinstance")(B:Gl X x)(C:X.mg x=none)(E:SX X c a pa)(ht:My X j es)(hz:j.length<=sizeLine:=by decide)(hs:starEach [a,.Tuple es k2 p2] X.env=(false,eval a X.env)::starEach [.Tuple es k2 p2] X.env:=by rfl):SX X c (.Call (.Name x p') [a,.Tuple es k2 p2] [] pos) (.inst j pa):=by
 subst w;obtain⟨N,h1,G⟩:=E.cC;refine⟨di (dO (KZ j) B C v5 (bC h1 (bC (GD ht) cW) hs) (he:=hs)) ?_,fun i h=>by cases h⟩;rintro σ H Q⟨F,ρ,r,I,g,e,k⟩;rw[HH.E19]at e;obtain⟨dt,J,L,e⟩:=aj e;cases e;refine G g L fun v f l s M=>⟨by rw[length_map];exact hz,fun q u=>?_⟩;have O:f q=none:=by cases z:f q with|none=>rfl|some o=>rw[s.gs.sub q o z]at u;cases u
 have sm:aF l (upd l q (.tup (j.map fun t=>V.ty (zu t)))):=aF.cg u;have ext:Ext f l f (upd l q (.tup (j.map fun t=>V.ty (zu t)))):=⟨sm,.refl _,s.gs.sub.trans sm,fun _ x y=>absurd x y⟩;refine⟨v,f,dt,q,rfl,aO,s.gs.sub.trans sm,M.mono (.refl _) (fun a xs _ z=>sm a _ z),k _ f _ (s.trans (ext.stp s.gs)) (show Rep X.K f _ _ from fu _)⟩
inductive rBn(K:PySem.W.Frag)(f:List D->Option R)(xs:List V)(H:Hp)(Q:VK):Prop where|mk(F:Hp)(ds:List D)(r:R)(sm:aF F H)(rs:aG K F xs ds)(he:f ds=some r)(k:∀v F' H',Ext F H F' H'->cj K F' H' H v r->Q v H')
theorem Px{E:Expr}{f:List D->Option R}{q:P}(o:∀{t},PA X es t->PE X E (tCB (rBn X.K f) t))(u:SA X c es ps)(y:∀ρ,HH.ev c q ρ=(evs c ps ρ).bind fun ds ρ=>lift (f ds) ρ)(z:isVar q=none):SX X c E q:=by refine⟨di (o u.1) ?_,fun i h=>by rw[z]at h;cases h⟩;rintro σ H Q⟨F,ρ,r,B,g,e,k⟩;rw[y]at e;obtain⟨ds,l,C,j⟩:=aj e;have G:=aB j;clear j;obtain⟨j,I⟩:=G;subst I;exact⟨F,ρ,ds,l,g,C,fun vs J U s L=>⟨J,ds,r,s.gs.sub,L,j,fun w M N x O=>k w M N (s.trans (x.stp s.gs)) (.later s (O.nj s.gs))⟩⟩
theorem O2{xs:List V}{i j:Int}(h:aG K F xs [.int i,.int j]):xs=[.int i,.int j]:=by obtain⟨v,r,rfl,h1,g⟩:=h.cA;obtain⟨u,l,rfl,f,k⟩:=g.cA;rw[Rep]at h1 f;rw[h1,f,k.fW]
theorem inv2{f:YL}{g:Int->Int->Int}{r:R}(h0:blt f []=none)(h1:∀a,blt f [a]=none)(o:∀a b c l,blt f (a::b::c::l)=none)(q:∀a b,gO a=false->blt f [a,b]=none)(t:∀i b,gO b=false->blt f [.int i,b]=none)(hi:∀i j,blt f [.int i,.int j]=some (.val (.int (g i j))))(he:blt f ds=some r):∃i j,ds=[.int i,.int j]/\r=.val (.int (g i j)):=by
 rcases ds with _|⟨a,_|⟨b,_|⟨c,l⟩⟩⟩;.rw[h0]at he;cases he
 .rw[h1]at he;cases he
 . by_cases h:gO a=true
   . obtain⟨i,rfl⟩:∃i,a=.int i:=by cases a<;>first|exact⟨_,rfl⟩|cases h
     by_cases k:gO b=true
     . obtain⟨j,rfl⟩:∃j,b=.int j:=by cases b<;>first|exact⟨_,rfl⟩|cases k
       rw[hi]at he;cases he;exact⟨i,j,rfl,rfl⟩
     .rw[t i b (by simpa using k)]at he;cases he
   .rw[q a b (by simpa using h)]at he;cases he
 .rw[o]at he;cases he
theorem Up(hc:X.calm=true):dI X (.builtin "min") (rBn X.K (blt .min2)):=by rintro f s σ H xs o Q I r⟨F,ds,t,sm,q,he,k⟩;obtain⟨i,j,rfl,rfl⟩:=inv2 (g:=fun i j=>if j<i then j else i) rfl (fun a=>by cases a<;>rfl) (fun a b c l=>by cases a<;>first|rfl|(cases b<;>rfl)) (fun a b h=>by cases a<;>first|rfl|cases h) (fun i b h=>by cases b<;>first|rfl|cases h) (fun _ _=>rfl) he;rw[O2 q]at r;exact DW hc f s σ H _ o Q I r ⟨_,_,rfl,cj.cX sm (bL _) k⟩
theorem QX(hc:X.calm=true):dI X (.builtin "max") (rBn X.K (blt .max2)):=by rintro f s σ H xs o Q I r⟨F,ds,t,sm,q,he,k⟩;obtain⟨i,j,rfl,rfl⟩:=inv2 (g:=fun i j=>if i<j then j else i) rfl (fun a=>by cases a<;>rfl) (fun a b c l=>by cases a<;>first|rfl|(cases b<;>rfl)) (fun a b h=>by cases a<;>first|rfl|cases h) (fun i b h=>by cases b<;>first|rfl|cases h) (fun _ _=>rfl) he;rw[O2 q]at r;exact Eg hc f s σ H _ o Q I r ⟨_,_,rfl,cj.cX sm (bL _) k⟩
theorem boot_min:bootBuiltins "min"=some (.builtin "min"):=by decide+kernel
theorem boot_max:bootBuiltins "max"=some (.builtin "max"):=by decide+kernel
theorem CN(f:x="min")(hc:X.calm=true)(g:Gl X x)(j:X.mg x=none)(k:SA X c [a,b] [pa,pb])(hs:starEach [a,b] X.env=(false,eval a X.env)::starEach [b] X.env:=by rfl)(hpl:(backTo pos (starEach [b] X.env)).any (·.1)=false:=by rfl):SX X c (.Call (.Name x p') [a,b] [] pos) (.blt .min2 [pa,pb]):=by subst f;exact Px (fun h=>dO (Up hc) g j boot_min h (he:=hs) (hpl:=hpl)) k (fun ρ=>rfl) rfl
theorem Mg(f:x="max")(hc:X.calm=true)(g:Gl X x)(j:X.mg x=none)(k:SA X c [a,b] [pa,pb])(hs:starEach [a,b] X.env=(false,eval a X.env)::starEach [b] X.env:=by rfl)(hpl:(backTo pos (starEach [b] X.env)).any (·.1)=false:=by rfl):SX X c (.Call (.Name x p') [a,b] [] pos) (.blt .max2 [pa,pb]):=by subst f;exact Px (fun h=>dO (QX hc) g j boot_max h (he:=hs) (hpl:=hpl)) k (fun ρ=>rfl) rfl
end
section
variable{X:Cx}{c:Call}{n:Nat}{e a b d:Expr}{p pa pb pd:P}{pos:Pos}{es:List Expr}{ps:List P}
theorem vd(g:GS K F ρ σ H)(h:yH ρ i=some ds):∃a xs,σ[i]?=some (some (V.ref a))/\eV K H a xs:=by
 unfold yH at h;split at h;.rename_i q;cases h;obtain⟨v,h1,f⟩:=g.pk q;obtain⟨a,xs,rfl,j,_⟩:=f.lst g.sub;exact⟨a,xs,h1,j⟩
 .cases h
theorem KC{k:Nat}{h f:Pos}(I:X.N[k]?=some x)(J:vV X.env.scope x)(hi:SX X c b pb)(he:SX X c e p)(L:∀ v,assign (.Subscript (.Name x h) b f) X.env v=(do
  let l<-holding [v] (eval (.Name x h) X.env)let iv<-holding [v,l] (eval b X.env)standAt f
  holding [v,l,iv] (setItem l iv v)release [v,l,iv] []):=by intro _;rfl)(hs:swapsWithSole [.Subscript (.Name x h) b f] e pos.line X.env=pure false:=by rfl)(M:swappedStores [.Subscript (.Name x h) b f] e X.env=pure none:=by rfl)(h1:(assignEach [.Subscript (.Name x h) b f] X.env).map (·.2)=[assign (.Subscript (.Name x h) b f) X.env]:=by rfl)(hd:(x==("__debug__":Str))=false:=by decide)(u:(x==("__classdict__":Str))=false:=by decide):SS X c n (.Assign [.Subscript (.Name x h) b f] e pos) (.Oa k pb p):=by
 obtain⟨ti,w,y⟩:=hi.cC;refine dw (GQ he.ev (Rb (fC I J hd u) w set_list L) hs M h1) ?_;rintro D σ H⟨F,ρ,fl,O,g,e,Q⟩;rw[HH.X9]at e;obtain⟨r,z,U,e⟩:=aj e;obtain⟨x0,C,t,e⟩:=aj e;have W:=aB t;clear t;obtain⟨t,Y⟩:=W;subst Y;obtain⟨dk,Z,e2,e⟩:=aj e;refine⟨F,ρ,r,z,g,U,fun v F1 H1 s1 rr=>?_⟩;obtain⟨F2,s2,_,rp⟩:=s1.dj rr;obtain⟨o,ho,_⟩:=s2.gs.pk t;refine⟨o,ho,y s2.gs e2 fun vi F3 H3 s3 pi=>?_⟩;split at e
 . rename_i bb ds B q;split at e;.rename_i j hj;cases e;obtain⟨ad,xs,E,q2,q3,G⟩:=s3.gs.lG k _ ds q rfl;rw[ho]at E;cases E;refine⟨ad,xs,B,j,rfl,pi.int,q2,by rw[G.length];exact hj,?_⟩;exact Q F3 σ _ ((s2.trans s3).trans (s3.gs.mut q ho (G.set (rp.mono s3.bN) j)))
   .cases e
 .cases e
theorem dm{k:Nat}{o h f:Pos}(G:X.N[k]?=some x)(I:vV X.env.scope x)(he:SX X c e p)(j:(h.endLine==f.line)=true:=by rfl)(hs:starEach [e] X.env=(false,eval e X.env)::starEach [] X.env:=by rfl)(l:attributeBase (.Name x o) "append" X.env (eval (.Name x o) X.env)=eval (.Name x o) X.env:=by rfl)(t:((backTo f (starEach [e] X.env)).all (fun x=>!x.1)&&(backToKw f (keywordEach [] X.env)).all (fun x=>x.1.isSome)&&decide ([e].length+([]:List Keyword).length+(if([]:List Keyword).isEmpty then 0 else 1)<30))=true:=by rfl)(w:swapsWith (.Call (.Attribute (.Name x o) "append" h) [e] [] f) none pos.line X.env=pure false:=by rfl)(hd:(x==("__debug__":Str))=false:=by decide)(y:(x==("__classdict__":Str))=false:=by decide):SS X c n (.Expr (.Call (.Attribute (.Name x o) "append" h) [e] [] f) pos) (.app k p):=by
 refine dw (pW (IW plainAttrs_list PySem.F.slot_list_append PySem.F.type_list_append nQ (fC G I hd y) (bC he.ev cW hs) l t j hs) w) ?_;rintro D σ H⟨F,ρ,fl,J,g,e,L⟩;rw[HH.X10]at e;obtain⟨d0,M,u,e⟩:=aj e;have O:=aB u;clear u;obtain⟨u,Q⟩:=O;subst Q;obtain⟨r,z,U,e⟩:=aj e;obtain⟨a,xs,h1,W⟩:=vd g u;refine⟨.ref a,h1,.inl ⟨rfl,xs,W⟩,F,ρ,r,z,g,U,fun v F1 H1 s1 Y=>?_⟩;obtain⟨Z,s2,_,rp⟩:=s1.dj Y;split at e
 . rename_i bb ds q;split at e;.rename_i B;cases e;obtain⟨ad,ys,C,q2,q3,E⟩:=s2.gs.lG k _ ds q rfl;rw[h1]at C;cases C;exact⟨_,ys,v,rfl,rfl,q2,by rw[E.length];exact B,L Z σ _ (s2.trans (s2.gs.mut q h1 (E.append (.cons rp .nil))))⟩
   .cases e
 .cases e
theorem QZ{j:Nat}{y:Str}{l o pt:Pos}{kt k2 Vf}(hc:X.calm=true)(C:X.N.Nodup)(hi:X.N[i]?=some x)(E:X.N[j]?=some y)(q:i≠j)(G:X.env.scope.names.lookup x=some .local)(I:X.env.scope.names.lookup y=some .local)(J:SX X c a pa)(L:SX X c b pb)(M:swappedStores [.Tuple [.Name x l,.Name y o] kt pt] (.Tuple [a,b] k2 Vf) X.env=pure (some [x,y]):=by rfl)(hs:swapsWithSole [.Tuple [.Name x l,.Name y o] kt pt] (.Tuple [a,b] k2 Vf) pos.line X.env=pure false:=by rfl)(h1:starEach [a,b] X.env=(false,eval a X.env)::starEach [b] X.env:=by rfl)(O:starEach [b] X.env=(false,eval b X.env)::starEach [] X.env:=by rfl):SS X c n (.Assign [.Tuple [.Name x l,.Name y o] kt pt] (.Tuple [a,b] k2 Vf) pos) (.par i j pa pb):=by refine dw (L2.RD hc C hi E q G I (bC J.ev (bC L.ev cW O) h1) M hs) ?_;rintro D σ H⟨F,ρ,fl,Q,g,e,k⟩;rw[HH.X7]at e;obtain⟨r,f,U,e⟩:=aj e;obtain⟨B,t,W,e⟩:=aj e;obtain⟨Y,Z,h,e⟩:=aj e;cases e;have zz:=aB h;clear h;obtain⟨h,e4⟩:=zz;obtain⟨ac,e5,e6⟩:=bV h;refine⟨F,ρ,r,f,g,U,fun v F1 H1 s1 rr=>?_⟩;obtain⟨F2,s2,_,rp⟩:=s1.dj rr;refine⟨F2,f,B,t,s2.gs,W,fun u F3 H3 s3 w=>?_⟩;obtain⟨F4,s4,_,z⟩:=s3.dj w;refine⟨v,u,rfl,?_⟩;have t4:=s2.trans s4;have t5:=t4.put (r:=.val r.d) (v:=v) (rp.mono s4.bN) e5;exact k F4 _ H3 (t5.put (r:=.val B.d) (v:=u) z e6)
theorem Im{bs:List Bool}(h:ds.mapM yO=some bs):ds=bs.map D.bl:=by induction ds generalizing bs with|nil=>simp at h;subst h;rfl|cons d ds f=>rw[List.mapM_cons]at h;cases hd:yO d with|none=>rw[hd]at h;cases h|some k=>rw[hd]at h;cases hr:ds.mapM yO with|none=>rw[hr]at h;cases h|some r=>rw[hr]at h;cases h;rw[map_cons,<-f hr,mD hd]
theorem Bc{K:PySem.W.Frag}{F:Hp}:∀{bs:List Bool}{xs:List V},aG K F xs (bs.map D.bl)->xs=bs.map V.bl|[],_,h=>h.fW|k::bs,_,h=>by obtain⟨v,r,rfl,h1,f⟩:=h.cA;rw[Rep]at h1;rw[h1,Bc f];rfl
theorem Bl:∀{bs:List Bool}{f:List Value},Vals (bs.map V.bl) f->f=bs.map Value.bool|[],_,h=>h.zero|k::bs,_,.cons r t=>by rw[map_cons,<-Bl t,show _=_ from r]
theorem Nu{id:String}{f:List Bool->Bool}(hc:X.calm=true)(rule:∀{x:Value}{Q:Value->Shared->Prop}{s:Shared},wpAny (model X.prog X.w) X.A.in1 (pyIter x) (fun it g=>∃ I G t n P St y,it=.ref I/\Walks X.prog X.w X.A.in1 I G t n P St/\St 0 g.heap/\TruthOf X.prog X.w X.A.in1 P y/\∀h' B,(∀b o,b∉t->g.heap.get? b=some o->h'.get? b=some o)->Q (.bool (f ((List.range n).map y))) {g with heap:=h',toks:=B}) X.xe s->wpAny (model X.prog X.w) X.A (call (.builtin id) [x]) Q X.xe s):dI X (.builtin id) (fun xs H Q=>∃p ys bs,xs=[.ref p]/\eV X.K H p ys/\ys=bs.map V.bl/\Q (.bl (f bs)) H):=by
 rintro C s σ H xs us Q I r⟨p,ys,bs,J,L,M,k⟩;subst J;subst M;obtain⟨u,rfl,N⟩:=r.one;cases N;obtain⟨O,U,l,hz⟩:=I.list L;have h:=Bl U;subst h;refine rule (wpAny_pyIter_list l.isList ?_);have q:p≠s.heap.objs.size:=by obtain⟨o,h1,_⟩:=l.isList;exact ne_of_lt (lt_size h1)
 refine⟨s.heap.objs.size,_,_,_,_,_,fun i=>bs.getD i false,rfl,Walks.list (prog:=X.prog) (w:=X.w) (A:=X.A.in1) (show X.A.in1.handled=none from I.ok.hd hc) s.heap.objs.size p q (bs.map Value.bool).toArray,⟨⟨_,get?_push_size _ rfl,rfl,rfl⟩,?_⟩,?_,fun h' B kp=>?_⟩;.obtain⟨o,h1,E⟩:=l.isList;exact⟨o,dG h1,E⟩
 . intro i v s' Q' E' j W;have Y:v=.bool (bs.getD i false):=by
    have j:(bs.map Value.bool)[i]?=some v:=by simpa using j
    rw[getElem?_map]at j;obtain⟨k',Z,e2⟩:=map_some j;rw[<-e2,List.getD_eq_getElem?_getD,Z];rfl
   subst Y;exact wpAny_truthy_bool W
 . have e:f ((List.range (bs.map Value.bool).toArray.size).map fun i=>bs.getD i false)=f bs:=by
    congr 1;apply ext_getElem;.simp
    .intro i h1 E;simp at h1;simp[h1]
   rw[e];exact⟨.bl _,H,I.kept (fun b o z=>kp b o (by simp;exact ne_of_lt (lt_size z)) (dG z)),rfl,k⟩
theorem Zx(hc:X.calm=true):dI X (.builtin "all") (Ly X.K fun x=>blt .all [x]):=by rintro g s σ H xs q Q I r⟨x,t,F,d,u,sm,w,he,k⟩;obtain⟨bs,y,he⟩:=map_some (show((yX d).bind fun ds=>ds.mapM yO).map _=some u from he);subst he;obtain⟨ds,j,B⟩:=bV y;have C:=Im B;cases d with|lst es=>cases j;obtain⟨p,ys,rfl,E,l⟩:=w.lst sm;rw[C]at l;refine Nu (f:=fun bs=>bs.all id) hc (fun h=>call_all_walk (wpAny_mono h (fun it o⟨I,fp,wr,n,P,Sx,tr,h1,h2,h3,h4,h5⟩=>⟨I,fp,wr,n,P,Sx,tr,h1,h2,h3,h4,fun h' G kp=>?_⟩) fun _ _ z=>z)) g s σ H xs q Q I r ⟨p,ys,bs,t,E,Bc l,cj.cX sm (fu _) k⟩;have z:=h5 h' G kp;rw[List.all_map]at z;exact z|_=>cases j
theorem boot_all:bootBuiltins "all"=some (.builtin "all"):=by decide+kernel
theorem Ul(f:x="all")(hc:X.calm=true)(g:Gl X x)(j:X.mg x=none)(k:SX X c a pa)(hs:starEach [a] X.env=(false,eval a X.env)::starEach [] X.env:=by rfl):SX X c (.Call (.Name x p') [a] [] pos) (.blt .all [pa]):=by subst f;exact oW (fun h=>dO (Zx hc) g j boot_all h (he:=hs)) k (fun ρ=>rfl) rfl hs
end
section
variable{K:PySem.W.Frag}
theorem jC:∀{xs ys:List D},xs.length≠ys.length->gP xs ys=false|[],[],h=>absurd rfl h|[],_::_,_=>by simp[gP]|_::_,[],_=>by simp[gP]|x::xs,y::ys,h=>by rw[gP,jC (xs:=xs) (ys:=ys) (by simpa using h),Bool.and_false]
theorem gD:∀{xs ys:List D},xs.length=ys.length->gP xs ys=(List.range xs.length).all fun j=>lF (xs.getD j .non) (ys.getD j .non)|[],[],_=>by rw[gP];rfl|[],_::_,h=>by simp at h|_::_,[],h=>by simp at h|x::xs,y::ys,h=>by rw[gP,gD (xs:=xs) (ys:=ys) (by simpa using h),length_cons,List.range_succ_eq_map,all_cons,List.all_map];rfl
mutual
theorem wU:∀d:D,lF d d=true|.non=>rfl|.bl _=>by exact beq_self_eq_true _|.int _=>by exact beq_self_eq_true _|.str _=>by exact beq_self_eq_true _|.tup ds=>by exact j8 ds|.lst ds=>by exact j8 ds|.eO _=>by exact decide_eq_true rfl|.dv ks ds=>by show(decide (ks=ks)&&gP ds ds)=true;rw[j8 ds];simp
theorem j8:∀ds:List D,gP ds ds=true|[]=>by rw[gP]|d::ds=>by rw[gP,wU d,j8 ds];rfl
end
theorem fM{d e:D}(b:flat d=true)(h1:Rep K F v d)(a:Rep K F v e):d=e:=by cases d with
 |tup _=>cases b|lst _=>cases b|eO _=>cases b|dv _ _=>cases b|non=>rw[Rep]at h1;subst h1;cases e with|non=>rfl|tup _=>rw[Rep]at a;obtain⟨_,_,q,_⟩:=a;cases q|lst _=>rw[Rep]at a;obtain⟨_,_,q,_⟩:=a;cases q|eO _=>rw[Rep]at a;obtain⟨_,_,q,_⟩:=a;cases q|dv _ _=>rw[Rep]at a;obtain⟨_,_,_,q,_⟩:=a;cases q|_=>rw[Rep]at a;cases a
 |bl k=>rw[Rep]at h1;subst h1;cases e with|bl _=>rw[Rep]at a;cases a;rfl|tup _=>rw[Rep]at a;obtain⟨_,_,q,_⟩:=a;cases q|lst _=>rw[Rep]at a;obtain⟨_,_,q,_⟩:=a;cases q|eO _=>rw[Rep]at a;obtain⟨_,_,q,_⟩:=a;cases q|dv _ _=>rw[Rep]at a;obtain⟨_,_,_,q,_⟩:=a;cases q|_=>rw[Rep]at a;cases a
 |int k=>rw[Rep]at h1;subst h1;cases e with|int _=>rw[Rep]at a;cases a;rfl|tup _=>rw[Rep]at a;obtain⟨_,_,q,_⟩:=a;cases q|lst _=>rw[Rep]at a;obtain⟨_,_,q,_⟩:=a;cases q|eO _=>rw[Rep]at a;obtain⟨_,_,q,_⟩:=a;cases q|dv _ _=>rw[Rep]at a;obtain⟨_,_,_,q,_⟩:=a;cases q|_=>rw[Rep]at a;cases a
 |str k=>rw[Rep]at h1;subst h1;cases e with|str _=>rw[Rep]at a;cases a;rfl|tup _=>rw[Rep]at a;obtain⟨_,_,q,_⟩:=a;cases q|lst _=>rw[Rep]at a;obtain⟨_,_,q,_⟩:=a;cases q|eO _=>rw[Rep]at a;obtain⟨_,_,q,_⟩:=a;cases q|dv _ _=>rw[Rep]at a;obtain⟨_,_,_,q,_⟩:=a;cases q|_=>rw[Rep]at a;cases a
theorem La{X:Cx}{u:List (Addr×Obj)}(I:L2.Inv X u σ H s)(sm:aF F H):∀n:Nat,(∀d:D,fj n d=true->∀(v:V)(e:D),Rep X.K F v d->Rep X.K F v e->d=e):=by
 have N:∀{a:Addr}{xs ys:List V},iQ X.K F a xs->eV X.K F a ys->False:=fun{a xs ys}h1 b=>by obtain⟨_,_,⟨o,g,j,_⟩,_⟩:=I.tuple (aF.gB sm h1);obtain⟨_,_,w,_⟩:=I.list (sm.seq b);obtain⟨C,c,f,_⟩:=w.isList;rw[g]at c;cases c;rw[j]at f;exact absurd f (by decide)
 have O:∀{a:Addr}{kvs:Dc},Rep X.K F (.ref a) (.eO kvs)->∃o,s.heap.get? a=some o/\o.cls=.type "dict":=fun{a kvs}h=>by rw[Rep]at h;obtain⟨y,_,q,E⟩:=h;cases q;exact Hf I (sm _ _ E)
 have Q:∀{a:Addr}{xs:List V}{kvs:Dc},iQ X.K F a xs->Rep X.K F (.ref a) (.eO kvs)->False:=fun{a xs kvs}h1 b=>by obtain⟨_,_,⟨o,g,j,_⟩,_⟩:=I.tuple (aF.gB sm h1);obtain⟨C,c,f⟩:=O b;rw[g]at c;cases c;rw[j]at f;exact absurd f (by decide)
 have ld:∀{a:Addr}{xs:List V}{kvs:Dc},eV X.K F a xs->Rep X.K F (.ref a) (.eO kvs)->False:=fun{a xs kvs}h1 b=>by obtain⟨_,_,w,_⟩:=I.list (sm.seq h1);obtain⟨o,g,j,_⟩:=w.isList;obtain⟨C,c,f⟩:=O b;rw[g]at c;cases c;rw[j]at f;exact absurd f (by decide)
 have z:∀{a:Addr}{ks:List Int}{es:List D},Rep X.K F (.ref a) (.dv ks es)->∃o,s.heap.get? a=some o/\o.cls=.type "dict":=fun{a ks es}h=>by rw[Rep]at h;obtain⟨y,_,_,q,E,_⟩:=h;cases q;exact Ij I (sm _ _ E)
 have G:∀{a:Addr}{xs:List V}{ks:List Int}{es:List D},iQ X.K F a xs->Rep X.K F (.ref a) (.dv ks es)->False:=fun{a xs ks es}h1 b=>by obtain⟨_,_,⟨o,g,j,_⟩,_⟩:=I.tuple (aF.gB sm h1);obtain⟨C,c,f⟩:=z b;rw[g]at c;cases c;rw[j]at f;exact absurd f (by decide)
 have J:∀{a:Addr}{xs:List V}{ks:List Int}{es:List D},eV X.K F a xs->Rep X.K F (.ref a) (.dv ks es)->False:=fun{a xs ks es}h1 b=>by obtain⟨_,_,w,_⟩:=I.list (sm.seq h1);obtain⟨o,g,j,_⟩:=w.isList;obtain⟨C,c,f⟩:=z b;rw[g]at c;cases c;rw[j]at f;exact absurd f (by decide)
 intro n;induction n with
 |zero=>intro d hd v e h1 b;cases d with|tup _=>simp[fj]at hd|lst _=>simp[fj]at hd|eO _=>simp[fj]at hd|dv _ _=>simp[fj]at hd|non=>exact fM rfl h1 b|bl k=>exact fM rfl h1 b|int k=>exact fM rfl h1 b|str k=>exact fM rfl h1 b
 |succ n U=>
   have all:∀{xs:List V}{ds es:List D},ds.all (fj n)=true->aG X.K F xs ds->aG X.K F xs es->ds=es:=fun{xs ds}=>by induction ds generalizing xs with|nil=>intro es _ h1 b;rw[h1.fW]at b;have:=b.length;exact(List.eq_nil_of_length_eq_zero this.symm).symm|cons d ds L=>intro es p h1 b;rw[all_cons,and_eq_true]at p;obtain⟨v,r,rfl,g,j⟩:=h1.cA;cases es with|nil=>cases b.fW|cons e es=>obtain⟨Y,Z,W,c,f⟩:=b.cA;cases W;rw[U d p.1 v e g c,L p.2 j f]
   intro d hd v e h1 b;cases d with
   |eO _=>simp[fj]at hd|dv _ _=>simp[fj]at hd|tup ds=>
     have p:ds.all (fj n)=true:=by simpa[fj]using hd
     rw[Rep]at h1;obtain⟨a,xs,rfl,l,M⟩:=h1;cases e with|tup es=>rw[Rep]at b;obtain⟨y,ys,q,t,B⟩:=b;cases q;have:=I.kj (aF.gB sm l) (aF.gB sm t);subst this;rw[all p M B]|lst es=>rw[Rep]at b;obtain⟨y,ys,q,t,B⟩:=b;cases q;exact(N l t).elim|eO _=>exact(Q l b).elim|dv _ _=>exact(G l b).elim|_=>rw[Rep]at b;cases b
   |lst ds=>
     have p:ds.all (fj n)=true:=by simpa[fj]using hd
     rw[Rep]at h1;obtain⟨a,xs,rfl,l,M⟩:=h1;cases e with|lst es=>rw[Rep]at b;obtain⟨y,ys,q,t,B⟩:=b;cases q;have:=I.mW (sm.seq l) (sm.seq t);subst this;rw[all p M B]|tup es=>rw[Rep]at b;obtain⟨y,ys,q,t,B⟩:=b;cases q;exact(N t l).elim|eO _=>exact(ld l b).elim|dv _ _=>exact(J l b).elim|_=>rw[Rep]at b;cases b
   |non=>exact fM rfl h1 b|bl k=>exact fM rfl h1 b|int k=>exact fM rfl h1 b|str k=>exact fM rfl h1 b
theorem Bp{d e:D}{u:V}{c:Value}(hd:flat d=true)(he:flat e=true)(h1:Rep K F v d)(a:Rep K F u e)(r1:RelV v c)(b:RelV u u'):SeqAt.EqAt A s c u' (lF d e):=by cases d with
 |tup _=>cases hd|lst _=>cases hd|eO _=>cases hd|dv _ _=>cases hd|non=>rw[Rep]at h1;subst h1;cases(show c=.none from r1);cases e with|tup _=>cases he|lst _=>cases he|eO _=>cases he|dv _ _=>cases he|non=>rw[Rep]at a;subst a;cases(show u'=.none from b);exact SeqAt.EqAt.same _|bl _=>rw[Rep]at a;subst a;cases(show u'=.bool _ from b);exact SeqAt.EqAt.none_bool _|int _=>rw[Rep]at a;subst a;obtain⟨t,rfl⟩:=b;exact SeqAt.EqAt.none_int _ _|str _=>rw[Rep]at a;subst a;obtain⟨t,rfl⟩:=b;exact SeqAt.EqAt.none_str _ _
 |bl _=>rw[Rep]at h1;subst h1;cases(show c=.bool _ from r1);cases e with|tup _=>cases he|lst _=>cases he|eO _=>cases he|dv _ _=>cases he|non=>rw[Rep]at a;subst a;cases(show u'=.none from b);exact SeqAt.EqAt.bool_none _|bl _=>rw[Rep]at a;subst a;cases(show u'=.bool _ from b);exact SeqAt.EqAt.bool_bool _ _|int _=>rw[Rep]at a;subst a;obtain⟨t,rfl⟩:=b;exact SeqAt.EqAt.bool_int _ _ _|str _=>rw[Rep]at a;subst a;obtain⟨t,rfl⟩:=b;exact SeqAt.EqAt.bool_str _ _ _
 |int _=>rw[Rep]at h1;subst h1;obtain⟨t0,rfl⟩:=r1;cases e with|tup _=>cases he|lst _=>cases he|eO _=>cases he|dv _ _=>cases he|non=>rw[Rep]at a;subst a;cases(show u'=.none from b);exact SeqAt.EqAt.int_none _ _|bl _=>rw[Rep]at a;subst a;cases(show u'=.bool _ from b);exact SeqAt.EqAt.int_bool _ _ _|int _=>rw[Rep]at a;subst a;obtain⟨t,rfl⟩:=b;exact SeqAt.EqAt.int_int _ _ _ _|str _=>rw[Rep]at a;subst a;obtain⟨t,rfl⟩:=b;exact int_str _ _ _ _
 |str _=>rw[Rep]at h1;subst h1;obtain⟨t0,rfl⟩:=r1;cases e with|tup _=>cases he|lst _=>cases he|eO _=>cases he|dv _ _=>cases he|non=>rw[Rep]at a;subst a;cases(show u'=.none from b);exact SeqAt.EqAt.str_none _ _|bl _=>rw[Rep]at a;subst a;cases(show u'=.bool _ from b);exact SeqAt.EqAt.str_bool _ _ _|int _=>rw[Rep]at a;subst a;obtain⟨t,rfl⟩:=b;exact str_int _ _ _ _|str _=>rw[Rep]at a;subst a;obtain⟨t,rfl⟩:=b;exact SeqAt.EqAt.str_str _ _ _ _
theorem mQ{e:D}{u:V}{a:Addr}{g:Array Value}(ht:s.heap.IsTuple a g)(b:A.units<cLine)(he:flat e=true)(c:Rep K F u e)(f:RelV u u'):SeqAt.EqAt A s (.ref a) u' (lF (.tup ds) e)/\SeqAt.EqAt A s u' (.ref a) (lF e (.tup ds)):=by cases e with|tup _=>cases he|lst _=>cases he|eO _=>cases he|dv _ _=>cases he|non=>rw[Rep]at c;subst c;cases(show u'=.none from f);exact⟨SeqAt.EqAt.tuple_none ht b,SeqAt.EqAt.none_tuple ht b⟩|bl _=>rw[Rep]at c;subst c;cases(show u'=.bool _ from f);exact⟨SeqAt.EqAt.tuple_bool _ ht b,SeqAt.EqAt.bool_tuple _ ht b⟩|int _=>rw[Rep]at c;subst c;obtain⟨t,rfl⟩:=f;exact⟨SeqAt.EqAt.tuple_int _ _ ht b,SeqAt.EqAt.int_tuple _ _ ht b⟩|str _=>rw[Rep]at c;subst c;obtain⟨t,rfl⟩:=f;exact⟨SeqAt.EqAt.tuple_str _ _ ht b,SeqAt.EqAt.str_tuple _ _ ht b⟩
theorem m5{e:D}{u:V}{a:Addr}{g:Array Value}(ht:s.heap.IsList a g)(b:A.units<cLine)(he:flat e=true)(c:Rep K F u e)(f:RelV u u'):SeqAt.EqAt A s (.ref a) u' (lF (.lst ds) e)/\SeqAt.EqAt A s u' (.ref a) (lF e (.lst ds)):=by cases e with|tup _=>cases he|lst _=>cases he|eO _=>cases he|dv _ _=>cases he|non=>rw[Rep]at c;subst c;cases(show u'=.none from f);exact⟨SeqAt.EqAt.list_none ht b,SeqAt.EqAt.none_list ht b⟩|bl _=>rw[Rep]at c;subst c;cases(show u'=.bool _ from f);exact⟨SeqAt.EqAt.list_bool _ ht b,SeqAt.EqAt.bool_list _ ht b⟩|int _=>rw[Rep]at c;subst c;obtain⟨t,rfl⟩:=f;exact⟨SeqAt.EqAt.list_int _ _ ht b,SeqAt.EqAt.int_list _ _ ht b⟩|str _=>rw[Rep]at c;subst c;obtain⟨t,rfl⟩:=f;exact⟨SeqAt.EqAt.list_str _ _ ht b,SeqAt.EqAt.str_list _ _ ht b⟩
theorem xJ{n:Nat}{d:D}(h:fj n d=true)(h0:n=0):flat d=true:=by subst h0;cases d<;>first|rfl|simp[fj]at h
theorem ae4{X:Cx}{G:List (Addr×Obj)}(I:L2.Inv X G σ H s)(sm:aF F H):∀(n:Nat)(A:Around),A.units+n<cLine->∀(d e:D),fj n d=true->fj n e=true->∀(v u:V)(J u':Value),Rep X.K F v d->Rep X.K F u e->RelV v J->RelV u u'->SeqAt.EqAt A s J u' (lF d e):=by intro n;induction n with|zero=>intro A Y d e hd he v u J u' h1 f r1 g;exact Bp (xJ hd rfl) (xJ he rfl) h1 f r1 g|succ n Z=>
   intro A Y d e hd he v u J u' h1 f r1 g;have c:A.units<cLine:=by omega
   have M:A.in1.units+n<cLine:=by show A.units+1+n<cLine;omega--items by place
   have at_:∀{xs ys:List V}{q ws:List Value}{ds es:List D}{j:Nat}(B:j<q.toArray.size)(C:j<ws.toArray.size),ds.all (fj n)=true->es.all (fj n)=true->Vals xs q->Vals ys ws->aG X.K F xs ds->aG X.K F ys es->SeqAt.EqAt A.in1 s q.toArray[j] ws.toArray[j] (lF (ds.getD j .non) (es.getD j .non)):=fun{xs ys q ws ds es j}B C a1 a2 E h p1 p2=>by
    have B:j<q.length:=by simpa using B
    have C:j<ws.length:=by simpa using C
    have r:j<ds.length:=by rw[<-p1.length,E.length];exact B
    have l2:j<es.length:=by rw[<-p2.length,h.length];exact C
    obtain⟨x,g1,g2⟩:=p1.get (show ds[j]?=some ds[j]by simp[r]);obtain⟨y,g3,g4⟩:=p2.get (show es[j]?=some es[j]by simp[l2]);obtain⟨U,g5,g6⟩:=E.get g1;obtain⟨W,g7,g8⟩:=h.get g3;have e1:q.toArray[j]=U:=by have:=(dB g5).2;simpa using this
    have e2:ws.toArray[j]=W:=by have:=(dB g7).2;simpa using this
    have e3:ds.getD j .non=ds[j]:=by simp[List.getD,r]
    have e4:es.getD j .non=es[j]:=by simp[List.getD,l2]
    rw[e1,e2,e3,e4];exact Z A.in1 M _ _ (all_eq_true.mp a1 _ (getElem_mem r)) (all_eq_true.mp a2 _ (getElem_mem l2)) x y U W g2 g4 g6 g8--the same object
   have same:∀{a:Addr},v=.ref a->u=.ref a->SeqAt.EqAt A s J u' (lF d e):=fun{a}q1 q2=>by subst q1;subst q2;have:=La I sm (n+1) d hd _ e h1 f;subst this;rw[wU];cases r1;cases g;exact SeqAt.EqAt.same _
   cases d with
   |eO _=>simp[fj]at hd|dv _ _=>simp[fj]at hd|tup ds=>
     have N:ds.all (fj n)=true:=by simpa[fj]using hd
     have k:=h1;rw[Rep]at k;obtain⟨a,xs,rfl,O,L⟩:=k;cases r1;obtain⟨q,E,p1,_⟩:=I.tuple (aF.gB sm O)
     cases e with|eO _=>simp[fj]at he|dv _ _=>simp[fj]at he|tup es=>
       have Q:es.all (fj n)=true:=by simpa[fj]using he
       have l:=f;rw[Rep]at l;obtain⟨b,ys,rfl,o,t⟩:=l;by_cases p:a=b;.subst p;exact same rfl rfl
       . cases g;obtain⟨ws,h,p2,_⟩:=I.tuple (aF.gB sm o);refine .of_refs p ?_;have z:=SeqAt.RcAt.tuples (A:=A) (e:=fun j=>lF (ds.getD j .non) (es.getD j .non)) p1 p2 c fun j B C=>at_ B C N Q E h L t;have r:q.toArray.size=ds.length:=by rw[size_toArray,<-E.length,L.length]
         have l2:ws.toArray.size=es.length:=by rw[size_toArray,<-h.length,t.length]
         rw[r,l2]at z;have e0:lF (.tup ds) (.tup es)=((List.range (min ds.length es.length)).all (fun j=>lF (ds.getD j .non) (es.getD j .non))&&ds.length==es.length):=by
          rw[pqt];by_cases w:ds.length=es.length;.rw[gD w,w];simp
          . rw[jC w];have:(ds.length==es.length)=false:=by simpa using w
            rw[this,Bool.and_false]
         rw[e0];exact z|lst es=>rw[Rep]at f;obtain⟨b,ys,rfl,o,t⟩:=f;cases g;obtain⟨ws,h,p2,_⟩:=I.list (sm.seq o);exact SeqAt.EqAt.tuple_list p1 p2.isList c|non=>exact(mQ p1 c rfl f g).1|bl _=>exact(mQ p1 c rfl f g).1|int _=>exact(mQ p1 c rfl f g).1|str _=>exact(mQ p1 c rfl f g).1
   |lst ds=>
     have N:ds.all (fj n)=true:=by simpa[fj]using hd
     have k:=h1;rw[Rep]at k
     obtain⟨a,xs,rfl,O,L⟩:=k;cases r1;obtain⟨q,E,p1,_⟩:=I.list (sm.seq O);cases e with|eO _=>simp[fj]at he|dv _ _=>simp[fj]at he|lst es=>
       have Q:es.all (fj n)=true:=by simpa[fj]using he
       have l:=f;rw[Rep]at l;obtain⟨b,ys,rfl,o,t⟩:=l;by_cases p:a=b;.subst p;exact same rfl rfl
       . cases g;obtain⟨ws,h,p2,_⟩:=I.list (sm.seq o);refine .of_refs p ?_;have r:q.toArray.size=ds.length:=by rw[size_toArray,<-E.length,L.length]
         have l2:ws.toArray.size=es.length:=by rw[size_toArray,<-h.length,t.length]
         rw[pql];by_cases w:ds.length=es.length;.have z:=SeqAt.RcAt.lists (A:=A) (e:=fun j=>lF (ds.getD j .non) (es.getD j .non)) p1.isList p2.isList (by rw[r,l2,w]) c fun j B C=>at_ B C N Q E h L t;rw[r]at z;rw[gD w];exact z
         .rw[jC w];exact lists_lengths p1.isList p2.isList (by rw[r,l2];simpa using w) c|tup es=>rw[Rep]at f;obtain⟨b,ys,rfl,o,t⟩:=f;cases g;obtain⟨ws,h,p2,_⟩:=I.tuple (aF.gB sm o);exact SeqAt.EqAt.list_tuple p1.isList p2 c|non=>exact(m5 p1.isList c rfl f g).1|bl _=>exact(m5 p1.isList c rfl f g).1|int _=>exact(m5 p1.isList c rfl f g).1|str _=>exact(m5 p1.isList c rfl f g).1
   |non|bl _|int _|str _=>cases e with|eO _=>simp[fj]at he|dv _ _=>simp[fj]at he|tup es=>rw[Rep]at f;obtain⟨b,ys,rfl,o,t⟩:=f;cases g;obtain⟨ws,h,p2,_⟩:=I.tuple (aF.gB sm o);exact(mQ p2 c rfl h1 r1).2|lst es=>rw[Rep]at f;obtain⟨b,ys,rfl,o,t⟩:=f;cases g;obtain⟨ws,h,p2,_⟩:=I.list (sm.seq o);exact(m5 p2.isList c rfl h1 r1).2|_=>exact Bp rfl rfl h1 f r1 g
end
section
variable{X:Cx}{pins:List (Addr×Obj)}{σ:L2.St}{H F:Hp}{s:Shared}{A:Around}
abbrev RC(A:Around)(s:Shared)(v u:Value)(k:Bool):Prop:=SeqAt.RcAt A s v u k/\SeqAt.RcNeAt A s v u (!k)
inductive Top(X:Cx)(F H:Hp)(s:Shared):Value->D->Prop where|non:Top X F H s .none .non|bl(b:Bool):Top X F H s (.bool b) (.bl b)|int(i:Int)(t:Tok):Top X F H s (.int i t) (.int i)|str(x:Str)(t:Tok):Top X F H s (.str x t) (.str x)|tup{a:Addr}{us:List Value}{xs:List V}{ds:List D}(ht:s.heap.IsTuple a us.toArray)(hv:Vals xs us)(hr:aG X.K F xs ds):Top X F H s (.ref a) (.tup ds)|lst{a:Addr}{us:List Value}{xs:List V}{ds:List D}(ht:s.heap.IsList a us.toArray)(hv:Vals xs us)(hr:aG X.K F xs ds):Top X F H s (.ref a) (.lst ds)
theorem vm(I:L2.Inv X pins σ H s)(sm:aF F H){f:Value}{d:D}(hd:fj 8 d=true)(h:dC X.K F H v d)(r:RelV v f):Top X F H s f d:=by cases d with|eO _=>simp[fj]at hd|dv _ _=>simp[fj]at hd|non=>rw[h.non]at r;cases r;exact .non|bl b=>rw[h.bl]at r;cases r;exact .bl b|int i=>rw[h.int]at r;obtain⟨t,rfl⟩:=r;exact .int i t|str x=>rw[h.str]at r;obtain⟨t,rfl⟩:=r;exact .str x t|tup ds=>obtain⟨a,xs,rfl,h1,c,_⟩:=h.tup sm;cases r;obtain⟨g,e,p1,_⟩:=I.tuple h1;exact .tup p1 e c|lst ds=>obtain⟨a,xs,rfl,h1,c⟩:=h.lst sm;cases r;obtain⟨g,e,p1,_⟩:=I.list h1;exact .lst p1.isList e c
theorem YS(I:L2.Inv X pins σ H s)(sm:aF F H){n:Nat}(hu:A.units+(n+1)<cLine){d e:D}(hd:fj (n+1) d=true)(he:fj (n+1) e=true){G:Value}(h1:Top X F H s G d)(u:Top X F H s u' e):RC A s G u' (lF d e):=by
 have c:A.units<cLine:=by omega
 have E:A.in1.units+n<cLine:=by show A.units+1+n<cLine;omega
 have at_:∀{xs ys:List V}{q ws:List Value}{ds es:List D}{j:Nat}(k:j<q.toArray.size)(l:j<ws.toArray.size),ds.all (fj n)=true->es.all (fj n)=true->Vals xs q->Vals ys ws->aG X.K F xs ds->aG X.K F ys es->SeqAt.EqAt A.in1 s q.toArray[j] ws.toArray[j] (lF (ds.getD j .non) (es.getD j .non)):=fun{xs ys q ws ds es j}k l O Q J L p1 p2=>by
  have k:j<q.length:=by simpa using k
  have l:j<ws.length:=by simpa using l
  have o:j<ds.length:=by rw[<-p1.length,J.length];exact k
  have l2:j<es.length:=by rw[<-p2.length,L.length];exact l
  obtain⟨x,U,W⟩:=p1.get (show ds[j]?=some ds[j]by simp[o]);obtain⟨y,Y,Z⟩:=p2.get (show es[j]?=some es[j]by simp[l2]);obtain⟨M,g5,g6⟩:=J.get U;obtain⟨N,g7,g8⟩:=L.get Y;have e1:q.toArray[j]=M:=by have:=(dB g5).2;simpa using this
  have e2:ws.toArray[j]=N:=by have:=(dB g7).2;simpa using this
  have e3:ds.getD j .non=ds[j]:=by simp[List.getD,o]
  have e4:es.getD j .non=es[j]:=by simp[List.getD,l2]
  rw[e1,e2,e3,e4];exact ae4 I sm n A.in1 E _ _ (all_eq_true.mp O _ (getElem_mem o)) (all_eq_true.mp Q _ (getElem_mem l2)) x y M N W Z g6 g8
 cases h1 with
 |non=>cases u with|non=>exact⟨SeqAt.RcAt.none_none,SeqAt.RcNeAt.none_none⟩|bl b=>exact⟨SeqAt.RcAt.none_bool _,SeqAt.RcNeAt.none_bool _⟩|int i t=>exact⟨SeqAt.RcAt.none_int _ _,none_int _ _⟩|str i t=>exact⟨SeqAt.RcAt.none_str _ _,none_str _ _⟩|tup ht _ _=>exact⟨SeqAt.RcAt.none_tuple ht c,SeqAt.RcNeAt.none_tuple ht c⟩|lst ht _ _=>exact⟨SeqAt.RcAt.none_list ht c,SeqAt.RcNeAt.none_list ht c⟩
 |bl b0=>cases u with|non=>exact⟨SeqAt.RcAt.bool_none _,SeqAt.RcNeAt.bool_none _⟩|bl b=>exact⟨SeqAt.RcAt.bool_bool _ _,SeqAt.RcNeAt.bool_bool _ _⟩|int i t=>exact⟨SeqAt.RcAt.bool_int _ _ _,bool_int _ _ _⟩|str i t=>exact⟨SeqAt.RcAt.bool_str _ _ _,bool_str _ _ _⟩|tup ht _ _=>exact⟨SeqAt.RcAt.bool_tuple _ ht c,SeqAt.RcNeAt.bool_tuple _ ht c⟩|lst ht _ _=>exact⟨SeqAt.RcAt.bool_list _ ht c,SeqAt.RcNeAt.bool_list _ ht c⟩
 |int i0 t0=>cases u with|non=>exact⟨SeqAt.RcAt.int_none _ _,int_none _ _⟩|bl b=>exact⟨SeqAt.RcAt.int_bool _ _ _,int_bool _ _ _⟩|int i t=>exact⟨SeqAt.RcAt.int_int _ _ _ _,int_int _ _ _ _⟩|str i t=>exact⟨SeqAt.RcAt.int_str _ _ _ _,SeqAt.RcNeAt.int_str _ _ _ _⟩|tup ht _ _=>exact⟨SeqAt.RcAt.int_tuple _ _ ht c,SeqAt.RcNeAt.int_tuple _ _ ht c⟩|lst ht _ _=>exact⟨SeqAt.RcAt.int_list _ _ ht c,int_list _ _ ht c⟩
 |str i0 t0=>cases u with|non=>exact⟨SeqAt.RcAt.str_none _ _,str_none _ _⟩|bl b=>exact⟨SeqAt.RcAt.str_bool _ _ _,str_bool _ _ _⟩|int i t=>exact⟨SeqAt.RcAt.str_int _ _ _ _,SeqAt.RcNeAt.str_int _ _ _ _⟩|str i t=>exact⟨SeqAt.RcAt.str_str _ _ _ _,str_str _ _ _ _⟩|tup ht _ _=>exact⟨SeqAt.RcAt.str_tuple _ _ ht c,SeqAt.RcNeAt.str_tuple _ _ ht c⟩|lst ht _ _=>exact⟨SeqAt.RcAt.str_list _ _ ht c,str_list _ _ ht c⟩
 |@tup a q xs ds ht r hr=>
   have w:ds.all (fj n)=true:=by simpa[fj]using hd
   cases u with|non=>exact⟨SeqAt.RcAt.tuple_none ht c,SeqAt.RcNeAt.tuple_none ht c⟩|bl b=>exact⟨SeqAt.RcAt.tuple_bool _ ht c,SeqAt.RcNeAt.tuple_bool _ ht c⟩|int i t=>exact⟨SeqAt.RcAt.tuple_int _ _ ht c,SeqAt.RcNeAt.tuple_int _ _ ht c⟩|str i t=>exact⟨SeqAt.RcAt.tuple_str _ _ ht c,SeqAt.RcNeAt.tuple_str _ _ ht c⟩|lst h _ _=>exact⟨SeqAt.RcAt.tuple_list ht h c,SeqAt.RcNeAt.tuple_list ht h c⟩|@tup b ws ys es h f g=>
     have z:es.all (fj n)=true:=by simpa[fj]using he
     have o:q.toArray.size=ds.length:=by rw[size_toArray,<-r.length,hr.length]
     have l2:ws.toArray.size=es.length:=by rw[size_toArray,<-f.length,g.length]
     have B:=SeqAt.RcAt.tuples (A:=A) (e:=fun j=>lF (ds.getD j .non) (es.getD j .non)) ht h c fun j k l=>at_ k l w z r f hr g;have C:=SeqAt.RcNeAt.tuples (A:=A) (e:=fun j=>lF (ds.getD j .non) (es.getD j .non)) ht h c fun j k l=>at_ k l w z r f hr g;rw[o,l2]at B C;have e0:lF (.tup ds) (.tup es)=((List.range (min ds.length es.length)).all (fun j=>lF (ds.getD j .non) (es.getD j .non))&&ds.length==es.length):=by
      rw[pqt];by_cases p:ds.length=es.length;.rw[gD p,p];simp
      . rw[jC p];have:(ds.length==es.length)=false:=by simpa using p
        rw[this,Bool.and_false]
     rw[e0];exact⟨B,C⟩
 |@lst a q xs ds ht r hr=>
   have w:ds.all (fj n)=true:=by simpa[fj]using hd
   cases u with|non=>exact⟨SeqAt.RcAt.list_none ht c,SeqAt.RcNeAt.list_none ht c⟩|bl b=>exact⟨SeqAt.RcAt.list_bool _ ht c,SeqAt.RcNeAt.list_bool _ ht c⟩|int i t=>exact⟨SeqAt.RcAt.list_int _ _ ht c,list_int _ _ ht c⟩|str i t=>exact⟨SeqAt.RcAt.list_str _ _ ht c,list_str _ _ ht c⟩|tup h _ _=>exact⟨SeqAt.RcAt.list_tuple ht h c,SeqAt.RcNeAt.list_tuple ht h c⟩|@lst b ws ys es h f g=>
     have z:es.all (fj n)=true:=by simpa[fj]using he
     have o:q.toArray.size=ds.length:=by rw[size_toArray,<-r.length,hr.length]
     have l2:ws.toArray.size=es.length:=by rw[size_toArray,<-f.length,g.length]
     rw[pql];by_cases p:ds.length=es.length;.have B:=SeqAt.RcAt.lists (A:=A) (e:=fun j=>lF (ds.getD j .non) (es.getD j .non)) ht h (by rw[o,l2,p]) c fun j k l=>at_ k l w z r f hr g;have C:=SeqAt.RcNeAt.lists (A:=A) (e:=fun j=>lF (ds.getD j .non) (es.getD j .non)) ht h (by rw[o,l2,p]) c fun j k l=>at_ k l w z r f hr g;rw[o]at B C;rw[gD p];exact⟨B,C⟩
     .rw[jC p];exact⟨lists_lengths ht h (by rw[o,l2];simpa using p) c,SeqAt.RcNeAt.lists_lengths ht h (by rw[o,l2];simpa using p) c⟩
theorem gH(b:X.A.units+8<cLine):gb X (compareOp .Eq) (rD X.K (qD .eq)):=by rintro pins s σ H x y v u Q I c f⟨F,d,e,r,sm,g,h,he,k⟩;obtain⟨t,a,j⟩:=map_some (show(HF d e).map _=some r from he);subst j;unfold HF at a;obtain⟨hd,a⟩:=bz a;rw[and_eq_true]at hd;subst a;exact(YS I sm (n:=7) b hd.1 hd.2 (vm I sm hd.1 g c) (vm I sm hd.2 h f)).1 _ _ _ _ ⟨.bl _,H,I,rfl,cj.cX sm (fu _) k⟩
theorem Jq(b:X.A.units+8<cLine):gb X (compareOp .NotEq) (rD X.K (qD .ne)):=by rintro pins s σ H x y v u Q I c f⟨F,d,e,r,sm,g,h,he,k⟩;obtain⟨t,a,j⟩:=map_some (show(Je d e).map _=some r from he);subst j;unfold Je at a;obtain⟨hd,a⟩:=bz a;rw[and_eq_true]at hd;subst a;exact(YS I sm (n:=7) b hd.1 hd.2 (vm I sm hd.1 g c) (vm I sm hd.2 h f)).2 _ _ _ _ ⟨.bl _,H,I,rfl,cj.cX sm (fu _) k⟩
end
section
variable{Pg:Program}{w:World}{K:PySem.W.Frag}{mg:Str->Option Value}{base:Heap}
theorem Zg{qual:Str}{st:Stmt}{f:Addr}{fd:FuncData}{N ps:List Str}{k n:Nat}{c:Call}{d:Fd}(C:gh K x qual st f fd)(S:aH N ps (aA st))(h1:d.np=ps.length)(t:d.nn=N.length)(G:∀(cdv:Value)(A:Around)(outer:List Env)(s:Shared)(H:Hp)(E:XK),jL k (A.deeper (envOfC qual (aA st) s.heap.objs.size f cdv))->SB (zx Hu Pg w K mg base N qual (aA st) f cdv A outer s H E).ZJ c n (fY st) d.body):nH Pg w K mg base Hu (k+1) f fd ps (Kr K ps.length (fun args=>enter c n d args)):=by
 refine C.ok S (fun vs H Q E h=>h.1) fun cdv A outer s H vs Q E hr h=>?_;obtain⟨u,F,args,r,o,g,e,q⟩:=h;refine⟨_,G cdv A outer s H E hr,?_⟩;replace e:enter c n d args=.ok r o:=e;unfold enter at e;split at e
 . rename_i hc;obtain⟨c1,c2⟩:=hc;have I:=g.more (n:=d.nn-d.np) (τ:=replicate (N.length-vs.length) none) (by simp[h1,t,u]);have p:args.length=d.np:=c1;have go:∀{fl:Fl}{a:List Sl},iz c n d.body (args++replicate (d.nn-d.np) .aQ)=.ok fl a->(∀l b j,aC K F (args++replicate (d.nn-d.np) .aQ) (start N vs) H l a b j->(match fl with|.next=>Q .non j|.brk=>False|.cont=>False|.ret r=>∀v,cM K l a b j (args++replicate (d.nn-d.np) .aQ) (start N vs) H v r->Q v j))->tEx K (iz c n d.body) {nx:=fun _ j=>Q .non j,rt:=Q} (start N vs) H:=fun{fl a}z k=>⟨F,_,fl,a,I,z,fun l b j s=>by have:=k l b j s;cases fl<;>exact this⟩;split at e;.rename_i a z;cases e;refine go z fun l b j s=>?_;obtain⟨y,B⟩:=aC.less (m:=d.np) p.symm g (by simp[h1,t,u]) s;exact q .non l _ j y (show Rep K l _ _ from R9)
   .rename_i L a z;cases e;refine go z fun l b j s v J=>?_;obtain⟨y,B⟩:=aC.less (m:=d.np) p.symm g (by simp[h1,t,u]) s;exact q v l _ j y (B v r J)
   .split at e<;>cases e
 .cases e
structure aR(Pg:Program)(w:World)(K:PySem.W.Frag)(mg:Str->Option Value)(base:Heap)(k:Nat)(c:Call)(i:Nat)(x:Str)(np:Nat):Prop where ex:∃fa fd qs,nH Pg w K mg base Hu k fa fd qs (Kr K qs.length (c i))/\mg x=some (.ref fa)/\keepIn K (.ref fa)=true/\Binds K fd qs []/\qs.length=np
end
section
variable{X:Cx}{c:Call}{n k:Nat}{e a b:Expr}{es:List Expr}{p pa pb:P}{ps:List P}{pos:Pos}
theorem sv(i:Nat)(g:X.N[i]?=some x:=by rfl)(h:vV X.env.scope x:=by first|exact Or.inl rfl|exact Or.inr (Or.inl rfl)|exact Or.inr (Or.inr rfl))(hd:(x==("__debug__":Str))=false:=by rfl)(f:(x==("__classdict__":Str))=false:=by rfl):SX X c (.Name x pos) (.var i):=U7 g h hd f
theorem cJ{np:Nat}(C:aR X.prog X.w X.K X.mg X.base k c i x np)(hr:jL k X.A)(h:SG X c (e::es) ps)(j:Gl X x:=by rfl)(l:(e::es).length=np:=by rfl)(f:(x==("__debug__":Str))=false:=by rfl)(he:starEach (e::es) X.env=(false,eval e X.env)::starEach es X.env:=by rfl)(hpl:(backTo pos (starEach es X.env)).any (·.1)=false:=by rfl)(g:ps.length=(e::es).length:=by rfl):SX X c (.Call (.Name x p') (e::es) [] pos) (.call i ps):=by obtain⟨u,fd,y,h1,o,q,r,t⟩:=C.ex;exact Mi h1 hr j o q r h (l.trans t.symm) f he hpl g
noncomputable def PX(names outer:List (Str×NameKind))(N N':List Str)(n:Nat):Bool:=(names.all fun y=>names.lookup y.1==some y.2)&&(names.all fun y=>y.2!=.local||names.lookup y.1==some .local)&&(names.all fun y=>y.2!=.free||outer.lookup y.1==some .cell||outer.lookup y.1==some .free)&&N'.length==N.length+n&&((N.zip N').all fun p=>(p.1==p.2&&names.lookup p.2==some .free)||(names.lookup p.2!=some .local&&names.lookup p.2!=some .cell&&names.lookup p.2!=some .free))
theorem wY{scope:Scope}{N':List Str}(g:scope.kind=.function)(h:PX scope.names X.env.scope.names X.N N' n=true):eY X scope N' n:=by
 unfold PX at h;simp only[and_eq_true]at h;obtain⟨⟨⟨⟨h1,j⟩,l⟩,o⟩,q⟩:=h;refine⟨g,fun y f=>eq_of_beq (all_eq_true.mp h1 y f),fun y f e=>?_,fun y f e=>?_,by simpa using o,q⟩;.have:=all_eq_true.mp j y f;rw[e]at this;simpa using this
 . have:=all_eq_true.mp l y f;rw[e]at this;simp only[or_eq_true]at this;rcases this with(z|z)|z;.cases z
   .exact .inl (eq_of_beq z)
   .exact .inr (eq_of_beq z)
theorem bu(h:jL k A):A.units+8<cLine:=by have:=h.un;omega
end
end HH
end
section
namespace PySem
open AutoSeq1(wpAny_loadPart')
section
variable{prog:Program}{w:World}{A:Around}{E:Value->Shared->Prop}{s:Shared}
theorem gU{it l:Addr}{i:Nat}{items:Array Value}{x:Value}{Q:Value->Shared->Prop}(a:s.heap.IsTupleIter it l i)(e:s.heap.IsTuple l items)(f:items[i]?=some x)(g:∀h',h'.IsTupleIter it l (i+1)->SameBut it s.heap h'->Q x {s with heap:=h'}):wpAny (model prog w) A (Builtin.SmallTypes.nextOf (.ref it)) Q E s:=by obtain⟨o,ho,hc,hd⟩:=id a;obtain⟨h,b,_,j,c⟩:=e;unfold Builtin.SmallTypes.nextOf;refine wpAny_bind (wpAny_callSpecial?_slot (name:=Str.ofString "__next__") a.typeIs F.slot_tuple_iterator_next (wpAny_call_entry F.slot_tuple_iterator_next a.typeIs F.entry_tuple_iterator_next ?_ (F.args_tuple_iterator_next_1 _)));show wpAny _ _ (field (.ref it) 0>>=_) _ _ s;refine wpAny_bind (wpAny_field ho hd (x:=.ref l) rfl ?_);show wpAny _ _ (if(Value.ref l==Value.none)=true then _ else _) _ _ s;rw[if_neg (show ¬((Value.ref l==Value.none)=true)from Bool.false_ne_true)];show wpAny _ _ (field (.ref it) 1>>=_) _ _ s;refine wpAny_bind (wpAny_field ho hd (x:=.int i 0) rfl ?_);show wpAny _ _ (seqItems? (.ref l)>>=_) _ _ s;refine wpAny_bind (wpAny_seqItems b c ?_);simp only[Int.toNat_natCast,f];refine wpAny_bind (wpAny_setField ho hd (by simp) (wpAny_pure ⟨x,rfl,wpAny_pure (g _ ?_ (Heap.SameBut.update ..))⟩));exact⟨_,Heap.get?_update_self _ ho (Obj.isFreed_of_fields (Obj.data_mapFields hd _)),(Obj.cls_mapFields ..).trans hc,by rw[Obj.data_mapFields hd];simp[rawInt]⟩
theorem fG{it l:Addr}{i:Nat}{items:Array Value}{Q:Value->Shared->Prop}(g:A.handled=none)(b:s.heap.IsTupleIter it l i)(h:s.heap.IsTuple l items)(j:items[i]?=none)(k:∀h' e,Heap.ExtBut it s.heap h'->(∃o,h'.get? e=some o/\o.cls=.type "StopIteration")->E (.ref e) {s with heap:=h'}):wpAny (model prog w) A (Builtin.SmallTypes.nextOf (.ref it)) Q E s:=by
 obtain⟨o,ho,hc,hd⟩:=id b;obtain⟨n,c,_,p,f⟩:=h;unfold Builtin.SmallTypes.nextOf;refine wpAny_bind (wpAny_callSpecial?_slot (name:=Str.ofString "__next__") b.typeIs F.slot_tuple_iterator_next (wpAny_call_entry F.slot_tuple_iterator_next b.typeIs F.entry_tuple_iterator_next ?_ (F.args_tuple_iterator_next_1 _)));show wpAny _ _ (field (.ref it) 0>>=_) _ _ s;refine wpAny_bind (wpAny_field ho hd (x:=.ref l) rfl ?_);show wpAny _ _ (if(Value.ref l==Value.none)=true then _ else _) _ _ s;rw[if_neg (show ¬((Value.ref l==Value.none)=true)from Bool.false_ne_true)];show wpAny _ _ (field (.ref it) 1>>=_) _ _ s;refine wpAny_bind (wpAny_field ho hd (x:=.int i 0) rfl ?_);show wpAny _ _ (seqItems? (.ref l)>>=_) _ _ s;refine wpAny_bind (wpAny_seqItems c f ?_);simp only[Int.toNat_natCast,j];refine wpAny_bind (wpAny_rule (wpAny_bind (wpAny_setField ho hd (by simp) ?_)));show wpAny _ _ (newExc (.type "StopIteration") []>>=_) _ _ _;refine wpAny_bind ?_;simp only[newExc,newTuple];refine wpAny_bind (wpAny_newObj_type ?_ (by size_fits));refine wpAny_bind (m:=firstArgMember _ _) (wpAny_of_eq (a:=Value.none) (by first|rfl|(simp only[firstArgMember];rfl)) ?_);refine wpAny_newObj_type ?_ (by size_fits);simp only[raiseNew];refine wpAny_bind (wpAny_handled ?_);first|rw[show A.in1.handled=none from g]|rw[g]
 refine wpAny_bind (wpAny_pure (wpAny_throw ?_));exact k _ _ (((Heap.SameBut.update ..).extBut.push _).push _) ⟨_,get?_push_size _ rfl,rfl⟩
end
theorem ju(l:Addr)(items:Array Value)(n:Nat)(b:Option Addr)(sl:Array (Option Value)):Meets (Builtin.«enumerate.__new__» ⟨[.type "enumerate",.ref l],[]⟩) (fun _ R s=>s.heap.get? l=some {cls:=.type "tuple",dict:=b,data:=.seq items n,slots:=sl}/\R (.ok (.ret (.ref (s.heap.push {cls:=.type "tuple_iterator",data:=.fields #[.ref l,.int 0 0]}).objs.size))) {s with heap:=(s.heap.push {cls:=.type "tuple_iterator",data:=.fields #[.ref l,.int 0 0]}).push {cls:=.type "enumerate",data:=.fields #[.none,.bool false,.ref s.heap.objs.size,rawInt 0,.none,.none]}}):=.of_wp fun prog w A R s h=>by
  obtain⟨i,g,d,j,os⟩:=s;obtain⟨a,h⟩:=h;have f:=sub_enumerate;have e:Heap.IsTuple (Shared.heap ⟨i,g,d,j,os⟩) l items:=⟨_,a,rfl,n,rfl⟩;wp_walk using wpAny_loadPart' a;refine wpAny_stack_any fun st=>wpAny_pure ?_;split
  . rename_i c _ _ _ _ _;cases(c==Value.type "enumerate");.wp_walk using wpAny_loadPart' a,wpAny_pyIter_tuple e;exact⟨_,rfl,h⟩
    .wp_walk using wpAny_loadPart' a,wpAny_pyIter_tuple e;exact⟨_,rfl,h⟩
  .wp_walk using wpAny_loadPart' a,wpAny_pyIter_tuple e;exact⟨_,rfl,h⟩
section
variable{prog:Program}{w:World}{A:Around}{E:Value->Shared->Prop}{s:Shared}
theorem jP{l:Addr}{items:Array Value}{Q:Value->Shared->Prop}(e:s.heap.IsTuple l items)(h:∀ h',IsEnum h' (s.heap.objs.size+1) s.heap.objs.size 0 .none->h'.IsTupleIter s.heap.objs.size l 0->h'.objs.size=s.heap.objs.size+2->(∀b o,s.heap.get? b=some o->h'.get? b=some o)->Q (.ref (s.heap.objs.size+1)) {s with heap:=h'}):wpAny (model prog w) A (call (.type "enumerate") [.ref l]) Q E s:=by
 obtain⟨⟨c,a,dt,sl⟩,f,hc,n,hd⟩:=e;replace hc:c=.type "tuple":=hc;replace hd:dt=.seq items n:=hd;subst hc hd;refine callType_new F.called_enumerate (by decide) (F.typeCall_enumerate_1 _) (F.newCall_enumerate_1 _) (fun obj=>F.args_object_init_2 obj _) F.entry_enumerate_new (ju l items n a sl) ⟨f,?_⟩;have hz:(s.heap.push {cls:=.type "tuple_iterator",data:=.fields #[.ref l,.int 0 0]}).objs.size=s.heap.objs.size+1:=size_push ..;show _/\_;rw[hz];have he:IsEnum ((s.heap.push {cls:=.type "tuple_iterator",data:=.fields #[.ref l,.int 0 0]}).push {cls:=.type "enumerate",data:=.fields #[.none,.bool false,.ref s.heap.objs.size,rawInt 0,.none,.none]}) (s.heap.objs.size+1) s.heap.objs.size 0 .none:=by have:=get?_push_size (s.heap.push {cls:=.type "tuple_iterator",data:=.fields #[.ref l,.int 0 0]}) (o:={cls:=.type "enumerate",data:=.fields #[.none,.bool false,.ref s.heap.objs.size,rawInt 0,.none,.none]}) rfl;rw[hz]at this;exact this
 refine⟨⟨_,he,rfl⟩,h _ he ⟨_,dG (get?_push_size _ rfl),rfl,rfl⟩ (by rw[size_push,hz]) fun b o x=>dG (dG x)⟩
end
end PySem
end
section
namespace L2
open PySem PySem.Spec PyProof.Rows
variable{prog:Program}{w:World}{A:Around}
section
variable{X:Cx}{pins:List (Addr×Obj)}{σ:L2.St}{H:Hp}{s:Shared}
theorem Inv.zE{ch:List Addr}{h':Heap}{o:HO}{t':Nat}(I:Inv X pins σ H s)(k:∀b u,b∉ch->s.heap.get? b=some u->h'.get? b=some u)(l:∀b∈ch,∃u,h'.get? b=some u)(g:∀b∈ch,nZ X pins H b)(i:bJ X.prog X.w (upd H s.heap.objs.size o) h' s.heap.objs.size o):Inv X pins σ (upd H s.heap.objs.size o) {s with heap:=h',toks:=t'}:=by
 have fr:H s.heap.objs.size=none:=I.hok.fresh (dz);have j:∀b u,H b=some u->b∉ch:=fun b u e a=>by rw[(g b a).1]at e;cases e
 have h:∀b u,H b=some u->upd H s.heap.objs.size o b=some u:=fun b u e=>by
  have:b≠s.heap.objs.size:=by rintro rfl;rw[fr]at e;cases e
  rw[aD this];exact e
 refine I.call (g':=s.gens) (d':=s.drawn) (ch:=ch) ⟨fun b u e n _ f=>k b u f e,fun b u e n _ f=>⟨u.slots,k b u f e⟩,fun b u e n f=>?_,fun b u e f=>⟨u,k b u f e⟩,fun b xs e=>h b _ e,fun b m u e=>h b _ e,fun b ps e=>⟨#[],by rw[h b _ e];simp⟩⟩ ?_ I.bare fun b a=>⟨(g b a).2.2.2.1,(g b a).2.1,(g b a).2.2.2.2.1,(g b a).2.2.2.2.2⟩;.have:b≠s.heap.objs.size:=ne_of_lt (lt_size e);rw[aD this];exact n
 . intro b u e;by_cases a:b=s.heap.objs.size;.subst a;rw[aO]at e;cases e;exact i
   . rw[aD a]at e;refine(I.hok b u e).stay (fun c v hc q=>k c v ?_ q) (fun c q=>h c _ q) fun c xs q=>h c _ q;rcases hc with rfl|hc;.exact j _ _ e
     .exact j _ _ hc
end
noncomputable def yZ(K:PySem.W.Frag)(a:Addr):It:=⟨fun i H=>∃xs x,eV K H a xs/\xs[i]?=some x,fun i H x b=>∃T v,H T=none/\x=.ref T/\b=upd H T (.tup [.int (i:Int),v])/\∀xs,eV K H a xs->xs[i]?=some v,fun i H=>∃xs,eV K H a xs/\xs.length<=i⟩
theorem Uj(f:A.handled=none)(it l:Addr)(c:l≠it)(items:Array Value):Draws prog w A it [it,l] items.size (fun i v=>items[i]?=some v) (fun i h=>h.IsListIter it l i/\h.IsList l items)where
 live:=fun _ _ st=>let⟨o,ho,_⟩:=st.1;⟨o,ho⟩;frame:=fun _ _ _ st e=>⟨(let⟨o,ho,r⟩:=st.1;⟨o,e it (by simp) o ho,r⟩),(let⟨o,ho,r⟩:=st.2;⟨o,e l (by simp) o ho,r⟩)⟩;item:=fun i s Q E hi st g=>by refine wpAny_nextOf_list_item st.1 st.2 (x:=items[i]) (by simp[hi]) fun h' a b=>?_;exact g _ h' s.toks (by simp[hi]) ⟨a,(let⟨o,ho,r⟩:=st.2;⟨o,b.extBut l o c ho,r⟩)⟩ b
 done:=fun s Q E st j=>wpAny_nextOf_list_end f st.1 st.2 (by simp) j
theorem Dt(b:A.handled=none)(it l:Addr)(items:Array Value)(n:Nat)(c:items.size<=n):Draws prog w A it [it,l] n (fun _ _=>True) (fun i h=>i=n/\h.IsListIter it l i/\h.IsList l items)where live:=fun _ _ st=>let⟨o,ho,_⟩:=st.2.1;⟨o,ho⟩;frame:=fun _ _ _ st a=>⟨st.1,(let⟨o,ho,r⟩:=st.2.1;⟨o,a it (by simp) o ho,r⟩),(let⟨o,ho,r⟩:=st.2.2;⟨o,a l (by simp) o ho,r⟩)⟩;item:=fun i s Q E hi st f=>absurd st.1 (ne_of_lt hi);done:=fun s Q E st e=>wpAny_nextOf_list_end b st.2.1 st.2.2 (by simp;exact c) e
theorem DK{P:Program}{K:PySem.W.Frag}{p:List Expr}{x1}{tp:Pos}(a it e:Addr)(m:e≠it):Turn P w K (.Tuple p x1 tp) (yZ K a) [e,it] e (fun i h=>(∃g,IsEnum h e it (i:Int) g)/\h.IsListIter it a i)where
 mem:=by simp
 obj:=fun i h st b hb=>by
  obtain⟨⟨g,h1⟩,o,j,G,h4⟩:=st;rcases mem_cons.mp hb with rfl|hb;.exact⟨_,h1,fun v z=>by cases z⟩
  . have:b=it:=by simpa using hb
    subst this;exact⟨o,j,fun v z=>by rw[h4]at z;cases z⟩
 keep:=fun i h h' st k=>by obtain⟨⟨g,h1⟩,o,j,G⟩:=st;exact⟨⟨g,k e (by simp) _ h1⟩,o,k it (by simp) _ j,G⟩
 item:=fun X Z hw hK hc i t s σ H E I J st go=>by
  subst Z hw hK;obtain⟨⟨g,he⟩,l⟩:=st;obtain⟨xs,x,L,B⟩:=go;obtain⟨c,M,pl,hz⟩:=I.list L;have N:s.heap.IsList a c.toArray:=pl.isList;obtain⟨oa,O,n,_⟩:=id N;have ac:e≠a:=by rintro rfl;rw[he]at O;cases O;exact absurd (show Value.type "enumerate"=Value.type _ from n) (by decide)
  have ae:a≠it:=by rintro rfl;obtain⟨o,j,G,_⟩:=id l;rw[j]at O;cases O;rw[G]at n;exact absurd n (by decide)
  have af:i<c.toArray.size:=by rw[size_toArray,<-M.length];exact(dB B).1
  refine wpAny_pyNext_enum_itemD (Uj (show X.A.in1.handled=none from I.ok.hd hc) it a ae c.toArray) he ⟨l,N⟩ af m (by simp[m,ac]) fun y h' tk U ag hst ht hsz kp=>?_;refine⟨_,rfl,wpAny_letOwnedTupleGo_enum ag fun C J0 Y=>?_⟩;obtain⟨u,ah,ai⟩:=M.get B;have al:y=u:=by
   have U:c[i]?=some y:=by simpa using U
   rw[ah]at U;cases U;rfl
  subst al;have hT:∀b∈[e,it],b≠s.heap.objs.size:=fun b hb=>by
   rcases mem_cons.mp hb with rfl|hb;.exact ne_of_lt (lt_size he)
   . have:b=it:=by simpa using hb
     subst this;obtain⟨o,j,_⟩:=id l;exact ne_of_lt (lt_size j)
  have am:s.heap.objs.size≠e:=(hT e (by simp)).symm;have Xe:∀b o,b∉[e,it]->s.heap.get? b=some o->C.get? b=some o:=fun b o hb q=>by have h1:b≠e:=fun z=>hb (by simp[z]);have j:b≠it:=fun z=>hb (by simp[z]);exact Y.extBut b o h1 (kp b o h1 j q)
  have yl:C.get? s.heap.objs.size=some {cls:=.type "tuple",data:=.seq #[.int i tk,y]}:=Y.extBut _ _ am ht;refine⟨.ref s.heap.objs.size,upd H s.heap.objs.size (.tup [.int (i:Int),x]),?_,rfl,⟨_,x,I.fresh,rfl,rfl,fun ys ap=>?_⟩,⟨⟨_,J0⟩,?_⟩,fun b hb=>?_⟩
  . refine I.zE (ch:=[e,it]) (t':=tk+1) Xe (fun b hb=>?_) (fun b hb=>(J b hb)) ⟨(by show 2<=sizeLine;decide),[.int i tk,y],.cons ⟨_,rfl⟩ (.cons ai .nil),⟨_,yl,rfl,_,rfl⟩⟩;rcases mem_cons.mp hb with rfl|hb;.exact⟨_,J0⟩
    . have:b=it:=by simpa using hb
      subst this;obtain⟨o,j,_⟩:=id hst.1;exact⟨o,Y.extBut _ _ (Ne.symm m) j⟩
  .rw[I.mW ap L];exact B
  .obtain⟨o,j,r⟩:=hst.1;exact⟨o,Y.extBut _ _ (Ne.symm m) j,r⟩
  .rw[aD (hT b hb)];exact(J b hb).1
 done:=fun X Z hw hK hc i t s σ H E I J st stop=>by subst Z hw hK;obtain⟨⟨g,he⟩,l⟩:=st;obtain⟨xs,L,B⟩:=stop;obtain⟨c,M,pl,hz⟩:=I.list L;have N:s.heap.IsList a c.toArray:=pl.isList;refine wpAny_pyNext_enum_endD (Dt (show X.A.in1.handled=none from I.ok.hd hc) it a c.toArray i (by rw[size_toArray,<-M.length];exact B)) he ⟨rfl,l,N⟩ fun h' hs=>⟨rfl,?_⟩;have f:=J it (by simp);exact I.turned (t':=s.toks) (fun b o hb q=>hs b o hb q) f.1 f.2.1 f.2.2.2.1 f.2.2.2.2.1 f.2.2.2.2.2
 self:=fun A i s Q E st q=>wpAny_pyIter_enum st.1.choose_spec q
noncomputable def zQ(K:PySem.W.Frag)(a:Addr):It:=⟨fun i H=>∃xs x,iQ K H a xs/\xs[i]?=some x,fun i H x b=>∃T v,H T=none/\x=.ref T/\b=upd H T (.tup [.int (i:Int),v])/\∀xs,iQ K H a xs->xs[i]?=some v,fun i H=>∃xs,iQ K H a xs/\xs.length<=i⟩
theorem TY(f:A.handled=none)(it l:Addr)(c:l≠it)(items:Array Value):Draws prog w A it [it,l] items.size (fun i v=>items[i]?=some v) (fun i h=>h.IsTupleIter it l i/\h.IsTuple l items)where
 live:=fun _ _ st=>let⟨o,ho,_⟩:=st.1;⟨o,ho⟩;frame:=fun _ _ _ st e=>⟨(let⟨o,ho,r⟩:=st.1;⟨o,e it (by simp) o ho,r⟩),(let⟨o,ho,r⟩:=st.2;⟨o,e l (by simp) o ho,r⟩)⟩;item:=fun i s Q E hi st g=>by refine gU st.1 st.2 (x:=items[i]) (by simp[hi]) fun h' a b=>?_;exact g _ h' s.toks (by simp[hi]) ⟨a,(let⟨o,ho,r⟩:=st.2;⟨o,b.extBut l o c ho,r⟩)⟩ b
 done:=fun s Q E st j=>fG f st.1 st.2 (by simp) j
theorem Es(b:A.handled=none)(it l:Addr)(items:Array Value)(n:Nat)(c:items.size<=n):Draws prog w A it [it,l] n (fun _ _=>True) (fun i h=>i=n/\h.IsTupleIter it l i/\h.IsTuple l items)where live:=fun _ _ st=>let⟨o,ho,_⟩:=st.2.1;⟨o,ho⟩;frame:=fun _ _ _ st a=>⟨st.1,(let⟨o,ho,r⟩:=st.2.1;⟨o,a it (by simp) o ho,r⟩),(let⟨o,ho,r⟩:=st.2.2;⟨o,a l (by simp) o ho,r⟩)⟩;item:=fun i s Q E hi st f=>absurd st.1 (ne_of_lt hi);done:=fun s Q E st e=>fG b st.2.1 st.2.2 (by simp;exact c) e
theorem Dw{P:Program}{K:PySem.W.Frag}{p:List Expr}{x1}{tp:Pos}(a it e:Addr)(m:e≠it):Turn P w K (.Tuple p x1 tp) (zQ K a) [e,it] e (fun i h=>(∃g,IsEnum h e it (i:Int) g)/\h.IsTupleIter it a i)where
 mem:=by simp
 obj:=fun i h st b hb=>by
  obtain⟨⟨g,h1⟩,o,j,G,h4⟩:=st;rcases mem_cons.mp hb with rfl|hb;.exact⟨_,h1,fun v z=>by cases z⟩
  . have:b=it:=by simpa using hb
    subst this;exact⟨o,j,fun v z=>by rw[h4]at z;cases z⟩
 keep:=fun i h h' st k=>by obtain⟨⟨g,h1⟩,o,j,G⟩:=st;exact⟨⟨g,k e (by simp) _ h1⟩,o,k it (by simp) _ j,G⟩
 item:=fun X Z hw hK hc i t s σ H E I J st go=>by
  subst Z hw hK;obtain⟨⟨g,he⟩,l⟩:=st;obtain⟨xs,x,L,B⟩:=go;obtain⟨c,M,pl,hz⟩:=I.tuple L;have N:s.heap.IsTuple a c.toArray:=pl;obtain⟨oa,O,n,_⟩:=id N;have ac:e≠a:=by rintro rfl;rw[he]at O;cases O;exact absurd (show Value.type "enumerate"=Value.type _ from n) (by decide)
  have ae:a≠it:=by rintro rfl;obtain⟨o,j,G,_⟩:=id l;rw[j]at O;cases O;rw[G]at n;exact absurd n (by decide)
  have af:i<c.toArray.size:=by rw[size_toArray,<-M.length];exact(dB B).1
  refine wpAny_pyNext_enum_itemD (TY (show X.A.in1.handled=none from I.ok.hd hc) it a ae c.toArray) he ⟨l,N⟩ af m (by simp[m,ac]) fun y h' tk U ag hst ht hsz kp=>?_;refine⟨_,rfl,wpAny_letOwnedTupleGo_enum ag fun C J0 Y=>?_⟩;obtain⟨u,ah,ai⟩:=M.get B;have al:y=u:=by
   have U:c[i]?=some y:=by simpa using U
   rw[ah]at U;cases U;rfl
  subst al;have hT:∀b∈[e,it],b≠s.heap.objs.size:=fun b hb=>by
   rcases mem_cons.mp hb with rfl|hb;.exact ne_of_lt (lt_size he)
   . have:b=it:=by simpa using hb
     subst this;obtain⟨o,j,_⟩:=id l;exact ne_of_lt (lt_size j)
  have am:s.heap.objs.size≠e:=(hT e (by simp)).symm;have Xe:∀b o,b∉[e,it]->s.heap.get? b=some o->C.get? b=some o:=fun b o hb q=>by have h1:b≠e:=fun z=>hb (by simp[z]);have j:b≠it:=fun z=>hb (by simp[z]);exact Y.extBut b o h1 (kp b o h1 j q)
  have yl:C.get? s.heap.objs.size=some {cls:=.type "tuple",data:=.seq #[.int i tk,y]}:=Y.extBut _ _ am ht;refine⟨.ref s.heap.objs.size,upd H s.heap.objs.size (.tup [.int (i:Int),x]),?_,rfl,⟨_,x,I.fresh,rfl,rfl,fun ys ap=>?_⟩,⟨⟨_,J0⟩,?_⟩,fun b hb=>?_⟩
  . refine I.zE (ch:=[e,it]) (t':=tk+1) Xe (fun b hb=>?_) (fun b hb=>(J b hb)) ⟨(by show 2<=sizeLine;decide),[.int i tk,y],.cons ⟨_,rfl⟩ (.cons ai .nil),⟨_,yl,rfl,_,rfl⟩⟩;rcases mem_cons.mp hb with rfl|hb;.exact⟨_,J0⟩
    . have:b=it:=by simpa using hb
      subst this;obtain⟨o,j,_⟩:=id hst.1;exact⟨o,Y.extBut _ _ (Ne.symm m) j⟩
  .rw[I.kj ap L];exact B
  .obtain⟨o,j,r⟩:=hst.1;exact⟨o,Y.extBut _ _ (Ne.symm m) j,r⟩
  .rw[aD (hT b hb)];exact(J b hb).1
 done:=fun X Z hw hK hc i t s σ H E I J st stop=>by subst Z hw hK;obtain⟨⟨g,he⟩,l⟩:=st;obtain⟨xs,L,B⟩:=stop;obtain⟨c,M,pl,hz⟩:=I.tuple L;have N:s.heap.IsTuple a c.toArray:=pl;refine wpAny_pyNext_enum_endD (Es (show X.A.in1.handled=none from I.ok.hd hc) it a c.toArray i (by rw[size_toArray,<-M.length];exact B)) he ⟨rfl,l,N⟩ fun h' hs=>⟨rfl,?_⟩;have f:=J it (by simp);exact I.turned (t':=s.toks) (fun b o hb q=>hs b o hb q) f.1 f.2.1 f.2.2.2.1 f.2.2.2.2.1 f.2.2.2.2.2
 self:=fun A i s Q E st q=>wpAny_pyIter_enum st.1.choose_spec q
section
variable{X:Cx}{elts:List Expr}{x1:Nat}{tp:Pos}
def aeQ(K:PySem.W.Frag)(c:TE):TI:=fun σ H R=>c σ H fun x b=>∃a,x=.ref a/\(((∃xs,eV K b a xs)/\R (yZ K a) b)\/((∃xs,iQ K b a xs)/\R (zQ K a) b))
theorem boot_enumerate:bootBuiltins "enumerate"=some (.type "enumerate"):=by decide+kernel
theorem Qy{a:Expr}{t:TE}{p pos:Pos}(v:Gl X "enumerate")(y:X.mg "enumerate"=none)(z:PE X a t)(hs:starEach [a] X.env=[(false,eval a X.env)]:=by rfl):PI X (.Tuple elts x1 tp) (.Call (.Name "enumerate" p) [a] [] pos) (aeQ X.K t):=by
 intro e s σ H R I h;refine Call_ (gn I v y boot_enumerate (PyProof.Rows.callWith_type1 (bR ((bC z cW hs) pos e s σ H (fun vs c=>match vs with|[x]=>∃a,x=.ref a/\(((∃xs,eV X.K c a xs)/\R (yZ X.K a) c)\/((∃xs,iQ X.K c a xs)/\R (zQ X.K a) c))|_=>False) I h) ?_) hs rfl));rintro E s1⟨vs,c,f,r1,j⟩
 . obtain⟨ad,q,k⟩:∃ad,(((∃xs,eV X.K c ad xs)/\R (yZ X.K ad) c)\/((∃xs,iQ X.K c ad xs)/\R (zQ X.K ad) c))/\vs=[.ref ad]:=by cases vs with|nil=>cases j|cons x r=>cases r with|nil=>obtain⟨ad,rfl,q⟩:=j;exact⟨ad,q,rfl⟩|cons _ _=>cases j
   subst k;obtain⟨u,rfl,B⟩:=r1.one;cases B;have fin:∀(h':Heap)(i:Nat->Heap->Prop)(J:It),Turn X.prog X.w X.K (.Tuple elts x1 tp) J [s1.heap.objs.size+1,s1.heap.objs.size] (s1.heap.objs.size+1) i->i 0 h'->IsEnum h' (s1.heap.objs.size+1) s1.heap.objs.size 0 .none->(∀b o,s1.heap.get? b=some o->h'.get? b=some o)->R J c->wpAny (model X.prog X.w) X.A (pyIter (.ref (s1.heap.objs.size+1))) (PIE X e σ (.Tuple elts x1 tp) R) X.xe {s1 with heap:=h'}:=fun h' i J T t0 he kp q=>by
    refine wpAny_pyIter_enum he ⟨_,_,i,J,c,rfl,f.kept (t':=s1.toks) kp,T,t0,fun b hb=>?_,q⟩;have g:s1.heap.objs.size<=b:=by
     rcases mem_cons.mp hb with rfl|hb;.exact le_succ _
     . have:b=s1.heap.objs.size:=by simpa using hb
       rw[this];exact dz
    exact f.zq g (f.hok.fresh g)
   rcases q with⟨⟨xs,l⟩,q⟩|⟨⟨xs,l⟩,q⟩;.obtain⟨m,C,n,hz⟩:=f.list l;exact call_enumerate_list n.isList fun h' he hi hsz kp=>fin h' _ _ (DK ad s1.heap.objs.size (s1.heap.objs.size+1) (Nat.succ_ne_self _)) ⟨⟨_,he⟩,hi⟩ he kp q
   .obtain⟨m,C,n,hz⟩:=f.tuple l;exact jP n fun h' he hi hsz kp=>fin h' _ _ (Dw ad s1.heap.objs.size (s1.heap.objs.size+1) (Nat.succ_ne_self _)) ⟨⟨_,he⟩,hi⟩ he kp q
end
end L2
namespace HH
open PySem L2 PySem.Spec PyProof.Rows
section
variable{K:PySem.W.Frag}{F F1 H H1:Hp}{ρ ρ1:List Sl}{σ:L2.St}{ds:List D}{a:Addr}
theorem rG{c e:Hp}{T:Addr}{v w:V}{d1 d2:D}(sm:aF c e)(g:e T=none)(r1:Rep K c v d1)(h:Rep K c w d2):∃b,Ext c e b (upd e T (.tup [v,w]))/\Rep K b (.ref T) (.tup [d1,d2]):=zX (Q:=fun v f=>∃b,Ext c e b f/\Rep K b v (.tup [d1,d2])) sm (.cons r1 (.cons h .nil)) g fun v b f x i=>⟨b,x,i⟩
theorem IK{xs:List V}{e b:Hp}(f:eV K b a xs)(r:aG K e xs ds)(s:aF e b)(k:Nat):(∀d,(ds.mapIdx fun i d=>D.tup [.int (i:Int),d])[k]?=some d->(yZ K a).go k b/\∀x g,(yZ K a).JP k b x g->∃c,Ext e b c g/\Rep K c x d)/\((ds.mapIdx fun i d=>D.tup [.int (i:Int),d]).length<=k->(yZ K a).stop k b):=by refine⟨fun d hd=>?_,fun h=>⟨xs,f,by rw[r.length];simpa using h⟩⟩;rw[List.getElem?_mapIdx]at hd;obtain⟨d0,j,l⟩:=map_some hd;subst l;obtain⟨w,h1,m⟩:=r.get j;refine⟨⟨xs,w,f,h1⟩,?_⟩;rintro x g⟨T,v,n,o,p,y⟩;subst o;subst p;have:=y xs f;rw[h1]at this;cases this;exact rG s n (bL _) m
theorem G6{xs:List V}{e b:Hp}(f:iQ K b a xs)(r:aG K e xs ds)(s:aF e b)(k:Nat):(∀d,(ds.mapIdx fun i d=>D.tup [.int (i:Int),d])[k]?=some d->(zQ K a).go k b/\∀x g,(zQ K a).JP k b x g->∃c,Ext e b c g/\Rep K c x d)/\((ds.mapIdx fun i d=>D.tup [.int (i:Int),d]).length<=k->(zQ K a).stop k b):=by refine⟨fun d hd=>?_,fun h=>⟨xs,f,by rw[r.length];simpa using h⟩⟩;rw[List.getElem?_mapIdx]at hd;obtain⟨d0,j,l⟩:=map_some hd;subst l;obtain⟨w,h1,m⟩:=r.get j;refine⟨⟨xs,w,f,h1⟩,?_⟩;rintro x g⟨T,v,n,o,p,y⟩;subst o;subst p;have:=y xs f;rw[h1]at this;cases this;exact rG s n (bL _) m
end
section
variable{X:Cx}{c:Call}{e a:Expr}{pa:P}{pos:Pos}{elts:List Expr}{x1:Nat}{tp:Pos}
theorem Us{x:Str}{A:Pos}(B:x="enumerate")(C:Gl X x)(E:X.mg x=none)(G:SX X c a pa)(hs:starEach [a] X.env=[(false,eval a X.env)]:=by rfl):SI X c (.Tuple elts x1 tp) (.Call (.Name x A) [a] [] pos) (.Z6 pa):=by subst B;refine lA (Qy C E G.ev hs) ?_;rintro σ H R⟨F,ρ,U,I,g,e,k⟩;obtain⟨r,J,w,j⟩:=aj e;have m:=aB j;clear j;obtain⟨j,L⟩:=m;subst L;rw[HH.E22]at w;obtain⟨r0,h,M,l⟩:=aj w;have m:=aB l;clear l;obtain⟨l,N⟩:=m;subst N;obtain⟨es,f1,f2⟩:=map_some l;subst f2;cases j;refine⟨F,ρ,r0,_,g,M,fun v y z s i=>?_⟩;obtain⟨W,s2,_,f⟩:=s.dj i;cases hd:r0.d with|tup o=>rw[hd]at f1 f;cases f1;rw[Rep]at f;obtain⟨ad,xs,rfl,h1,p⟩:=f;exact⟨ad,rfl,.inr ⟨⟨xs,aF.gB s2.gs.sub h1⟩,k _ _ _ ⟨s2.gs,fun n k y q t z b=>G6 (aF.gB b.gs.sub (aF.gB b.bN h1)) (p.mono b.bN) b.gs.sub k,fun O h u Q s3=>⟨s2.trans s3,fun v r i=>i.later s2⟩⟩⟩⟩|lst o=>rw[hd]at f1 f;cases f1;rw[Rep]at f;obtain⟨ad,xs,rfl,h1,p⟩:=f;exact⟨ad,rfl,.inl ⟨⟨xs,s2.gs.sub.seq h1⟩,k _ _ _ ⟨s2.gs,fun n k y q t z b=>IK (b.gs.sub.seq (b.bN.seq h1)) (p.mono b.bN) b.gs.sub k,fun O h u Q s3=>⟨s2.trans s3,fun v r i=>i.later s2⟩⟩⟩⟩|_=>rw[hd]at f1;cases f1
end
end HH
end
section
namespace PySem
structure Nx(prog:Program)(w:World)(A:Around)(it src:Addr)(Sx:Nat->Heap->Prop)(get:Nat->Option Value):Prop where
 obj:∀k h,Sx k h->∃o,h.get? it=some o/\∀v,o.data≠.cell v
 keep:∀k h h',Sx k h->(∀o,h.get? it=some o->h'.get? it=some o)->(∀o,h.get? src=some o->h'.get? src=some o)->Sx k h'
 item:∀k(s:Shared)(Q:Value->Shared->Prop)(E:Value->Shared->Prop)x,Sx k s.heap->get k=some x->(∀h',Sx (k+1) h'->SameBut it s.heap h'->Q x {s with heap:=h'})->wpAny (model prog w) A (Builtin.SmallTypes.nextOf (.ref it)) Q E s
 fin:∀k(s:Shared)(Q:Value->Shared->Prop)(E:Value->Shared->Prop),Sx k s.heap->get k=none->(∀h' e,Heap.ExtBut it s.heap h'->(∃o,h'.get? e=some o/\o.cls=.type "StopIteration")->E (.ref e) {s with heap:=h'})->wpAny (model prog w) A (Builtin.SmallTypes.nextOf (.ref it)) Q E s
variable{Q:Value->Shared->Prop}{l1 l2:Addr}{xs ys:Array Value}
section
variable{prog:Program}{w:World}{A:Around}{E:Value->Shared->Prop}{s:Shared}
theorem Nx.list(g:A.handled=none)(it l:Addr)(c:l≠it)(items:Array Value):Nx prog w A it l (fun k h=>h.IsListIter it l k/\h.IsList l items) (fun k=>items[k]?)where obj:=fun k h st=>let⟨o,h1,_,h3⟩:=st.1;⟨o,h1,fun v z=>by rw[h3]at z;cases z⟩;keep:=fun k h h' st a b=>⟨(let⟨o,ho,r⟩:=st.1;⟨o,a o ho,r⟩),(let⟨o,ho,r⟩:=st.2;⟨o,b o ho,r⟩)⟩;item:=fun k s Q E x st e i=>wpAny_nextOf_list_item st.1 st.2 e fun h' f hs=>i h' ⟨f,(let⟨o,ho,r⟩:=st.2;⟨o,hs.extBut l o c ho,r⟩)⟩ hs;fin:=fun k s Q E st e j=>wpAny_nextOf_list_end g st.1 st.2 e j
theorem Nx.tuple(g:A.handled=none)(it l:Addr)(c:l≠it)(items:Array Value):Nx prog w A it l (fun k h=>h.IsTupleIter it l k/\h.IsTuple l items) (fun k=>items[k]?)where obj:=fun k h st=>let⟨o,h1,_,h3⟩:=st.1;⟨o,h1,fun v z=>by rw[h3]at z;cases z⟩;keep:=fun k h h' st a b=>⟨(let⟨o,ho,r⟩:=st.1;⟨o,a o ho,r⟩),(let⟨o,ho,r⟩:=st.2;⟨o,b o ho,r⟩)⟩;item:=fun k s Q E x st e i=>gU st.1 st.2 e fun h' f hs=>i h' ⟨f,(let⟨o,ho,r⟩:=st.2;⟨o,hs.extBut l o c ho,r⟩)⟩ hs;fin:=fun k s Q E st e j=>fG g st.1 st.2 e j
variable{z TI TO i1 i2 l1 l2:Addr}{k:Nat}{S1 S2:Nat->Heap->Prop}{g1 g2:Nat->Option Value}{a b:Value}
theorem Ex{x y:Value}(D:ZipApart z TI TO i1 i2 l1 l2)(t:Nx prog w A i1 l1 S1 g1)(u:Nx prog w A i2 l2 S2 g2)(hz:IsZip s.heap z TI TO .none)(G:IsPair s.heap TI (.ref i1) (.ref i2))(H:IsPair s.heap TO a b)(h1:S1 k s.heap)(W:S2 k s.heap)(X:g1 k=some x)(Y:g2 k=some y)(Z:∀ h',IsZip h' z TI TO (rawInt s.heap.objs.size)->IsPair h' TO x y->S1 (k+1) h'->S2 (k+1) h'->IsPair h' s.heap.objs.size x y->h'.objs.size=s.heap.objs.size+1->(∀c o,c≠z->c≠TO->c≠i1->c≠i2->s.heap.get? c=some o->h'.get? c=some o)->Q (.ref s.heap.objs.size) {s with heap:=h'}):wpAny (model prog w) A (Builtin.«zip.__next__» ⟨[.ref z],[]⟩) (fun fin s'=>∃v,fin=.done (.ret v)/\Q v s') E s:=by
 show wpAny _ _ (field (.ref z) 2>>=_) _ _ _;refine wpAny_bind (wpAny_field hz rfl (x:=.bool false) rfl ?_);show wpAny _ _ (field (.ref z) 3>>=_) _ _ _;refine wpAny_bind (wpAny_field hz rfl (x:=.ref TI) rfl (wpAny_bind (wpAny_seqItems G rfl ?_)));show wpAny _ _ (Builtin.SmallTypes.ownedTupleIsFree (.ref z)>>=_) _ _ _;refine wpAny_bind ?_;unfold Builtin.SmallTypes.ownedTupleIsFree;refine wpAny_bind (wpAny_field hz rfl (x:=.none) rfl (wpAny_pure ?_));simp only[if_true];refine wpAny_bind (wpAny_rule (wpAny_bind (wpAny_field hz rfl (x:=.ref TO) rfl (wpAny_bind (wpAny_setField_rec hz (by simp) fun t1 I g=>?_)))));have I:IsZip t1 z TI TO .ellipsis:=I;refine wpAny_bind ?_;simp only[List.zipIdx_cons,List.zipIdx_nil,forIn_cons,forIn_nil];refine wpAny_bind (wpAny_bind (wpAny_onRaise ?_));show wpAny _ _ (Builtin.SmallTypes.nextOf (.ref i1)>>=_) _ _ _;have q1:S1 k t1:=t.keep _ _ _ h1 (fun o e=>g.extBut _ _ D.i1z e) fun o e=>g.extBut _ _ D.l1z e;refine wpAny_bind (t.item k _ _ _ x q1 X fun t2 q2 m=>wpAny_pure ?_);have p2:IsPair t2 TO a b:=m.extBut _ _ D.TOi1 (g.extBut _ _ D.TOz H);refine wpAny_bind (wpAny_seqItems p2 rfl (wpAny_bind (wpAny_updateSeq_pair p2 fun L p3 h=>?_)));have p3:IsPair L TO x b:=p3;refine wpAny_bind (wpAny_letGo (wpAny_pure (wpAny_bind (wpAny_bind (wpAny_onRaise ?_)))));show wpAny _ _ (Builtin.SmallTypes.nextOf (.ref i2)>>=_) _ _ _;have w3:S2 k L:=u.keep _ _ _ W (fun o e=>h.extBut _ _ D.TOi2.symm (m.extBut _ _ D.i12.symm (g.extBut _ _ D.i2z e))) fun o e=>h.extBut _ _ D.l2TO (m.extBut _ _ D.l2i1 (g.extBut _ _ D.l2z e));refine wpAny_bind (u.item k _ _ _ y w3 Y fun t4 w4 n=>wpAny_pure ?_);have M:IsPair t4 TO x b:=n.extBut _ _ D.TOi2 p3;refine wpAny_bind (wpAny_seqItems M rfl (wpAny_bind (wpAny_updateSeq_pair M fun f B i=>?_)));have B:IsPair f TO x y:=B;refine wpAny_bind (wpAny_letGo (wpAny_pure (wpAny_pure (wpAny_bind (wpAny_seqItems B rfl (wpAny_bind (wpAny_newTuple ?_)))))));have hsz:f.objs.size=s.heap.objs.size:=by rw[i.1,n.1,h.1,m.1,g.1]
 have N:IsZip f z TI TO .ellipsis:=i.extBut _ _ D.TOz.symm (n.extBut _ _ D.i2z.symm (h.extBut _ _ D.TOz.symm (m.extBut _ _ D.i1z.symm I)));have kp:∀c o,c≠z->c≠TO->c≠i1->c≠i2->s.heap.get? c=some o->f.get? c=some o:=fun c o c1 c2 c3 c4 e=>i.extBut _ _ c2 (n.extBut _ _ c4 (h.extBut _ _ c2 (m.extBut _ _ c3 (g.extBut _ _ c1 e))));have q5:S1 (k+1) f:=t.keep _ _ _ q2 (fun o e=>i.extBut _ _ D.TOi1.symm (n.extBut _ _ D.i12 (h.extBut _ _ D.TOi1.symm e))) fun o e=>i.extBut _ _ D.l1TO (n.extBut _ _ D.l1i2 (h.extBut _ _ D.l1TO e));have w5:S2 (k+1) f:=u.keep _ _ _ w4 (fun o e=>i.extBut _ _ D.TOi2.symm e) fun o e=>i.extBut _ _ D.l2TO e;have q:z<f.objs.size:=lt_size N;show wpAny _ _ (Builtin.SmallTypes.ownedTupleHandOut (.ref z) (.ref f.objs.size)>>=_) _ _ _;refine wpAny_bind ?_;unfold Builtin.SmallTypes.ownedTupleHandOut;have z6:IsZip (f.push {cls:=.type "tuple",data:=.seq #[x,y]}) z TI TO .ellipsis:=dG N;refine wpAny_bind (wpAny_setField_rec z6 (by simp) fun t7 J j=>?_);have J:IsZip t7 z TI TO (rawInt f.objs.size):=J;refine wpAny_setField_rec J (by simp) fun r C l=>?_;have C:IsZip r z TI TO (rawInt f.objs.size):=C;have p:∀c o,c≠z->f.get? c=some o->r.get? c=some o:=fun c o c1 e=>l.extBut _ _ c1 (j.extBut _ _ c1 (dG e));have O:IsPair r f.objs.size x y:=l.extBut _ _ (ne_of_gt q) (j.extBut _ _ (ne_of_gt q) (get?_push_size _ rfl));have U:r.objs.size=f.objs.size+1:=by rw[l.1,j.1,size_push]
 rw[hsz]at C O U;refine wpAny_pure ⟨_,rfl,?_⟩;show Q (.ref f.objs.size) _;rw[hsz];exact Z r C (p _ _ D.TOz B) (t.keep _ _ _ q5 (fun o e=>p _ o D.i1z e) fun o e=>p _ o D.l1z e) (u.keep _ _ _ w5 (fun o e=>p _ o D.i2z e) fun o e=>p _ o D.l2z e) O U fun c o c1 c2 c3 c4 e=>p c o c1 (kp c o c1 c2 c3 c4 e)
theorem HB{Q:Fin->Shared->Prop}(D:ZipApart z TI TO i1 i2 l1 l2)(q:Nx prog w A i1 l1 S1 g1)(y:Nx prog w A i2 l2 S2 g2)(hz:IsZip s.heap z TI TO .none)(r:IsPair s.heap TI (.ref i1) (.ref i2))(t:IsPair s.heap TO a b)(h1:S1 k s.heap)(L:S2 k s.heap)(n:g1 k=none\/g2 k=none)(B:∀h' e,(∀c o,c≠z->c≠TO->c≠i1->c≠i2->s.heap.get? c=some o->h'.get? c=some o)->(∃o,h'.get? e=some o/\o.cls=.type "StopIteration")->E (.ref e) {s with heap:=h'}):wpAny (model prog w) A (Builtin.«zip.__next__» ⟨[.ref z],[]⟩) Q E s:=by
 show wpAny _ _ (field (.ref z) 2>>=_) _ _ _;refine wpAny_bind (wpAny_field hz rfl (x:=.bool false) rfl ?_);show wpAny _ _ (field (.ref z) 3>>=_) _ _ _;refine wpAny_bind (wpAny_field hz rfl (x:=.ref TI) rfl (wpAny_bind (wpAny_seqItems r rfl ?_)));show wpAny _ _ (Builtin.SmallTypes.ownedTupleIsFree (.ref z)>>=_) _ _ _;refine wpAny_bind ?_;unfold Builtin.SmallTypes.ownedTupleIsFree;refine wpAny_bind (wpAny_field hz rfl (x:=.none) rfl (wpAny_pure ?_));simp only[if_true];refine wpAny_bind (wpAny_rule (wpAny_bind (wpAny_field hz rfl (x:=.ref TO) rfl (wpAny_bind (wpAny_setField_rec hz (by simp) fun t1 p j=>?_)))));have p:IsZip t1 z TI TO .ellipsis:=p;refine wpAny_bind ?_;simp only[List.zipIdx_cons,List.zipIdx_nil,forIn_cons,forIn_nil];refine wpAny_bind (wpAny_bind (wpAny_onRaise ?_));show wpAny _ _ (Builtin.SmallTypes.nextOf (.ref i1)>>=_) _ _ _
 have C:S1 k t1:=q.keep _ _ _ h1 (fun o e=>j.extBut _ _ D.i1z e) fun o e=>j.extBut _ _ D.l1z e;cases hx:g1 k with|none=>
   refine wpAny_bind (q.fin k _ _ _ C hx fun t2 e i he=>?_);obtain⟨u,f,g⟩:=he;have G:IsZip t2 z TI TO .ellipsis:=i _ _ D.i1z.symm p;have l:e≠z:=fun x=>by subst x;rw[G]at f;cases f;simp at g
   exact wpAny_setField_rec G (by simp) fun v _ m=>B v e (fun c o c1 _ c3 _ x=>m.extBut _ _ c1 (i _ _ c3 (j.extBut _ _ c1 x))) ⟨u,m.extBut _ _ l f,g⟩|some x=>
   have M:g2 k=none:=by rcases n with h|h;rw[hx]at h;cases h;exact h
   refine wpAny_bind (q.item k _ _ _ x C hx fun t2 W i=>wpAny_pure ?_);have p2:IsPair t2 TO a b:=i.extBut _ _ D.TOi1 (j.extBut _ _ D.TOz t);refine wpAny_bind (wpAny_seqItems p2 rfl (wpAny_bind (wpAny_updateSeq_pair p2 fun v p3 m=>?_)));refine wpAny_bind (wpAny_letGo (wpAny_pure (wpAny_bind (wpAny_bind (wpAny_onRaise ?_)))));show wpAny _ _ (Builtin.SmallTypes.nextOf (.ref i2)>>=_) _ _ _;have N:S2 k v:=y.keep _ _ _ L (fun o e=>m.extBut _ _ D.TOi2.symm (i.extBut _ _ D.i12.symm (j.extBut _ _ D.i2z e))) fun o e=>m.extBut _ _ D.l2TO (i.extBut _ _ D.l2i1 (j.extBut _ _ D.l2z e));refine wpAny_bind (y.fin k _ _ _ N M fun O e H he=>?_);obtain⟨u,f,g⟩:=he;have I:IsZip O z TI TO .ellipsis:=H _ _ D.i2z.symm (m.extBut _ _ D.TOz.symm (i.extBut _ _ D.i1z.symm p));have l:e≠z:=fun x=>by subst x;rw[I]at f;cases f;simp at g
   exact wpAny_setField_rec I (by simp) fun U _ J=>B U e (fun c o c1 c2 c3 c4 x=>J.extBut _ _ c1 (H _ _ c4 (m.extBut _ _ c2 (i.extBut _ _ c3 (j.extBut _ _ c1 x))))) ⟨u,J.extBut _ _ l f,g⟩
theorem nM{x y:Value}{Q:Option Value->Shared->Prop}(D:ZipApart z TI TO i1 i2 l1 l2)(h:Nx prog w A.in1 i1 l1 S1 g1)(i:Nx prog w A.in1 i2 l2 S2 g2)(hz:IsZip s.heap z TI TO .none)(e:IsPair s.heap TI (.ref i1) (.ref i2))(f:IsPair s.heap TO a b)(h1:S1 k s.heap)(j:S2 k s.heap)(l:g1 k=some x)(m:g2 k=some y)(n:∀ h',IsZip h' z TI TO (rawInt s.heap.objs.size)->IsPair h' TO x y->S1 (k+1) h'->S2 (k+1) h'->IsPair h' s.heap.objs.size x y->h'.objs.size=s.heap.objs.size+1->(∀c o,c≠z->c≠TO->c≠i1->c≠i2->s.heap.get? c=some o->h'.get? c=some o)->Q (some (.ref s.heap.objs.size)) {s with heap:=h'}):wpAny (model prog w) A (pyNext (.ref z)) Q E s:=by have g:s.TypeIs (.ref z) "zip":=⟨_,hz,rfl⟩;unfold pyNext;exact wpAny_bind (wpAny_attempt (wpAny_callSpecial?_slot (name:=Str.ofString "__next__") g F.slot_zip_next (wpAny_call_entry F.slot_zip_next g F.entry_zip_next (Ex D h i hz e f h1 j l m fun h' p q r t u v B=>wpAny_pure (n h' p q r t u v B)) (F.args_zip_next_1 _))))
theorem o8{Q:Option Value->Shared->Prop}(D:ZipApart z TI TO i1 i2 l1 l2)(j:Nx prog w A.in1 i1 l1 S1 g1)(l:Nx prog w A.in1 i2 l2 S2 g2)(hz:IsZip s.heap z TI TO .none)(g:IsPair s.heap TI (.ref i1) (.ref i2))(h:IsPair s.heap TO a b)(h1:S1 k s.heap)(m:S2 k s.heap)(f:g1 k=none\/g2 k=none)(n:∀h',(∀c o,c≠z->c≠TO->c≠i1->c≠i2->s.heap.get? c=some o->h'.get? c=some o)->Q none {s with heap:=h'}):wpAny (model prog w) A (pyNext (.ref z)) Q E s:=by have i:s.TypeIs (.ref z) "zip":=⟨_,hz,rfl⟩;unfold pyNext;refine wpAny_bind (wpAny_attempt (wpAny_callSpecial?_slot (name:=Str.ofString "__next__") i F.slot_zip_next (wpAny_call_entry F.slot_zip_next i F.entry_zip_next (HB D j l hz g h h1 m f fun h' e p he=>?_) (F.args_zip_next_1 _))));obtain⟨o,ho,hc⟩:=he;exact wpAny_bind (wpAny_isInstance (T:="StopIteration") (b:=true) ⟨o,ho,hc⟩ isSubtype_stop (wpAny_pure (n _ p)))
end
theorem pB(l1 l2:Addr)(xs ys:Array Value):Meets (Builtin.«zip.__new__» ⟨[.type "zip",.ref l1,.ref l2],[]⟩) (fun _ R s=>s.heap.IsList l1 xs/\s.heap.IsList l2 ys/\R (.ok (.ret (.ref (s.heap.objs.size+4)))) {s with heap:=((((s.heap.push {cls:=.type "list_iterator",data:=.fields #[.ref l1,.int 0 0]}).push {cls:=.type "list_iterator",data:=.fields #[.ref l2,.int 0 0]}).push {cls:=.type "tuple",data:=.seq #[.ref s.heap.objs.size,.ref (s.heap.objs.size+1)]}).push {cls:=.type "tuple",data:=.seq #[.none,.none]}).push {cls:=.type "zip",data:=.fields #[.none,.bool false,.bool false,.ref (s.heap.objs.size+2),.ref (s.heap.objs.size+3)]}}):=.of_wp fun prog w A R s h=>by obtain⟨f,g,d,i,os⟩:=s;obtain⟨a,b,h⟩:=h;have j:=sub_zip;have c:Heap.IsList (Shared.heap ⟨f,g,d,i,os⟩) l1 xs:=a;have e:Heap.IsList (Shared.heap ⟨f.push {cls:=.type "list_iterator",data:=.fields #[.ref l1,.int 0 0]},g,d,i,os⟩) l2 ys:=Heap.IsList.push b _;wp_walk using wpAny_pyIter_list c,wpAny_pyIter_list e;simp only[size_push]at*;exact⟨_,rfl,h⟩
section
variable{prog:Program}{w:World}{A:Around}{E:Value->Shared->Prop}{s:Shared}
theorem yI(i:s.heap.IsList l1 xs)(j:s.heap.IsList l2 ys)(h:∀ h',IsZip h' (s.heap.objs.size+4) (s.heap.objs.size+2) (s.heap.objs.size+3) .none->IsPair h' (s.heap.objs.size+2) (.ref s.heap.objs.size) (.ref (s.heap.objs.size+1))->IsPair h' (s.heap.objs.size+3) .none .none->h'.IsListIter s.heap.objs.size l1 0->h'.IsListIter (s.heap.objs.size+1) l2 0->(∀c o,s.heap.get? c=some o->h'.get? c=some o)->Q (.ref (s.heap.objs.size+4)) {s with heap:=h'}):wpAny (model prog w) A (call (.type "zip") [.ref l1,.ref l2]) Q E s:=by
 refine callType_new F.called_zip (by decide) (F.typeCall_zip_2 _ _) (F.newCall_zip_2 _ _) (fun obj=>F.args_object_init_3 obj _ _) F.entry_zip_new (pB l1 l2 xs ys) ⟨i,j,?_⟩;generalize k:s.heap.push {cls:=.type "list_iterator",data:=.fields #[.ref l1,.int 0 0]}=t1;have r:t1.objs.size=s.heap.objs.size+1:=by rw[<-k,size_push]
 have z:t1.get? s.heap.objs.size=some {cls:=.type "list_iterator",data:=.fields #[.ref l1,.int 0 0]}:=by rw[<-k];exact get?_push_size _ rfl
 have B:∀c o,s.heap.get? c=some o->t1.get? c=some o:=fun c o e=>by rw[<-k];exact dG e
 generalize l:t1.push {cls:=.type "list_iterator",data:=.fields #[.ref l2,.int 0 0]}=t2;have t:t2.objs.size=s.heap.objs.size+2:=by rw[<-l,size_push,r]
 have C:t2.get? (s.heap.objs.size+1)=some {cls:=.type "list_iterator",data:=.fields #[.ref l2,.int 0 0]}:=by rw[<-r,<-l];exact get?_push_size _ rfl
 have u:∀c o,t1.get? c=some o->t2.get? c=some o:=fun c o e=>by rw[<-l];exact dG e
 generalize m:t2.push {cls:=.type "tuple",data:=.seq #[.ref s.heap.objs.size,.ref (s.heap.objs.size+1)]}=a;have v:a.objs.size=s.heap.objs.size+3:=by rw[<-m,size_push,t]
 have G:a.get? (s.heap.objs.size+2)=some {cls:=.type "tuple",data:=.seq #[.ref s.heap.objs.size,.ref (s.heap.objs.size+1)]}:=by rw[<-t,<-m];exact get?_push_size _ rfl
 have n:∀c o,t2.get? c=some o->a.get? c=some o:=fun c o e=>by rw[<-m];exact dG e
 generalize p:a.push {cls:=.type "tuple",data:=.seq #[.none,.none]}=b;have H:b.objs.size=s.heap.objs.size+4:=by rw[<-p,size_push,v]
 have I:b.get? (s.heap.objs.size+3)=some {cls:=.type "tuple",data:=.seq #[.none,.none]}:=by rw[<-v,<-p];exact get?_push_size _ rfl
 have g:∀c o,a.get? c=some o->b.get? c=some o:=fun c o e=>by rw[<-p];exact dG e
 generalize x:b.push {cls:=.type "zip",data:=.fields #[.none,.bool false,.bool false,.ref (s.heap.objs.size+2),.ref (s.heap.objs.size+3)]}=q;have y:q.get? (s.heap.objs.size+4)=some {cls:=.type "zip",data:=.fields #[.none,.bool false,.bool false,.ref (s.heap.objs.size+2),.ref (s.heap.objs.size+3)]}:=by rw[<-H,<-x];exact get?_push_size _ rfl
 have f:∀c o,b.get? c=some o->q.get? c=some o:=fun c o e=>by rw[<-x];exact dG e
 exact⟨⟨_,y,rfl⟩,h q y (f _ _ (g _ _ G)) (f _ _ I) ⟨_,f _ _ (g _ _ (n _ _ (u _ _ z))),rfl,rfl⟩ ⟨_,f _ _ (g _ _ (n _ _ C)),rfl,rfl⟩ fun c o e=>f _ _ (g _ _ (n _ _ (u _ _ (B _ _ e))))⟩
end
theorem pC(l1 l2:Addr)(xs ys:Array Value):Meets (Builtin.«zip.__new__» ⟨[.type "zip",.ref l1,.ref l2],[]⟩) (fun _ R s=>s.heap.IsList l1 xs/\s.heap.IsTuple l2 ys/\R (.ok (.ret (.ref (s.heap.objs.size+4)))) {s with heap:=((((s.heap.push {cls:=.type "list_iterator",data:=.fields #[.ref l1,.int 0 0]}).push {cls:=.type "tuple_iterator",data:=.fields #[.ref l2,.int 0 0]}).push {cls:=.type "tuple",data:=.seq #[.ref s.heap.objs.size,.ref (s.heap.objs.size+1)]}).push {cls:=.type "tuple",data:=.seq #[.none,.none]}).push {cls:=.type "zip",data:=.fields #[.none,.bool false,.bool false,.ref (s.heap.objs.size+2),.ref (s.heap.objs.size+3)]}}):=.of_wp fun prog w A R s h=>by obtain⟨f,g,d,i,os⟩:=s;obtain⟨a,b,h⟩:=h;have j:=sub_zip;have c:Heap.IsList (Shared.heap ⟨f,g,d,i,os⟩) l1 xs:=a;have e:Heap.IsTuple (Shared.heap ⟨f.push {cls:=.type "list_iterator",data:=.fields #[.ref l1,.int 0 0]},g,d,i,os⟩) l2 ys:=Heap.IsTuple.push b _;wp_walk using wpAny_pyIter_list c,wpAny_pyIter_tuple e;simp only[size_push]at*;exact⟨_,rfl,h⟩
section
variable{prog:Program}{w:World}{A:Around}{E:Value->Shared->Prop}{s:Shared}
theorem yN(i:s.heap.IsList l1 xs)(j:s.heap.IsTuple l2 ys)(h:∀ h',IsZip h' (s.heap.objs.size+4) (s.heap.objs.size+2) (s.heap.objs.size+3) .none->IsPair h' (s.heap.objs.size+2) (.ref s.heap.objs.size) (.ref (s.heap.objs.size+1))->IsPair h' (s.heap.objs.size+3) .none .none->h'.IsListIter s.heap.objs.size l1 0->h'.IsTupleIter (s.heap.objs.size+1) l2 0->(∀c o,s.heap.get? c=some o->h'.get? c=some o)->Q (.ref (s.heap.objs.size+4)) {s with heap:=h'}):wpAny (model prog w) A (call (.type "zip") [.ref l1,.ref l2]) Q E s:=by
 refine callType_new F.called_zip (by decide) (F.typeCall_zip_2 _ _) (F.newCall_zip_2 _ _) (fun obj=>F.args_object_init_3 obj _ _) F.entry_zip_new (pC l1 l2 xs ys) ⟨i,j,?_⟩;generalize k:s.heap.push {cls:=.type "list_iterator",data:=.fields #[.ref l1,.int 0 0]}=t1;have r:t1.objs.size=s.heap.objs.size+1:=by rw[<-k,size_push]
 have z:t1.get? s.heap.objs.size=some {cls:=.type "list_iterator",data:=.fields #[.ref l1,.int 0 0]}:=by rw[<-k];exact get?_push_size _ rfl
 have B:∀c o,s.heap.get? c=some o->t1.get? c=some o:=fun c o e=>by rw[<-k];exact dG e
 generalize l:t1.push {cls:=.type "tuple_iterator",data:=.fields #[.ref l2,.int 0 0]}=t2;have t:t2.objs.size=s.heap.objs.size+2:=by rw[<-l,size_push,r]
 have C:t2.get? (s.heap.objs.size+1)=some {cls:=.type "tuple_iterator",data:=.fields #[.ref l2,.int 0 0]}:=by rw[<-r,<-l];exact get?_push_size _ rfl
 have u:∀c o,t1.get? c=some o->t2.get? c=some o:=fun c o e=>by rw[<-l];exact dG e
 generalize m:t2.push {cls:=.type "tuple",data:=.seq #[.ref s.heap.objs.size,.ref (s.heap.objs.size+1)]}=a;have v:a.objs.size=s.heap.objs.size+3:=by rw[<-m,size_push,t]
 have G:a.get? (s.heap.objs.size+2)=some {cls:=.type "tuple",data:=.seq #[.ref s.heap.objs.size,.ref (s.heap.objs.size+1)]}:=by rw[<-t,<-m];exact get?_push_size _ rfl
 have n:∀c o,t2.get? c=some o->a.get? c=some o:=fun c o e=>by rw[<-m];exact dG e
 generalize p:a.push {cls:=.type "tuple",data:=.seq #[.none,.none]}=b;have H:b.objs.size=s.heap.objs.size+4:=by rw[<-p,size_push,v]
 have I:b.get? (s.heap.objs.size+3)=some {cls:=.type "tuple",data:=.seq #[.none,.none]}:=by rw[<-v,<-p];exact get?_push_size _ rfl
 have g:∀c o,a.get? c=some o->b.get? c=some o:=fun c o e=>by rw[<-p];exact dG e
 generalize x:b.push {cls:=.type "zip",data:=.fields #[.none,.bool false,.bool false,.ref (s.heap.objs.size+2),.ref (s.heap.objs.size+3)]}=q;have y:q.get? (s.heap.objs.size+4)=some {cls:=.type "zip",data:=.fields #[.none,.bool false,.bool false,.ref (s.heap.objs.size+2),.ref (s.heap.objs.size+3)]}:=by rw[<-H,<-x];exact get?_push_size _ rfl
 have f:∀c o,b.get? c=some o->q.get? c=some o:=fun c o e=>by rw[<-x];exact dG e
 exact⟨⟨_,y,rfl⟩,h q y (f _ _ (g _ _ G)) (f _ _ I) ⟨_,f _ _ (g _ _ (n _ _ (u _ _ z))),rfl,rfl⟩ ⟨_,f _ _ (g _ _ (n _ _ C)),rfl,rfl⟩ fun c o e=>f _ _ (g _ _ (n _ _ (u _ _ (B _ _ e))))⟩
end
theorem pA(l1 l2:Addr)(xs ys:Array Value):Meets (Builtin.«zip.__new__» ⟨[.type "zip",.ref l1,.ref l2],[]⟩) (fun _ R s=>s.heap.IsTuple l1 xs/\s.heap.IsList l2 ys/\R (.ok (.ret (.ref (s.heap.objs.size+4)))) {s with heap:=((((s.heap.push {cls:=.type "tuple_iterator",data:=.fields #[.ref l1,.int 0 0]}).push {cls:=.type "list_iterator",data:=.fields #[.ref l2,.int 0 0]}).push {cls:=.type "tuple",data:=.seq #[.ref s.heap.objs.size,.ref (s.heap.objs.size+1)]}).push {cls:=.type "tuple",data:=.seq #[.none,.none]}).push {cls:=.type "zip",data:=.fields #[.none,.bool false,.bool false,.ref (s.heap.objs.size+2),.ref (s.heap.objs.size+3)]}}):=.of_wp fun prog w A R s h=>by obtain⟨f,g,d,i,os⟩:=s;obtain⟨a,b,h⟩:=h;have j:=sub_zip;have c:Heap.IsTuple (Shared.heap ⟨f,g,d,i,os⟩) l1 xs:=a;have e:Heap.IsList (Shared.heap ⟨f.push {cls:=.type "tuple_iterator",data:=.fields #[.ref l1,.int 0 0]},g,d,i,os⟩) l2 ys:=Heap.IsList.push b _;wp_walk using wpAny_pyIter_tuple c,wpAny_pyIter_list e;simp only[size_push]at*;exact⟨_,rfl,h⟩
section
variable{prog:Program}{w:World}{A:Around}{E:Value->Shared->Prop}{s:Shared}
theorem zR(i:s.heap.IsTuple l1 xs)(j:s.heap.IsList l2 ys)(h:∀ h',IsZip h' (s.heap.objs.size+4) (s.heap.objs.size+2) (s.heap.objs.size+3) .none->IsPair h' (s.heap.objs.size+2) (.ref s.heap.objs.size) (.ref (s.heap.objs.size+1))->IsPair h' (s.heap.objs.size+3) .none .none->h'.IsTupleIter s.heap.objs.size l1 0->h'.IsListIter (s.heap.objs.size+1) l2 0->(∀c o,s.heap.get? c=some o->h'.get? c=some o)->Q (.ref (s.heap.objs.size+4)) {s with heap:=h'}):wpAny (model prog w) A (call (.type "zip") [.ref l1,.ref l2]) Q E s:=by
 refine callType_new F.called_zip (by decide) (F.typeCall_zip_2 _ _) (F.newCall_zip_2 _ _) (fun obj=>F.args_object_init_3 obj _ _) F.entry_zip_new (pA l1 l2 xs ys) ⟨i,j,?_⟩;generalize k:s.heap.push {cls:=.type "tuple_iterator",data:=.fields #[.ref l1,.int 0 0]}=t1;have r:t1.objs.size=s.heap.objs.size+1:=by rw[<-k,size_push]
 have z:t1.get? s.heap.objs.size=some {cls:=.type "tuple_iterator",data:=.fields #[.ref l1,.int 0 0]}:=by rw[<-k];exact get?_push_size _ rfl
 have B:∀c o,s.heap.get? c=some o->t1.get? c=some o:=fun c o e=>by rw[<-k];exact dG e
 generalize l:t1.push {cls:=.type "list_iterator",data:=.fields #[.ref l2,.int 0 0]}=t2;have t:t2.objs.size=s.heap.objs.size+2:=by rw[<-l,size_push,r]
 have C:t2.get? (s.heap.objs.size+1)=some {cls:=.type "list_iterator",data:=.fields #[.ref l2,.int 0 0]}:=by rw[<-r,<-l];exact get?_push_size _ rfl
 have u:∀c o,t1.get? c=some o->t2.get? c=some o:=fun c o e=>by rw[<-l];exact dG e
 generalize m:t2.push {cls:=.type "tuple",data:=.seq #[.ref s.heap.objs.size,.ref (s.heap.objs.size+1)]}=a;have v:a.objs.size=s.heap.objs.size+3:=by rw[<-m,size_push,t]
 have G:a.get? (s.heap.objs.size+2)=some {cls:=.type "tuple",data:=.seq #[.ref s.heap.objs.size,.ref (s.heap.objs.size+1)]}:=by rw[<-t,<-m];exact get?_push_size _ rfl
 have n:∀c o,t2.get? c=some o->a.get? c=some o:=fun c o e=>by rw[<-m];exact dG e
 generalize p:a.push {cls:=.type "tuple",data:=.seq #[.none,.none]}=b;have H:b.objs.size=s.heap.objs.size+4:=by rw[<-p,size_push,v]
 have I:b.get? (s.heap.objs.size+3)=some {cls:=.type "tuple",data:=.seq #[.none,.none]}:=by rw[<-v,<-p];exact get?_push_size _ rfl
 have g:∀c o,a.get? c=some o->b.get? c=some o:=fun c o e=>by rw[<-p];exact dG e
 generalize x:b.push {cls:=.type "zip",data:=.fields #[.none,.bool false,.bool false,.ref (s.heap.objs.size+2),.ref (s.heap.objs.size+3)]}=q;have y:q.get? (s.heap.objs.size+4)=some {cls:=.type "zip",data:=.fields #[.none,.bool false,.bool false,.ref (s.heap.objs.size+2),.ref (s.heap.objs.size+3)]}:=by rw[<-H,<-x];exact get?_push_size _ rfl
 have f:∀c o,b.get? c=some o->q.get? c=some o:=fun c o e=>by rw[<-x];exact dG e
 exact⟨⟨_,y,rfl⟩,h q y (f _ _ (g _ _ G)) (f _ _ I) ⟨_,f _ _ (g _ _ (n _ _ (u _ _ z))),rfl,rfl⟩ ⟨_,f _ _ (g _ _ (n _ _ C)),rfl,rfl⟩ fun c o e=>f _ _ (g _ _ (n _ _ (u _ _ (B _ _ e))))⟩
end
theorem pG(l1 l2:Addr)(xs ys:Array Value):Meets (Builtin.«zip.__new__» ⟨[.type "zip",.ref l1,.ref l2],[]⟩) (fun _ R s=>s.heap.IsTuple l1 xs/\s.heap.IsTuple l2 ys/\R (.ok (.ret (.ref (s.heap.objs.size+4)))) {s with heap:=((((s.heap.push {cls:=.type "tuple_iterator",data:=.fields #[.ref l1,.int 0 0]}).push {cls:=.type "tuple_iterator",data:=.fields #[.ref l2,.int 0 0]}).push {cls:=.type "tuple",data:=.seq #[.ref s.heap.objs.size,.ref (s.heap.objs.size+1)]}).push {cls:=.type "tuple",data:=.seq #[.none,.none]}).push {cls:=.type "zip",data:=.fields #[.none,.bool false,.bool false,.ref (s.heap.objs.size+2),.ref (s.heap.objs.size+3)]}}):=.of_wp fun prog w A R s h=>by obtain⟨f,g,d,i,os⟩:=s;obtain⟨a,b,h⟩:=h;have j:=sub_zip;have c:Heap.IsTuple (Shared.heap ⟨f,g,d,i,os⟩) l1 xs:=a;have e:Heap.IsTuple (Shared.heap ⟨f.push {cls:=.type "tuple_iterator",data:=.fields #[.ref l1,.int 0 0]},g,d,i,os⟩) l2 ys:=Heap.IsTuple.push b _;wp_walk using wpAny_pyIter_tuple c,wpAny_pyIter_tuple e;simp only[size_push]at*;exact⟨_,rfl,h⟩
section
variable{prog:Program}{w:World}{A:Around}{E:Value->Shared->Prop}{s:Shared}
theorem zN(i:s.heap.IsTuple l1 xs)(j:s.heap.IsTuple l2 ys)(h:∀ h',IsZip h' (s.heap.objs.size+4) (s.heap.objs.size+2) (s.heap.objs.size+3) .none->IsPair h' (s.heap.objs.size+2) (.ref s.heap.objs.size) (.ref (s.heap.objs.size+1))->IsPair h' (s.heap.objs.size+3) .none .none->h'.IsTupleIter s.heap.objs.size l1 0->h'.IsTupleIter (s.heap.objs.size+1) l2 0->(∀c o,s.heap.get? c=some o->h'.get? c=some o)->Q (.ref (s.heap.objs.size+4)) {s with heap:=h'}):wpAny (model prog w) A (call (.type "zip") [.ref l1,.ref l2]) Q E s:=by
 refine callType_new F.called_zip (by decide) (F.typeCall_zip_2 _ _) (F.newCall_zip_2 _ _) (fun obj=>F.args_object_init_3 obj _ _) F.entry_zip_new (pG l1 l2 xs ys) ⟨i,j,?_⟩;generalize k:s.heap.push {cls:=.type "tuple_iterator",data:=.fields #[.ref l1,.int 0 0]}=t1;have r:t1.objs.size=s.heap.objs.size+1:=by rw[<-k,size_push]
 have z:t1.get? s.heap.objs.size=some {cls:=.type "tuple_iterator",data:=.fields #[.ref l1,.int 0 0]}:=by rw[<-k];exact get?_push_size _ rfl
 have B:∀c o,s.heap.get? c=some o->t1.get? c=some o:=fun c o e=>by rw[<-k];exact dG e
 generalize l:t1.push {cls:=.type "tuple_iterator",data:=.fields #[.ref l2,.int 0 0]}=t2;have t:t2.objs.size=s.heap.objs.size+2:=by rw[<-l,size_push,r]
 have C:t2.get? (s.heap.objs.size+1)=some {cls:=.type "tuple_iterator",data:=.fields #[.ref l2,.int 0 0]}:=by rw[<-r,<-l];exact get?_push_size _ rfl
 have u:∀c o,t1.get? c=some o->t2.get? c=some o:=fun c o e=>by rw[<-l];exact dG e
 generalize m:t2.push {cls:=.type "tuple",data:=.seq #[.ref s.heap.objs.size,.ref (s.heap.objs.size+1)]}=a;have v:a.objs.size=s.heap.objs.size+3:=by rw[<-m,size_push,t]
 have G:a.get? (s.heap.objs.size+2)=some {cls:=.type "tuple",data:=.seq #[.ref s.heap.objs.size,.ref (s.heap.objs.size+1)]}:=by rw[<-t,<-m];exact get?_push_size _ rfl
 have n:∀c o,t2.get? c=some o->a.get? c=some o:=fun c o e=>by rw[<-m];exact dG e
 generalize p:a.push {cls:=.type "tuple",data:=.seq #[.none,.none]}=b;have H:b.objs.size=s.heap.objs.size+4:=by rw[<-p,size_push,v]
 have I:b.get? (s.heap.objs.size+3)=some {cls:=.type "tuple",data:=.seq #[.none,.none]}:=by rw[<-v,<-p];exact get?_push_size _ rfl
 have g:∀c o,a.get? c=some o->b.get? c=some o:=fun c o e=>by rw[<-p];exact dG e
 generalize x:b.push {cls:=.type "zip",data:=.fields #[.none,.bool false,.bool false,.ref (s.heap.objs.size+2),.ref (s.heap.objs.size+3)]}=q;have y:q.get? (s.heap.objs.size+4)=some {cls:=.type "zip",data:=.fields #[.none,.bool false,.bool false,.ref (s.heap.objs.size+2),.ref (s.heap.objs.size+3)]}:=by rw[<-H,<-x];exact get?_push_size _ rfl
 have f:∀c o,b.get? c=some o->q.get? c=some o:=fun c o e=>by rw[<-x];exact dG e
 exact⟨⟨_,y,rfl⟩,h q y (f _ _ (g _ _ G)) (f _ _ I) ⟨_,f _ _ (g _ _ (n _ _ (u _ _ z))),rfl,rfl⟩ ⟨_,f _ _ (g _ _ (n _ _ C)),rfl,rfl⟩ fun c o e=>f _ _ (g _ _ (n _ _ (u _ _ (B _ _ e))))⟩
end
end PySem
end
section
namespace L2
open PySem PySem.Spec PyProof.Rows
variable{t:Bool}{a:Addr}
def Sq(t:Bool)(K:PySem.W.Frag)(H:Hp)(a:Addr)(xs:List V):Prop:=if t then iQ K H a xs else eV K H a xs
def Wq(t:Bool)(h:Heap)(a:Addr)(xs:Array Value):Prop:=if t then h.IsTuple a xs else h.IsList a xs
def FT(t:Bool)(h:Heap)(i a:Addr)(k:Nat):Prop:=if t then h.IsTupleIter i a k else h.IsListIter i a k
section
variable{X:Cx}{pins:List (Addr×Obj)}{σ:L2.St}{H:Hp}{s:Shared}
theorem Inv.sq{xs:List V}(I:Inv X pins σ H s)(h:Sq t X.K H a xs):∃b:List Value,Vals xs b/\Wq t s.heap a b.toArray:=by cases t with|true=>obtain⟨b,c,e,_⟩:=I.tuple h;exact⟨b,c,e⟩|false=>obtain⟨b,c,e,_⟩:=I.list h;exact⟨b,c,e.isList⟩
theorem Inv.Jo{xs ys:List V}(I:Inv X pins σ H s)(h:Sq t X.K H a xs)(h':Sq t X.K H a ys):xs=ys:=by cases t with|true=>exact I.kj h h'|false=>exact I.mW h h'
theorem Wq.lt{h:Heap}{xs:Array Value}(q:Wq t h a xs):a<h.objs.size:=by cases t with|true=>obtain⟨o,e,_⟩:=id q;exact lt_size e|false=>obtain⟨o,e,_⟩:=id q;exact lt_size e
theorem FT.obj{h:Heap}{i:Addr}{k:Nat}(q:FT t h i a k):∃o,h.get? i=some o/\∀v,o.data≠.cell v:=by cases t with|true=>obtain⟨o,b,e,c⟩:=id q;exact⟨o,b,fun v z=>by rw[c]at z;cases z⟩|false=>obtain⟨o,b,e,c⟩:=id q;exact⟨o,b,fun v z=>by rw[c]at z;cases z⟩
theorem FT.keep{h h':Heap}{i:Addr}{k:Nat}(q:FT t h i a k)(e:∀o,h.get? i=some o->h'.get? i=some o):FT t h' i a k:=by cases t with|true=>obtain⟨o,b,r⟩:=id q;exact⟨o,e o b,r⟩|false=>obtain⟨o,b,r⟩:=id q;exact⟨o,e o b,r⟩
theorem Ln(t:Bool){prog:Program}{w:World}{A:Around}(c:A.handled=none)(it l:Addr)(b:l≠it)(items:Array Value):Nx prog w A it l (fun k h=>FT t h it l k/\Wq t h l items) (fun k=>items[k]?):=by cases t with|true=>exact Nx.tuple c it l b items|false=>exact Nx.list c it l b items
theorem Inv.JG{ch:List Addr}{h':Heap}(I:Inv X pins σ H s)(k:∀b u,b∉ch->s.heap.get? b=some u->h'.get? b=some u)(h:∀b∈ch,nZ X pins H b):Inv X pins σ H {s with heap:=h'}:=by
 have i:∀b u,H b=some u->b∉ch:=fun b u e f=>by rw[(h b f).1]at e;cases e
 refine I.call (g':=s.gens) (d':=s.drawn) (t':=s.toks) (ch:=ch) ⟨fun b u e n _ g=>k b u g e,fun b u e n _ g=>⟨u.slots,k b u g e⟩,fun b u e n g=>n,fun b u e g=>⟨u,k b u g e⟩,fun b xs e=>e,fun b j u e=>e,fun b ps e=>⟨#[],by rw[e];simp⟩⟩ ?_ I.bare fun b f=>⟨(h b f).2.2.2.1,(h b f).2.1,(h b f).2.2.2.2.1,(h b f).2.2.2.2.2⟩;intro b u e;refine(I.hok b u e).stay (fun c v hc q=>k c v ?_ q) (fun c q=>q) fun c xs q=>q;rcases hc with rfl|hc;.exact i _ _ e
 .exact i _ _ hc
end
noncomputable def YH(t1 t2:Bool)(K:PySem.W.Frag)(a b:Addr):It:=⟨fun i H=>∃ xs ys x y,Sq t1 K H a xs/\Sq t2 K H b ys/\xs[i]?=some x/\ys[i]?=some y,fun i H x c=>∃T v w,H T=none/\x=.ref T/\c=upd H T (.tup [v,w])/\(∀xs,Sq t1 K H a xs->xs[i]?=some v)/\∀ys,Sq t2 K H b ys->ys[i]?=some w,fun i H=>∃xs ys,Sq t1 K H a xs/\Sq t2 K H b ys/\(xs.length<=i\/ys.length<=i)⟩
theorem Gp{P:Program}{w:World}{K:PySem.W.Frag}{L:List Expr}{x1}{tp:Pos}(t1 t2:Bool){z TI TO f g J l2:Addr}(D:ZipApart z TI TO f g J l2):Turn P w K (.Tuple L x1 tp) (YH t1 t2 K J l2) [z,TI,TO,f,g] z (fun i h=>IsZip h z TI TO .none/\IsPair h TI (.ref f) (.ref g)/\(∃a b,IsPair h TO a b)/\FT t1 h f J i/\FT t2 h g l2 i)where
 mem:=by simp
 obj:=fun i h st b c=>by
  obtain⟨h1,m,⟨u,v,r⟩,B,C⟩:=st;simp only[mem_cons,not_mem_nil,or_false]at c;rcases c with rfl|rfl|rfl|rfl|rfl;.exact⟨_,h1,fun v z=>by cases z⟩
  .exact⟨_,m,fun v z=>by cases z⟩
  .exact⟨_,r,fun v z=>by cases z⟩
  .exact B.obj
  .exact C.obj
 keep:=fun i h h' st k=>by obtain⟨h1,m,⟨u,v,r⟩,B,C⟩:=st;exact⟨k z (by simp) _ h1,k TI (by simp) _ m,⟨u,v,k TO (by simp) _ r⟩,B.keep (k f (by simp)),C.keep (k g (by simp))⟩
 item:=fun X hP hw hK hc i M s σ H E I Y st go=>by
  subst hP hw hK;obtain⟨h1,m,⟨u,v,r⟩,B,C⟩:=st;obtain⟨xs,ys,x,y,n,p,hx,hy⟩:=go;obtain⟨Og,G,Xf⟩:=I.sq n;obtain⟨j,Vi,Qo⟩:=I.sq p;obtain⟨Z,ac,ae⟩:=G.get hx;obtain⟨uy,af,ag⟩:=Vi.get hy;have N:X.A.in1.handled=none:=I.ok.hd hc;refine nM D (Ln t1 N f J D.l1i1 Og.toArray) (Ln t2 N g l2 D.l2i2 j.toArray) h1 m r (k:=i) ⟨B,Xf⟩ ⟨C,Qo⟩ (x:=Z) (y:=uy) (by simpa using ac) (by simpa using af) fun h' z1 p1 s1 s2 pT hsz kp=>?_;refine⟨_,rfl,wpAny_letOwnedTupleGo_zip z1 fun l z2 O=>?_⟩;have U:∀b∈[z,TI,TO,f,g],b≠s.heap.objs.size:=fun b c=>by
   simp only[mem_cons,not_mem_nil,or_false]at c;rcases c with rfl|rfl|rfl|rfl|rfl;.exact ne_of_lt (lt_size h1)
   .exact ne_of_lt (lt_size m)
   .exact ne_of_lt (lt_size r)
   .exact ne_of_lt (lt_size B.obj.choose_spec.1)
   .exact ne_of_lt (lt_size C.obj.choose_spec.1)
  have Xe:∀b o,b∉[z,TO,f,g]->s.heap.get? b=some o->l.get? b=some o:=fun b o c q=>by simp only[mem_cons,not_mem_nil,or_false,not_or]at c;exact O.extBut b o c.1 (kp b o c.1 c.2.1 c.2.2.1 c.2.2.2 q)
  have ah:IsPair l s.heap.objs.size Z uy:=O.extBut _ _ (U z (by simp)).symm pT;have p2:IsPair l TO Z uy:=O.extBut _ _ D.TOz p1;have j1:FT t1 l f J (i+1):=s1.1.keep fun o e=>O.extBut _ _ D.i1z e;have j2:FT t2 l g l2 (i+1):=s2.1.keep fun o e=>O.extBut _ _ D.i2z e;refine⟨.ref s.heap.objs.size,upd H s.heap.objs.size (.tup [x,y]),?_,rfl,⟨_,x,y,I.fresh,rfl,rfl,fun zs hz=>?_,fun zs hz=>?_⟩,⟨z2,Xe TI _ ?_ m,⟨_,_,p2⟩,j1,j2⟩,fun b c=>?_⟩
  . refine I.zE (ch:=[z,TO,f,g]) (t':=s.toks) Xe (fun b c=>?_) (fun b c=>Y b ?_) ⟨(by show 2<=sizeLine;decide),[Z,uy],.cons ae (.cons ag .nil),⟨_,ah,rfl,_,rfl⟩⟩
    . simp only[mem_cons,not_mem_nil,or_false]at c;rcases c with rfl|rfl|rfl|rfl;.exact⟨_,z2⟩
      .exact⟨_,p2⟩
      .exact⟨_,j1.obj.choose_spec.1⟩
      .exact⟨_,j2.obj.choose_spec.1⟩
    .simp only[mem_cons,not_mem_nil,or_false]at c ⊢;rcases c with h|h|h|h<;>simp[h]
  .rw[I.Jo hz n];exact hx
  .rw[I.Jo hz p];exact hy
  .simp[D.TIz,D.TITO,D.TIi1,D.TIi2]
  .rw[aD (U b c)];exact(Y b c).1
 done:=fun X hP hw hK hc i M s σ H E I Y st stop=>by
  subst hP hw hK;obtain⟨h1,m,⟨u,v,r⟩,B,C⟩:=st;obtain⟨xs,ys,n,p,hx⟩:=stop;obtain⟨Og,G,Xf⟩:=I.sq n;obtain⟨j,Vi,Qo⟩:=I.sq p;have N:X.A.in1.handled=none:=I.ok.hd hc;refine o8 D (Ln t1 N f J D.l1i1 Og.toArray) (Ln t2 N g l2 D.l2i2 j.toArray) h1 m r (k:=i) ⟨B,Xf⟩ ⟨C,Qo⟩ ?_ fun h' kp=>⟨rfl,?_⟩
  . rcases hx with hx|hx;.left;rw[G.length]at hx;simpa using hx
    .right;rw[Vi.length]at hx;simpa using hx
  .exact I.JG (ch:=[z,TO,f,g]) (fun b u c q=>by simp only[mem_cons,not_mem_nil,or_false,not_or]at c;exact kp b u c.1 c.2.1 c.2.2.1 c.2.2.2 q) fun b c=>Y b (by simp only[mem_cons,not_mem_nil,or_false]at c ⊢;rcases c with h|h|h|h<;>simp[h])
 self:=fun A i s Q E st q=>wpAny_pyIter_zip st.1 q
section
variable{X:Cx}{elts:List Expr}{x1:Nat}{tp:Pos}
theorem DQ{prog:Program}{w:World}{A:Around}{E:Value->Shared->Prop}{s:Shared}(t1 t2:Bool){f l2:Addr}{xs ys:Array Value}{Q:Value->Shared->Prop}(b:Wq t1 s.heap f xs)(e:Wq t2 s.heap l2 ys)(h:∀ h',IsZip h' (s.heap.objs.size+4) (s.heap.objs.size+2) (s.heap.objs.size+3) .none->IsPair h' (s.heap.objs.size+2) (.ref s.heap.objs.size) (.ref (s.heap.objs.size+1))->IsPair h' (s.heap.objs.size+3) .none .none->FT t1 h' s.heap.objs.size f 0->FT t2 h' (s.heap.objs.size+1) l2 0->(∀c o,s.heap.get? c=some o->h'.get? c=some o)->Q (.ref (s.heap.objs.size+4)) {s with heap:=h'}):wpAny (model prog w) A (call (.type "zip") [.ref f,.ref l2]) Q E s:=by
 cases t1<;>cases t2;.exact yI b e h
 .exact yN b e h
 .exact zR b e h
 .exact zN b e h
theorem Sv{n l m:Nat}(h1:l<n)(b:m<n):ZipApart (n+4) (n+2) (n+3) n (n+1) l m:=by constructor<;>exact fun h=>absurd (show(_:Nat)=_ from h) (by omega)
def acJ(K:PySem.W.Frag)(R:It->Hp->Prop)(vs:List V)(c:Hp):Prop:=∃t1 t2 a b,vs=[.ref a,.ref b]/\(∃xs,Sq t1 K c a xs)/\(∃ys,Sq t2 K c b ys)/\R (YH t1 t2 K a b) c
def adW(K:PySem.W.Frag)(b:TA):TI:=fun σ H R=>b σ H (acJ K R)
theorem boot_zip:bootBuiltins "zip"=some (.type "zip"):=by decide+kernel
theorem HD{a b:Expr}{k:TA}{p pos:Pos}(w:Gl X "zip")(x:X.mg "zip"=none)(y:PA X [a,b] k)(hs:starEach [a,b] X.env=[(false,eval a X.env),(false,eval b X.env)]:=by rfl)(c:starEach [b] X.env=[(false,eval b X.env)]:=by rfl):PI X (.Tuple elts x1 tp) (.Call (.Name "zip" p) [a,b] [] pos) (adW X.K k):=by
 intro e s σ H R I h;refine Call_ (gn I w x boot_zip (PyProof.Rows.callWith_type1 (bR (y pos e s σ H _ I h) ?_) (by rw[hs,c]) (by rw[c];rfl)));rintro O s1⟨vs,z,f,r1,A⟩;obtain⟨t1,t2,B,l2,rfl,⟨xs,i⟩,⟨ys,j⟩,q⟩:=A;obtain⟨u,v,rfl,C,E⟩:=r1.two;cases C;cases E;obtain⟨Q,G,l⟩:=f.sq i;obtain⟨m,U,n⟩:=f.sq j;have b1:=l.lt;have b2:=n.lt;refine DQ t1 t2 l n fun h' o J L M N kp=>?_;have D:ZipApart (s1.heap.objs.size+4) (s1.heap.objs.size+2) (s1.heap.objs.size+3) s1.heap.objs.size (s1.heap.objs.size+1) B l2:=Sv b1 b2;refine wpAny_pyIter_zip o ⟨_,_,_,_,z,rfl,f.kept (t':=s1.toks) kp,Gp t1 t2 D,⟨o,J,⟨_,_,L⟩,M,N⟩,fun b r=>?_,q⟩;have g:s1.heap.objs.size<=b:=by simp only[mem_cons,not_mem_nil,or_false]at r;rcases r with rfl|rfl|rfl|rfl|rfl<;>first|exact Nat.le_add_right _ _|exact dz
 exact f.zq g (f.hok.fresh g)
end
end L2
namespace HH
open PySem L2 PySem.Spec PyProof.Rows
variable{x:Str}
section
variable{K:PySem.W.Frag}{F F1 H H1:Hp}{ρ ρ1:List Sl}{σ:L2.St}{ds es:List D}{a b:Addr}
theorem aF.sq{t:Bool}{xs:List V}(e:aF F H)(h:Sq t K F a xs):Sq t K H a xs:=by cases t with|true=>exact aF.gB e h|false=>exact e.seq h
theorem pX{t1 t2:Bool}{xs ys:List V}{j c:Hp}(e:Sq t1 K c a xs)(f:Sq t2 K c b ys)(r1:aG K j xs ds)(n:aG K j ys es)(s:aF j c)(k:Nat):(∀d,((ds.zip es).map fun p=>D.tup [p.1,p.2])[k]?=some d->(YH t1 t2 K a b).go k c/\∀x l,(YH t1 t2 K a b).JP k c x l->∃g,Ext j c g l/\Rep K g x d)/\(((ds.zip es).map fun p=>D.tup [p.1,p.2]).length<=k->(YH t1 t2 K a b).stop k c):=by refine⟨fun d hd=>?_,fun h=>⟨xs,ys,e,f,by rw[r1.length,n.length];rw[length_map,List.length_zip]at h;omega⟩⟩;rw[getElem?_map]at hd;obtain⟨⟨d0,d1⟩,o,q⟩:=map_some hd;subst q;obtain⟨f1,f2⟩:=List.getElem?_zip_eq_some.mp o;obtain⟨w,h1,r⟩:=r1.get f1;obtain⟨t,i,m⟩:=n.get f2;refine⟨⟨xs,ys,w,t,e,f,h1,i⟩,?_⟩;rintro x l⟨T,v,C,u,z,A,y,B⟩;subst z;subst A;have:=y xs e;rw[h1]at this;cases this;have:=B ys f;rw[i]at this;cases this;exact rG s u r m
theorem vp{v:V}{d:D}{ds:List D}(h:Rep K F v d)(e:items d=some ds):∃t a xs,v=.ref a/\Sq t K F a xs/\aG K F xs ds:=by cases d with|tup es=>cases e;rw[Rep]at h;obtain⟨a,xs,rfl,h1,c⟩:=h;exact⟨true,a,xs,rfl,h1,c⟩|lst es=>cases e;rw[Rep]at h;obtain⟨a,xs,rfl,h1,c⟩:=h;exact⟨false,a,xs,rfl,h1,c⟩|_=>cases e
end
section
variable{X:Cx}{c:Call}{e a b:Expr}{pa pb:P}{pos:Pos}{elts:List Expr}{x1:Nat}{tp:Pos}
theorem Uu{w:Pos}(y:x="zip")(z:Gl X x)(A:X.mg x=none)(B:SX X c a pa)(C:SX X c b pb)(hs:starEach [a,b] X.env=[(false,eval a X.env),(false,eval b X.env)]:=by rfl)(f:starEach [b] X.env=[(false,eval b X.env)]:=by rfl):SI X c (.Tuple elts x1 tp) (.Call (.Name x w) [a,b] [] pos) (.zip pa pb):=by subst y;refine lA (HD z A (pQ B (pQ C aU f) (by rw[hs,f])).1 hs f) ?_;rintro σ H R⟨F,ρ,ds,E,g,e,k⟩;obtain⟨r,G,p,l⟩:=aj e;have o:=aB l;clear l;obtain⟨l,I⟩:=o;subst I;rw[HH.E23]at p;obtain⟨x0,j,J,L⟩:=aj p;obtain⟨M,N,O,m⟩:=aj L;have o:=aB m;clear m;obtain⟨m,Q⟩:=o;subst Q;obtain⟨us,f1,U⟩:=bV m;obtain⟨ws,f2,f3⟩:=map_some U;subst f3;cases l;refine⟨F,ρ,[x0.d,M.d],_,g,by rw[evs,J];show(evs c [pb] j).bind _=_;rw[evs,O];rfl,fun vs W Y s h=>?_⟩;obtain⟨v,r',rfl,Z,h⟩:=h.cA;obtain⟨u,ac,rfl,ru,h⟩:=h.cA;rw[h.fW];obtain⟨t1,a1,xs,rfl,q,r1⟩:=vp Z f1;obtain⟨t2,a2,ys,rfl,t,r2⟩:=vp ru f2;exact⟨t1,t2,a1,a2,rfl,⟨xs,aF.sq s.gs.sub q⟩,⟨ys,aF.sq s.gs.sub t⟩,k _ _ _ ⟨s.gs,fun n k W ae af Y i=>pX (aF.sq i.gs.sub (aF.sq i.bN q)) (aF.sq i.gs.sub (aF.sq i.bN t)) (r1.mono i.bN) (r2.mono i.bN) i.gs.sub k,fun F3 j ag H3 s3=>⟨s.trans s3,fun v r h=>h.later s⟩⟩⟩
end
structure bw(K:PySem.W.Frag)(x:Str)(st:Stmt):Prop where ex:∃f fd,PySem.W.nsIn K mainGlobals x=some (some (.ref f))/\gh K x x st f fd
section
variable{Pg:Program}{w:World}{K:PySem.W.Frag}{mg:Str->Option Value}{base h:Heap}
theorem QK{st:Stmt}{f:Addr}{oc:Value}{g i:Option Addr}{b:Array (Option Value)}{kV e j cdv ct:Value}(a:PySem.W.nsIn K mainGlobals x=some (some (.ref f)))(l:K.lookup f=some ⟨oc,g,.func (PySem.W.fnOf x x (iW st) (fY st) (aA st) .none kV e j i cdv ct),b⟩)(c:PySem.W.codeIn K cdv x=true)(k:keepIn K (.ref f)=true):bw K x st:=⟨_,_,a,Q5 l c k⟩
theorem bF{Γ:Tab}{wl i np:Nat}{st:Stmt}{ps:List Str}(X:K.In h)(G:h.Ns mainGlobals mg)(D:bw K x st)(j:ps.length=np)(k:∀(kV g l:Value)(m:Option Addr)(cdv ct:Value)(c:List Value),c.length=ps.length->bindArgs (PySem.W.fnOf x x (iW st) (fY st) (aA st) .none kV g l m cdv ct) ⟨c,[]⟩=pure (ps.zip c)):aR Pg w K mg base 0 (run Γ wl 0) i x np:=by obtain⟨f,fd,a,F⟩:=D.ex;exact⟨f,fd,ps,⟨fun vs H Q E s=>s.1,fun A outer s H args c vs Q E hr e b v sp=>by obtain⟨_,F,as,r,n,_,z,_⟩:=sp;cases z⟩,mg_of X G a,F.kp,F.binds k,j⟩
theorem bG{Γ:Tab}{wl n i np:Nat}{st:Stmt}{ps:List Str}{d:Fd}(X:K.In h)(G:h.Ns mainGlobals mg)(D:bw K x st)(j:ps.length=np)(b:Γ i=some d)(k:∀(kV c l:Value)(m:Option Addr)(cdv ct:Value)(g:List Value),g.length=ps.length->bindArgs (PySem.W.fnOf x x (iW st) (fY st) (aA st) .none kV c l m cdv ct) ⟨g,[]⟩=pure (ps.zip g))(ok:∀f fd,gh K x x st f fd->nH Pg w K mg base Hu (n+1) f fd ps (Kr K np (fun args=>enter (run Γ wl n) wl d args))):aR Pg w K mg base (n+1) (run Γ wl (n+1)) i x np:=by
 obtain⟨f,fd,a,F⟩:=D.ex;refine⟨f,fd,ps,?_,mg_of X G a,F.kp,F.binds k,j⟩;have e:run Γ wl (n+1) i=fun args=>enter (run Γ wl n) wl d args:=by funext args;show(match Γ i with|some d=>enter (run Γ wl n) wl d args|none=>.stuck)=_;rw[b]
 rw[e,j];exact ok f fd F
theorem uo{F:Hp}:∀ns:List Int,aG K F (ns.map V.int) (ns.map D.int)|[]=>.nil|n::ns=>.cons (bL n) (uo ns)
theorem Ds{H:Hp}{a:Addr}{ns:List Int}{g:List Sl->Res R}{as:List Sl}(l:eV K H a (ns.map V.int))(hr:g [.val false (.lst (ns.map D.int))]=.ok (.val (.bl true)) as):Kr K 1 g [.ref a] H (fun v _=>v=.bl true) fun _ _ _=>False:=by
 refine⟨rfl,H,_,_,as,⟨.refl _,rfl,fun i b d e=>?_,fun i s m e k=>?_,fun i j c h=>?_⟩,hr,fun v n o p s f=>?_⟩;.match i,e with|0,e=>cases e;refine⟨.ref a,rfl,?_⟩;rw[Rep];exact⟨a,_,rfl,l,uo ns⟩|i+1,e=>simp at e
 .match i,e with|0,e=>cases e;cases k|i+1,e=>simp at e
 .obtain⟨⟨s,m,e,k⟩,_⟩:=h;match i,e with|0,e=>cases e;cases k|i+1,e=>simp at e
 .have f:Rep K n v (.bl true):=f;rw[Rep]at f;exact f
end
end HH
end
section
namespace HH
open PySem
variable{n:Nat}{c:Call}{ρ:List Sl}{is:List Nat}{ds:List D}
def Res.sat{b:Type}(Q:b->List Sl->Prop)(x:Res b):Prop:=match x with|.ok a ρ=>Q a ρ|.exc _ _=>False|.stuck=>False
section
variable{α β:Type}{Q Q':α->List Sl->Prop}
@[simp]theorem SN{a:α}{ρ:List Sl}:(Res.ok a ρ).sat Q=Q a ρ:=rfl
@[simp]theorem abM{k:Nat}{ρ:List Sl}:(Res.exc k ρ:Res α).sat Q=False:=rfl
@[simp]theorem Wl:(Res.stuck:Res α).sat Q=False:=rfl
theorem cu{x:Res β}{f:β->List Sl->Res α}:(x.bind f).sat Q=x.sat fun a ρ=>(f a ρ).sat Q:=by cases x<;>rfl
@[simp]theorem ab0{p:Prop}[Decidable p]{x y:Res α}:(if p then x else y).sat Q=((p->x.sat Q)/\(¬ p->y.sat Q)):=by by_cases h:p<;>simp[h]
@[simp]theorem Ka{a:α}{ρ:List Sl}:(lift (some a) ρ).sat Q=Q a ρ:=rfl
@[simp]theorem Kf{ρ:List Sl}:(lift (none:Option α) ρ).sat Q=False:=rfl
@[simp]theorem Ld{p:Prop}[Decidable p]{a:α}{ρ:List Sl}:(lift (if p then some a else none) ρ).sat Q=(p/\Q a ρ):=by by_cases h:p<;>simp[h]
theorem Res.sat.imp{x:Res α}(h:x.sat Q)(k:∀a ρ,Q a ρ->Q' a ρ):x.sat Q':=by cases x with|ok a ρ=>exact k a ρ h|exc _ _=>exact h|stuck=>exact h
theorem sat_iff{x:Res α}:x.sat Q↔∃a ρ,x=.ok a ρ/\Q a ρ:=by cases x with|ok a ρ=>exact⟨fun h=>⟨a,ρ,rfl,h⟩,fun⟨_,_,e,h⟩=>by cases e;exact h⟩|exc _ _=>exact⟨fun h=>h.elim,fun⟨_,_,e,_⟩=>by cases e⟩|stuck=>exact⟨fun h=>h.elim,fun⟨_,_,e,_⟩=>by cases e⟩
end
noncomputable def fr:Sl->Bool|.aQ=>true|.val b _=>!b|.own b _=>!b|.lent _=>false|.gQ _=>false|.cF _=>false|.hold _=>false
@[simp]theorem aet:fr .aQ=true:=rfl
@[simp]theorem acL{b:Bool}{d:D}:fr (.val b d)=!b:=rfl
@[simp]theorem ae1{b:Bool}{d:List D}:fr (.own b d)=!b:=rfl
@[simp]theorem abD{d:List D}:fr (.lent d)=false:=rfl
theorem TQ(ρ:List Sl)(i:Nat)(s:Sl):put ρ i s=match ρ[i]?with|some t=>if fr t=true then some (ρ.set i s)else none|none=>none:=by unfold put;cases h:ρ[i]?with|none=>rfl|some t=>cases t with|aQ=>rfl|val b d=>cases b<;>rfl|own b d=>cases b<;>rfl|lent d=>rfl|gQ m=>rfl|cF m=>rfl|hold m=>rfl
theorem Gq{Γ:Tab}{w i:Nat}{d:Fd}{args:List Sl}(h:Γ i=some d):run Γ w (n+1) i args=enter (run Γ w n) w d args:=by rw[run,h]
noncomputable def fin(np:Nat):Fl->List Sl->Option (R×List Sl)|.next,ρ=>some (.val .non,ρ.take np)|.ret r,ρ=>some (r,ρ.take np)|_,_=>none
def eQ(np:Nat)(Q:R->List Sl->Prop)(fl:Fl)(ρ:List Sl):Prop:=match fl with|.next=>Q (.val .non) (ρ.take np)|.ret r=>Q r (ρ.take np)|_=>False
def sQ(c:Call)(n:Nat)(r:List S)(Q:Fl->List Sl->Prop)(fl:Fl)(ρ:List Sl):Prop:=match fl with|.next=>(iz c n r ρ).sat Q|fl=>Q fl ρ
def fQ(J:List Sl->Prop)(Q:Fl->List Sl->Prop)(fl:Fl)(ρ:List Sl):Prop:=match fl with|.next=>J ρ|.cont=>J ρ|.brk=>Q .next ρ|.ret v=>Q (.ret v) ρ
section
variable{np:Nat}{Q:R->List Sl->Prop}{ρ:List Sl}{v:R}{c:Call}{n:Nat}{r:List S}{Q':Fl->List Sl->Prop}{J:List Sl->Prop}
@[simp]theorem abX:eQ np Q .next ρ=Q (.val .non) (ρ.take np):=rfl
@[simp]theorem ad6:eQ np Q (.ret v) ρ=Q v (ρ.take np):=rfl
@[simp]theorem aez:eQ np Q .brk ρ=False:=rfl
@[simp]theorem abb:eQ np Q .cont ρ=False:=rfl
@[simp]theorem aa2:sQ c n r Q' .next ρ=(iz c n r ρ).sat Q':=rfl
@[simp]theorem afk:sQ c n r Q' (.ret v) ρ=Q' (.ret v) ρ:=rfl
@[simp]theorem ad8:sQ c n r Q' .brk ρ=Q' .brk ρ:=rfl
@[simp]theorem aaW:sQ c n r Q' .cont ρ=Q' .cont ρ:=rfl
@[simp]theorem abG:fQ J Q' .next ρ=J ρ:=rfl
@[simp]theorem abV:fQ J Q' .cont ρ=J ρ:=rfl
@[simp]theorem acY:fQ J Q' .brk ρ=Q' .next ρ:=rfl
@[simp]theorem ac6:fQ J Q' (.ret v) ρ=Q' (.ret v) ρ:=rfl
end
theorem Er{d:Fd}{args:List Sl}{Q:R->List Sl->Prop}(a:args.length=d.np)(hd:d.np<=d.nn)(h:(iz c n d.body (args++replicate (d.nn-d.np) .aQ)).sat (eQ d.np Q)):(enter c n d args).sat Q:=by unfold enter;rw[if_pos ⟨a,hd⟩];revert h;cases iz c n d.body (args++replicate (d.nn-d.np) .aQ)with|stuck=>exact fun h=>False.elim h|exc _ _=>exact fun h=>False.elim h|ok fl ρ=>cases fl<;>first|exact id|exact fun h=>False.elim h
theorem aJ{Γ:Tab}{w i:Nat}{d:Fd}{args:List Sl}{Q:R->List Sl->Prop}(a:Γ i=some d)(b:args.length=d.np)(hd:d.np<=d.nn)(h:(iz (run Γ w n) w d.body (args++replicate (d.nn-d.np) .aQ)).sat (eQ d.np Q)):(run Γ w (n+1) i args).sat Q:=by rw[Gq a];exact Er b hd h
theorem ak{s:S}{r:List S}{Q:Fl->List Sl->Prop}(h:(ex c n s ρ).sat (sQ c n r Q)):(iz c n (s::r) ρ).sat Q:=by rw[TX,cu];refine h.imp fun fl a q=>?_;cases fl<;>exact q
theorem Eu{s:S}{r:List S}{Q:Fl->List Sl->Prop}(h:(ex c n s ρ).sat (sQ c n r Q)):sQ c n (s::r) Q .next ρ:=ak h
@[simp]theorem abw{c:Call}{n:Nat}{ρ:List Sl}{Q:Fl->List Sl->Prop}:(iz c n [] ρ).sat Q=Q .next ρ:=by rw[xs0];rfl
theorem bK{s:S}{r:List S}{Q:Fl->List Sl->Prop}(M:List Sl->Prop)(h:(ex c n s ρ).sat fun fl a=>fl=.next/\M a)(k:∀a,M a->(iz c n r a).sat Q):(iz c n (s::r) ρ).sat Q:=ak (h.imp fun fl a⟨e,q⟩=>by subst e;exact k a q)
theorem cU{is:List Nat}{one:Bool}{body:List Sl->Res Fl}(J:List D->List Sl->Prop){Q:Fl->List Sl->Prop}(b:∀d r ρ,J (d::r) ρ->∃a,cT ρ is one d=some a/\(body a).sat (fQ (J r) Q))(f:∀ρ,J [] ρ->Q .next ρ):∀{ds:List D}{ρ:List Sl},J ds ρ->(iD is one body ds ρ).sat Q|[],ρ,j=>f ρ j|d::r,ρ,j=>by obtain⟨a,e,h⟩:=b d r ρ j;rw[iD,e];show((body a).bind _).sat Q;rw[cu];refine h.imp fun fl g q=>?_;cases fl with|next=>exact cU J b f q|cont=>exact cU J b f q|brk=>exact q|ret v=>exact q
theorem j4{is:List Nat}{one:Bool}{a:List Sl->Res Bool}{p:Ev}(J:List Sl->Prop)(g:D->Option D){Q:List D->List Sl->Prop}:∀{ds f:List D}{ρ:List Sl},J ρ->(∀ d,d ∈ ds->∀ ρ,J ρ->∃ i,cT ρ is one d=some i/\(a i).sat fun b l=>if b=true then(p l).sat fun r s=>g d=some r.d/\J s else g d=none/\J l)->(∀ ρ,J ρ->Q (f++ds.filterMap g) ρ)->(turns is one a p ds f ρ).sat Q|[],f,ρ,j,h,k=>by rw[turns];simpa using k ρ j|d::r,f,ρ,j,h,k=>by obtain⟨i,e,h1⟩:=h d (by simp) ρ j;rw[turns,e];show((a i).bind _).sat Q;rw[cu];refine h1.imp fun b l q=>?_;cases b with|true=>rw[if_pos rfl]at q;rw[if_pos rfl,cu];refine q.imp fun x s⟨u,j3⟩=>?_;refine j4 J g j3 (fun d' m=>h d' (by simp[m])) fun o t=>?_;have:=k o t;rw[filterMap_cons,u]at this;rw[append_assoc];exact this|false=>rw[if_neg (by simp)]at q;rw[if_neg (by simp)];refine j4 J g q.2 (fun d' m=>h d' (by simp[m])) fun o t=>?_;have:=k o t;rw[filterMap_cons,q.1]at this;exact this
theorem zK{one:Bool}{b:Ev}(J:List Sl->Prop)(g:D->D){Q:List D->List Sl->Prop}(j:J ρ)(h:∀d,d∈ds->∀ρ,J ρ->∃a,cT ρ is one d=some a/\(b a).sat fun r f=>g d=r.d/\J f)(k:∀ρ,J ρ->Q (ds.map g) ρ):(turns is one (qd c none) b ds [] ρ).sat Q:=j4 J (fun d=>some (g d)) j (fun d hd ρ j=>by obtain⟨a,e,h1⟩:=h d hd ρ j;refine⟨a,e,?_⟩;rw[qd,SN,if_pos rfl];exact h1.imp fun r f q=>⟨by rw[q.1],q.2⟩) fun ρ j=>by simpa using k ρ j
section
variable{ρ l:List Sl}{a:Sl}{i j:Int}{k m:Nat}{b b':Bool}{s:Str}{d:D}{ds es:List D}{e f:Ev}{x:Option Sl}{c:Call}
@[simp]theorem UW:cB .int .non=false:=rfl
@[simp]theorem WX:cB .int (.bl b)=true:=rfl
@[simp]theorem Rj:cB .int (.int i)=true:=rfl
@[simp]theorem QM:cB .int (.str s)=false:=rfl
@[simp]theorem TF:cB .int (.tup ds)=false:=rfl
@[simp]theorem Rc:cB .int (.lst ds)=false:=rfl
@[simp]theorem PJ:cB .bool .non=false:=rfl
@[simp]theorem Ur:cB .bool (.bl b)=true:=rfl
@[simp]theorem Ol:cB .bool (.int i)=false:=rfl
@[simp]theorem Py:cB .bool (.str s)=false:=rfl
@[simp]theorem OJ:cB .bool (.tup ds)=false:=rfl
@[simp]theorem O1:cB .bool (.lst ds)=false:=rfl
@[simp]theorem Tf:cB .str .non=false:=rfl
@[simp]theorem V6:cB .str (.bl b)=false:=rfl
@[simp]theorem T6:cB .str (.int i)=false:=rfl
@[simp]theorem Tg:cB .str (.str s)=true:=rfl
@[simp]theorem Sg:cB .str (.tup ds)=false:=rfl
@[simp]theorem Rh:cB .str (.lst ds)=false:=rfl
@[simp]theorem Mu:cB .tuple .non=false:=rfl
@[simp]theorem Pk:cB .tuple (.bl b)=false:=rfl
@[simp]theorem Mr:cB .tuple (.int i)=false:=rfl
@[simp]theorem MT:cB .tuple (.str s)=false:=rfl
@[simp]theorem Mj:cB .tuple (.tup ds)=true:=rfl
@[simp]theorem NK:cB .tuple (.lst ds)=false:=rfl
@[simp]theorem O5:cB .list .non=false:=rfl
@[simp]theorem RK:cB .list (.bl b)=false:=rfl
@[simp]theorem Oq:cB .list (.int i)=false:=rfl
@[simp]theorem Ph:cB .list (.str s)=false:=rfl
@[simp]theorem Ox:cB .list (.tup ds)=false:=rfl
@[simp]theorem Pn:cB .list (.lst ds)=true:=rfl
@[simp]theorem OD:cB .none .non=true:=rfl
@[simp]theorem QV:cB .none (.bl b)=false:=rfl
@[simp]theorem O4:cB .none (.int i)=false:=rfl
@[simp]theorem Qg:cB .none (.str s)=false:=rfl
@[simp]theorem Qd:cB .none (.tup ds)=false:=rfl
@[simp]theorem O6:cB .none (.lst ds)=false:=rfl
@[simp]theorem VM:jO .non=true:=rfl
@[simp]theorem ZC:jO (.bl b)=false:=rfl
@[simp]theorem WN:jO (.int i)=false:=rfl
@[simp]theorem We:jO (.str s)=false:=rfl
@[simp]theorem Wa:jO (.tup ds)=false:=rfl
@[simp]theorem Wu:jO (.lst ds)=false:=rfl
@[simp]theorem Yn:flat .non=true:=rfl
@[simp]theorem aaG:flat (.bl b)=true:=rfl
@[simp]theorem ZM:flat (.int i)=true:=rfl
@[simp]theorem Xj:flat (.str s)=true:=rfl
@[simp]theorem Zf:flat (.tup ds)=false:=rfl
@[simp]theorem Y8:flat (.lst ds)=false:=rfl
@[simp]theorem adu:(R.val d).d=d:=rfl
@[simp]theorem adh:(R.own ds).d=.lst ds:=rfl
@[simp]theorem Yt:yK (.val d)=.val false d:=rfl
@[simp]theorem YQ:yK (.own ds)=.own false ds:=rfl
@[simp]theorem VH:xW (.val d)=.dat d:=rfl
@[simp]theorem Vx:xW (.own ds)=.tmp ds:=rfl
@[simp]theorem abT:iZ (.int i)=some i:=rfl
@[simp]theorem ae9:yO (.bl b)=some b:=rfl
@[simp]theorem Vw:items (.lst ds)=some ds:=rfl
@[simp]theorem V2:items (.tup ds)=some ds:=rfl
@[simp]theorem Tv:RQ (.tup ds)=some ds:=rfl
@[simp]theorem U4:yX (.lst ds)=some ds:=rfl
@[simp]theorem aa0:rZ .add=qj:=rfl
@[simp]theorem abL:rZ .sub=xX:=rfl
@[simp]theorem aaC:rZ .mul=oU:=rfl
@[simp]theorem XR:rZ .fdiv=rH:=rfl
@[simp]theorem abC:rZ .mod=vX:=rfl
@[simp]theorem aaB:rZ .pow=wB:=rfl
@[simp]theorem Wr:qj (.int i) (.int j)=some (.val (.int (i+j))):=rfl
@[simp]theorem VB:qj (.lst ds) (.lst es)=if ds.length+es.length<=lim then some (.own (ds++es))else none:=rfl
@[simp]theorem WK:qj (.tup ds) (.tup es)=if ds.length+es.length<=lim then some (.val (.tup (ds++es)))else none:=rfl
@[simp]theorem W0:xX (.int i) (.int j)=some (.val (.int (i-j))):=rfl
@[simp]theorem Wz:oU (.int i) (.int j)=if((-18446744073709551616<i/\i<18446744073709551616)\/(-18446744073709551616<j/\j<18446744073709551616))then some (.val (.int (i*j)))else none:=rfl
@[simp]theorem Ra:rH (.int i) (.int j)=if 0<j/\j<1606938044258990275541962092341162602522202993782792835301376 then some (.val (.int (i/j)))else none:=rfl
@[simp]theorem V5:vX (.int i) (.int j)=if 0<j then some (.val (.int (i%j)))else none:=rfl
@[simp]theorem Wc:wB (.int i) (.int j)=if 0<=j/\j<=1000/\i.natAbs<18446744073709551616 then some (.val (.int (i^j.toNat)))else none:=rfl
@[simp]theorem aaE:NQ (.lst ds) (.int i)=(at' ds i).map .val:=rfl
@[simp]theorem aa8:NQ (.tup ds) (.int i)=(at' ds i).map .val:=rfl
@[simp]theorem Xn:Iw (.int i)=some (.val (.int (-i))):=rfl
@[simp]theorem Wx:cm .eq (.int i) (.int j)=some (i==j):=rfl
@[simp]theorem WL:cm .ne (.int i) (.int j)=some (!(i==j)):=rfl
@[simp]theorem Xv:cm .eq (.bl b) (.bl b')=some (b==b'):=rfl
@[simp]theorem Ze:cm .ne (.bl b) (.bl b')=some (!(b==b')):=rfl
@[simp]theorem W3:cm .lt (.int i) (.int j)=some (decide (i<j)):=rfl
@[simp]theorem W8:cm .le (.int i) (.int j)=some (decide (i<=j)):=rfl
@[simp]theorem WQ:cm .gt (.int i) (.int j)=some (decide (j<i)):=rfl
@[simp]theorem W9:cm .ge (.int i) (.int j)=some (decide (j<=i)):=rfl
@[simp]theorem acG:cm .isN d .non=some (jO d):=rfl
@[simp]theorem abI:cm .N8 d .non=some (!jO d):=rfl
@[simp]theorem Pa:blt .len [.lst ds]=some (.val (.int ds.length)):=rfl
@[simp]theorem Pq:blt .len [.tup ds]=some (.val (.int ds.length)):=rfl
@[simp]theorem W2:blt .Dj [.lst ds]=if ds.length<=16777216 then some (.own ds)else none:=rfl
@[simp]theorem Kv:blt .list [.lst ds]=some (.own ds):=rfl
@[simp]theorem M6:blt .list [.tup ds]=some (.own ds):=rfl
@[simp]theorem Kd:blt .tuple [.lst ds]=some (.val (.tup ds)):=rfl
@[simp]theorem Kh:blt .tuple [.tup ds]=some (.val (.tup ds)):=rfl
@[simp]theorem Xx:blt .min2 [.int i,.int j]=some (.val (.int (if j<i then j else i))):=rfl
@[simp]theorem ZK:blt .max2 [.int i,.int j]=some (.val (.int (if i<j then j else i))):=rfl
@[simp]theorem abh:blt .all [.lst ds]=(ds.mapM yO).map fun bs=>.val (.bl (bs.all id)):=rfl
@[simp]theorem Vv:isVar (.var k)=some k:=rfl
@[simp]theorem aa3:pk (a::l) k=match(a::l)[k]?with|some (.val _ d)=>some d|some (.own _ ds)=>some (.lst ds)|some (.lent ds)=>some (.lst ds)|_=>none:=rfl
@[simp]theorem YB:yH (a::l) k=match pk (a::l) k with|some (.lst ds)=>some ds|_=>none:=rfl
@[simp]theorem ZS:cC (some k) e ρ=lift (pk ρ k) ρ:=rfl
@[simp]theorem Yu:cC none e ρ=(e ρ).bind fun r ρ=>.ok r.d ρ:=rfl
@[simp]theorem WM{y:Option Nat}:iI (some k) e y f ρ=(lift (pk ρ k) ρ).bind fun _ ρ=>(cC y f ρ).bind fun y ρ=>(lift (pk ρ k) ρ).bind fun x ρ=>.ok (x,y) ρ:=rfl
@[simp]theorem Wg{y:Option Nat}:iI none e y f ρ=(cC none e ρ).bind fun x ρ=>(cC y f ρ).bind fun y ρ=>.ok (x,y) ρ:=rfl
@[simp]theorem VD{es:List D}:fB (.own b ds) (some (.own b' es))=.own b es:=rfl
@[simp]theorem VN:fB (.own b ds) (some (.val b' d))=.val b d:=rfl
@[simp]theorem Ha:fB a none=a:=by cases a<;>rfl
@[simp]theorem Dv:fB (.val b d) x=.val b d:=by cases x<;>rfl
@[simp]theorem Vt:fB .aQ x=.aQ:=by cases x<;>rfl
@[simp]theorem zm:fB (.lent ds) x=.lent ds:=by cases x<;>rfl
@[simp]theorem XS:cT ρ [k] true d=put ρ k (.val false d):=rfl
@[simp]theorem Wm{is:List Nat}:cT ρ is false (.tup ds)=putAll ρ is ds:=by cases is<;>rfl
@[simp]theorem RJ:srcOf none e ρ=(e ρ).bind fun r ρ=>lift (items r.d) ρ:=rfl
@[simp]theorem T9:srcOf (some k) e (a::l)=match(a::l)[k]?with|some (.val _ d)=>lift (items d) (a::l)|some (.own _ ds)=>.ok ds ((a::l).set k (.lent ds))|some (.lent ds)=>.ok ds (a::l)|_=>.stuck:=rfl
@[simp]theorem O3{g:List Sl}:aX g none ρ=ρ:=rfl
@[simp]theorem Ow:aX (a::l) (some k) ρ=match(a::l)[k]?with|some (.own b ds)=>ρ.set k (.own b ds)|_=>ρ:=rfl
@[simp]theorem Zb{s:Sl}:put (a::l) k s=match(a::l)[k]?with|some t=>if fr t=true then some ((a::l).set k s)else none|none=>none:=TQ ..
@[simp]theorem QC:putAll ρ [] []=some ρ:=rfl
@[simp]theorem O7{is:List Nat}:putAll ρ (k::is) (d::ds)=(put ρ k (.val false d)).bind fun ρ=>putAll ρ is ds:=rfl
end
@[simp]theorem at_0{a:Type}{b:a}{l:List a}:at' (b::l) 0=some b:=by unfold at' jM;rw[if_pos (by decide),if_pos (by simp only[length_cons];omega)];rfl
@[simp]theorem at_1{a:Type}{e b:a}{l:List a}:at' (e::b::l) 1=some b:=by unfold at' jM;rw[if_pos (by decide),if_pos (by simp only[length_cons];omega)];rfl
@[simp]theorem at_2{a:Type}{e f b:a}{l:List a}:at' (e::f::b::l) 2=some b:=by unfold at' jM;rw[if_pos (by decide),if_pos (by simp only[length_cons];omega)];rfl
@[simp]theorem at_3{a:Type}{e f g b:a}{l:List a}:at' (e::f::g::b::l) 3=some b:=by unfold at' jM;rw[if_pos (by decide),if_pos (by simp only[length_cons];omega)];rfl
@[simp]theorem at_4{a:Type}{e f g h b:a}{l:List a}:at' (e::f::g::h::b::l) 4=some b:=by unfold at' jM;rw[if_pos (by decide),if_pos (by simp only[length_cons];omega)];rfl
@[simp]theorem at_5{a:Type}{e f g h i b:a}{l:List a}:at' (e::f::g::h::i::b::l) 5=some b:=by unfold at' jM;rw[if_pos (by decide),if_pos (by simp only[length_cons];omega)];rfl
@[simp]theorem at_6{a:Type}{e f g h i j b:a}{l:List a}:at' (e::f::g::h::i::j::b::l) 6=some b:=by unfold at' jM;rw[if_pos (by decide),if_pos (by simp only[length_cons];omega)];rfl
@[simp]theorem at_7{a:Type}{e f g h i j k b:a}{l:List a}:at' (e::f::g::h::i::j::k::b::l) 7=some b:=by unfold at' jM;rw[if_pos (by decide),if_pos (by simp only[length_cons];omega)];rfl
theorem yJ{a:Type}{l:List a}{i:Int}(h:0<=i)(h':i<l.length):at' l i=l[i.toNat]?:=by unfold at' jM;rw[if_pos h,if_pos h'];rfl
theorem Hv{a:Type}{l:List a}{k:Nat}(h':k<l.length):at' l (k:Int)=l[k]?:=by rw[yJ (by omega) (by omega)];simp
@[simp]theorem VF{d:D}:isVar (.con d)=none:=rfl
@[simp]theorem Ub{x:Str}{d:D}:isVar (.glob x d)=none:=rfl
@[simp]theorem Wn{o:Op}{p q:P}:isVar (.bin o p q)=none:=rfl
@[simp]theorem Wk{p:P}:isVar (.neg p)=none:=rfl
@[simp]theorem W6{p:P}:isVar (.not p)=none:=rfl
@[simp]theorem Ww{p q:P}:isVar (.and p q)=none:=rfl
@[simp]theorem ZG{p q:P}:isVar (.or p q)=none:=rfl
@[simp]theorem V1{o:Cm}{p q:P}:isVar (.cmp o p q)=none:=rfl
@[simp]theorem O9{o a:Cm}{p q r:P}:isVar (.chain o a p q r)=none:=rfl
@[simp]theorem VL{p q r:P}:isVar (.Ql p q r)=none:=rfl
@[simp]theorem W4{as:List P}:isVar (.tup as)=none:=rfl
@[simp]theorem VP{as:List P}:isVar (.lst as)=none:=rfl
@[simp]theorem VJ{p q:P}:isVar (.idx p q)=none:=rfl
@[simp]theorem Qf{p q r:P}:isVar (.slice p q r)=none:=rfl
@[simp]theorem R3{f:Nat}{as:List P}:isVar (.call f as)=none:=rfl
@[simp]theorem Wb{b:YL}{as:List P}:isVar (.blt b as)=none:=rfl
@[simp]theorem Ru{a:List Ty}{p:P}:isVar (.inst a p)=none:=rfl
@[simp]theorem QR{p e:P}{n:Nat}{is:List Nat}{one:Bool}{t:Option P}:isVar (.comp p n is one t e)=none:=rfl
@[simp]theorem Wj{p q:P}:isVar (.rW p q)=none:=rfl
@[simp]theorem Vu{p:P}:isVar (.Z6 p)=none:=rfl
@[simp]theorem Wi{p q:P}:isVar (.zip p q)=none:=rfl
noncomputable def oX(c:Call)(is:List Nat)(one:Bool)(a:Option P)(b:P)(ds:List D)(ρ:List Sl):Res (List D):=turns is one (qd c a) (ev c b) ds [] ρ
@[simp]theorem aaV{c:Call}{src f:P}{n:Nat}{is:List Nat}{one:Bool}{b:Option P}{ρ:List Sl}:ev c (.comp src n is one b f) ρ=(srcOf (isVar src) (ev c src) ρ).bind fun ds a=>if ds.length<=lim then(oX c is one b f ds (a++replicate n .aQ)).bind fun xs e=>.ok (.own xs) (aX ρ (isVar src) (e.take a.length))else .stuck:=(rfl)
noncomputable def Gh(c:Call)(n:Nat)(t:P)(body:List S)(k:Nat)(ρ:List Sl):Res Fl:=sH (jc (ev c t)) (iz c n body) k ρ
@[simp]theorem ado{c:Call}{n:Nat}{t:P}{body:List S}{ρ:List Sl}:ex c n (.whl t body) ρ=Gh c n t body n ρ:=(rfl)
theorem uZ{b e h:Type}{x:Res e}{f:e->List Sl->Res b}{g:b->List Sl->Res h}:(x.bind f).bind g=x.bind fun a ρ=>(f a ρ).bind g:=by cases x<;>rfl
@[simp]theorem aer{Γ:Tab}{w n i:Nat}{args:List Sl}{b:Type}{f:R->List Sl->Res b}{Q:b->List Sl->Prop}:((run Γ w n i args).bind f).sat Q=(run Γ w n i args).sat fun a ρ=>(f a ρ).sat Q:=cu
@[simp]theorem aeL{Γ:Tab}{w n i:Nat}{args:List Sl}{b e:Type}{f:R->List Sl->Res b}{g:b->List Sl->Res e}:((run Γ w n i args).bind f).bind g=(run Γ w n i args).bind fun a ρ=>(f a ρ).bind g:=uZ
@[simp]theorem abY{c:Call}{is:List Nat}{one:Bool}{b:Option P}{e:P}{ds:List D}{ρ:List Sl}{g:Type}{f:List D->List Sl->Res g}{Q:g->List Sl->Prop}:((oX c is one b e ds ρ).bind f).sat Q=(oX c is one b e ds ρ).sat fun a ρ=>(f a ρ).sat Q:=cu
@[simp]theorem abg{c:Call}{is:List Nat}{one:Bool}{b:Option P}{e:P}{ds:List D}{ρ:List Sl}{h i:Type}{f:List D->List Sl->Res h}{g:h->List Sl->Res i}:((oX c is one b e ds ρ).bind f).bind g=(oX c is one b e ds ρ).bind fun a ρ=>(f a ρ).bind g:=uZ
@[simp]theorem aeo{is:List Nat}{one:Bool}{b:List Sl->Res Fl}{ds:List D}{ρ:List Sl}{e:Type}{f:Fl->List Sl->Res e}{Q:e->List Sl->Prop}:((iD is one b ds ρ).bind f).sat Q=(iD is one b ds ρ).sat fun a ρ=>(f a ρ).sat Q:=cu
@[simp]theorem abn{b e:Type}{p:Prop}[Decidable p]{a:e}{ρ:List Sl}{f:e->List Sl->Res b}{Q:b->List Sl->Prop}:((lift (if p then some a else none) ρ).bind f).sat Q=(p/\(f a ρ).sat Q):=by by_cases h:p<;>simp[h,lift,Res.bind]
@[simp]theorem abi{b e h:Type}{p:Prop}[Decidable p]{a:e}{ρ:List Sl}{f:e->List Sl->Res b}{g:b->List Sl->Res h}:((lift (if p then some a else none) ρ).bind f).bind g=(lift (if p then some a else none) ρ).bind fun a ρ=>(f a ρ).bind g:=uZ
@[simp]theorem bb_ite{b a:Type}{p:Prop}[Decidable p]{x y:Res a}{f:a->List Sl->Res b}:(if p then x else y).bind f=if p then x.bind f else y.bind f:=by by_cases h:p<;>simp[h]
@[simp]theorem aef{c:Call}{n k:Nat}{t:P}{b:List S}{ρ:List Sl}{e:Type}{f:Fl->List Sl->Res e}{Q:e->List Sl->Prop}:((Gh c n t b k ρ).bind f).sat Q=(Gh c n t b k ρ).sat fun a ρ=>(f a ρ).sat Q:=cu
@[simp]theorem ae3{b e:Type}{a:b}{ρ:List Sl}{f:b->List Sl->Res e}:(Res.ok a ρ).bind f=f a ρ:=rfl
@[simp]theorem VG{a b:Type}{f:a->List Sl->Res b}:(Res.stuck:Res a).bind f=.stuck:=rfl
@[simp]theorem Y5{b:Type}{a:b}{ρ:List Sl}:lift (some a) ρ=.ok a ρ:=rfl
@[simp]theorem ZX{a:Type}{ρ:List Sl}:lift (none:Option a) ρ=.stuck:=rfl
noncomputable def Eb:List Sl->Nat->Sl->List Sl|[],_,_=>[]|t::ρ,0,s=>fB t (some s)::ρ|t::ρ,k+1,s=>t::Eb ρ k s
noncomputable def bk:List Arg->List Sl->List Sl->List Sl|.fP k::as,s::ss,ρ=>bk as ss (Eb ρ k s)|.dat _::as,_::ss,ρ=>bk as ss ρ|.tmp _::as,_::ss,ρ=>bk as ss ρ|_,_,ρ=>ρ
section
variable{t s:Sl}{ρ ss:List Sl}{k:Nat}{as:List Arg}{d:D}{ds:List D}
@[simp]theorem agX:Eb (t::ρ) 0 s=fB t (some s)::ρ:=rfl
@[simp]theorem agJ:Eb (t::ρ) (k+1) s=t::Eb ρ k s:=rfl
@[simp]theorem Uk:bk (.fP k::as) (s::ss) ρ=bk as ss (Eb ρ k s):=rfl
@[simp]theorem U0:bk (.dat d::as) (s::ss) ρ=bk as ss ρ:=rfl
@[simp]theorem TV:bk (.tmp ds::as) (s::ss) ρ=bk as ss ρ:=rfl
@[simp]theorem acS:bk [] ss ρ=ρ:=rfl
end
theorem yw{s:Sl}:∀{ρ:List Sl}{k j:Nat},(Eb ρ k s)[j]?=(ρ[j]?).map fun t=>if j=k then fB t (some s)else t|[],_,_=>by simp[Eb]|t::ρ,0,0=>by simp[Eb]|t::ρ,0,j+1=>by simp[Eb]|t::ρ,k+1,0=>by simp[Eb]|t::ρ,k+1,j+1=>by have:=yw (s:=s) (ρ:=ρ) (k:=k) (j:=j);simp only[Eb,getElem?_cons_succ,this];congr 1;funext t;simp
theorem wF{as:List Arg}{ss:List Sl}:∀{ρ:List Sl}{i j:Nat},(dq as ss i ρ)[j]?=(ρ[j]?).map fun t=>fB t (bf (i+j) as ss)|[],_,_=>by simp[dq]|t::ρ,i,0=>by simp[dq]|t::ρ,i,j+1=>by have:=wF (as:=as) (ss:=ss) (ρ:=ρ) (i:=i+1) (j:=j);simp only[dq,getElem?_cons_succ,this];rw[show i+1+j=i+(j+1)by omega]
def stb(t:Sl):Prop:=∀x,fB t x=t
def SJ(ρ:List Sl):List Arg->Prop|[]=>True|.fP k::as=>(Arg.fP k∈as->∀t,ρ[k]?=some t->stb t)/\SJ ρ as|_::as=>SJ ρ as
theorem pO{ρ:List Sl}:∀{as:List Arg}{a:List Sl},SJ ρ as->(∀k,Arg.fP k∈as->∀t,a[k]?=some t->ρ[k]?=some t\/stb t)->SJ a as
 |[],_,_,_=>trivial|.fP k::as,a,h,g=>⟨fun f t ht=>by
  rcases g k (by simp) t ht with e|e;.exact h.1 f t e
  .exact e,pO h.2 fun j b=>g j (by simp[b])⟩|.dat _::as,a,h,g=>pO (as:=as) h fun j b=>g j (by simp[b])|.tmp _::as,a,h,g=>pO (as:=as) h fun j b=>g j (by simp[b])
theorem mR{k:Nat}:∀{as:List Arg}{ss:List Sl},Arg.fP k∉as->bf k as ss=none|[],_,_=>by unfold bf;rfl|.fP j::as,[],_=>rfl|.dat _::as,[],_=>rfl|.tmp _::as,[],_=>rfl|.fP j::as,s::ss,h=>by simp only[mem_cons,Arg.fP.injEq,not_or]at h;rw[bf,if_neg (fun e=>h.1 e.symm),mR h.2]|.dat _::as,s::ss,h=>by simp only[mem_cons,not_or]at h;rw[bf,mR h.2]|.tmp _::as,s::ss,h=>by simp only[mem_cons,not_or]at h;rw[bf,mR h.2]
theorem Bh:∀{as:List Arg}{ss ρ:List Sl},SJ ρ as->∀j,(bk as ss ρ)[j]?=(ρ[j]?).map fun t=>fB t (bf j as ss)
 |[],ss,ρ,_,j=>by cases ss<;>simp[bf]|.fP k::as,[],ρ,_,j=>by rw[show bk (.fP k::as) [] ρ=ρ from rfl];simp[bf]|.dat d::as,[],ρ,_,j=>by rw[show bk (.dat d::as) [] ρ=ρ from rfl];simp[bf]|.tmp d::as,[],ρ,_,j=>by rw[show bk (.tmp d::as) [] ρ=ρ from rfl];simp[bf]|.dat _::as,s::ss,ρ,h,j=>by rw[U0,bf];exact Bh (as:=as) h j|.tmp _::as,s::ss,ρ,h,j=>by rw[TV,bf];exact Bh (as:=as) h j|.fP k::as,s::ss,ρ,h,j=>by
   have b:SJ (Eb ρ k s) as:=pO h.2 fun i hi t ht=>by rw[yw]at ht;cases e:ρ[i]?with|none=>rw[e]at ht;cases ht|some t0=>
      rw[e]at ht;by_cases c:i=k;.subst c;have hs:=h.1 hi t0 e;simp[hs (some s)]at ht;exact .inl (by rw[ht])
      .simp[c]at ht;exact .inl (by rw[ht])
   rw[Uk,Bh b j,yw,bf];cases e:ρ[j]?with|none=>rfl|some t0=>
     simp only[Option.map_some];by_cases c:j=k
     . subst c;rw[if_pos rfl,if_pos rfl];by_cases a:Arg.fP j∈as;.have hs:=h.1 a t0 e;rw[hs (some s),hs]
       .rw[mR a,Ha]
     .rw[if_neg c,if_neg (fun z=>c z.symm)]
theorem gj{ρ:List Sl}{k:Nat}{b:Bool}{ds:List D}(e:ρ[k]?=some (.own b ds)):∀{as:List Arg}{u:List Nat}{r:List Sl},k∈u->bU ρ as u=some r->Arg.fP k∉as
 |[],_,_,_,_=>by simp|.dat _::as,u,r,a,h=>by simp only[bU,map_eq_some_iff]at h;obtain⟨f,h,_⟩:=h;simp[gj e a h]|.tmp _::as,u,r,a,h=>by simp only[bU,map_eq_some_iff]at h;obtain⟨f,h,_⟩:=h;simp[gj e a h]|.fP i::as,u,r,a,h=>by
   rw[bU]at h;have hi:i≠k:=by rintro rfl;rw[e]at h;simp[a]at h
   have:Arg.fP k∉as:=by
    split at h;.obtain⟨f,h,_⟩:=map_eq_some_iff.mp h;exact gj e a h
    . split at h;.cases h
      .obtain⟨f,h,_⟩:=map_eq_some_iff.mp h;exact gj e (by simp[a]) h
    . split at h;.cases h
      .obtain⟨f,h,_⟩:=map_eq_some_iff.mp h;exact gj e (by simp[a]) h
    .cases h
   simp[this];exact fun z=>hi z.symm
theorem gf{ρ:List Sl}:∀{as:List Arg}{u:List Nat}{r:List Sl},bU ρ as u=some r->SJ ρ as
 |[],_,_,_=>trivial|.dat _::as,u,r,h=>by obtain⟨a,h,_⟩:=map_eq_some_iff.mp h;exact gf (as:=as) h|.tmp _::as,u,r,h=>by obtain⟨a,h,_⟩:=map_eq_some_iff.mp h;exact gf (as:=as) h|.fP i::as,u,r,h=>by
   rw[bU]at h;split at h;.rename_i b d q;obtain⟨a,h,_⟩:=map_eq_some_iff.mp h;exact⟨fun _ t ht=>by rw[q]at ht;cases ht;exact fun x=>Dv,gf h⟩
   . rename_i b ds q;split at h;.cases h
     .obtain⟨a,h,_⟩:=map_eq_some_iff.mp h;exact⟨fun e=>absurd e (gj q (by simp) h),gf h⟩
   . rename_i ds q;split at h;.cases h
     .obtain⟨a,h,_⟩:=map_eq_some_iff.mp h;exact⟨fun _ t ht=>by rw[q]at ht;cases ht;exact fun x=>zm,gf h⟩
   .cases h
theorem Zk{as:List Arg}{ss r:List Sl}{u:List Nat}(h:bU ρ as u=some r):dq as ss 0 ρ=bk as ss ρ:=by apply List.ext_getElem?;intro j;rw[wF,Bh (gf h),Nat.zero_add]
@[simp]theorem WD{c:Call}{k:Nat}{as:List Arg}{ρ:List Sl}:qM c k as ρ=match bU ρ as []with|none=>.stuck|some args=>(c k args).bind fun r a=>.ok r (bk as a ρ):=by unfold qM;cases e:bU ρ as []with|none=>rfl|some args=>simp only[<-Zk (r:=args) e];cases c k args<;>rfl
theorem bQ{one:Bool}{a:P}(J:List Sl->Prop)(g:D->D){Q:List D->List Sl->Prop}(j:J ρ)(h:∀d,d∈ds->∀ρ,J ρ->∃b,cT ρ is one d=some b/\(ev c a b).sat fun r e=>g d=r.d/\J e)(k:∀ρ,J ρ->Q (ds.map g) ρ):(oX c is one none a ds ρ).sat Q:=zK J g j h k
theorem tR{one:Bool}{i t:P}(J:List Sl->Prop)(g:D->Option D){Q:List D->List Sl->Prop}(j:J ρ)(h:∀d,d∈ds->∀ρ,J ρ->∃a,cT ρ is one d=some a/\(ev c t a).sat fun r f=>∃b,r.d=.bl b/\if b=true then(ev c i f).sat fun r l=>g d=some r.d/\J l else g d=none/\J f)(k:∀ρ,J ρ->Q (ds.filterMap g) ρ):(oX c is one (some t) i ds ρ).sat Q:=j4 J g j (fun d hd ρ j=>by obtain⟨a,e,h1⟩:=h d hd ρ j;refine⟨a,e,?_⟩;rw[qd,jc,cu];refine h1.imp fun r f⟨b,e,q⟩=>?_;rw[e];exact q) fun ρ j=>by simpa using k ρ j
theorem jH{c:Call}{n:Nat}{t:P}{body:List S}(J:Nat->List Sl->Prop){Q:Fl->List Sl->Prop}(h:∀m ρ,J m ρ->(ev c t ρ).sat fun r a=>∃b,r.d=.bl b/\if b=true then(iz c n body a).sat (fQ (fun f=>∃g,g<m/\J g f) Q)else Q .next a):∀{k m:Nat}{ρ:List Sl},m<k->J m ρ->(Gh c n t body k ρ).sat Q|0,m,ρ,i,_=>absurd i (Nat.not_lt_zero _)|k+1,m,ρ,i,j=>by unfold Gh;rw[sH,cu,jc,cu];refine(h m ρ j).imp fun r a⟨b,e,q⟩=>?_;rw[e];show(if b=true then _ else _:Res Fl).sat Q;cases b with|false=>rw[if_neg (by simp)]at q;rw[if_neg (by simp)];exact q|true=>rw[if_pos rfl]at q;rw[if_pos rfl,cu];refine q.imp fun fl f q=>?_;cases fl with|next=>obtain⟨g,l,o⟩:=q;exact jH J h (lt_of_lt_of_le l (Nat.lt_succ_iff.mp i)) o|cont=>obtain⟨g,l,o⟩:=q;exact jH J h (lt_of_lt_of_le l (Nat.lt_succ_iff.mp i)) o|brk=>exact q|ret v=>exact q
@[simp]theorem agQ:type_of%@HH.E1:=@HH.E1
@[simp]theorem agb:type_of%@HH.E2:=@HH.E2
@[simp]theorem agN:type_of%@HH.E3:=@HH.E3
@[simp]theorem agz:type_of%@HH.E4:=@HH.E4
@[simp]theorem agG:type_of%@HH.E5:=@HH.E5
@[simp]theorem agP:type_of%@HH.E6:=@HH.E6
@[simp]theorem agU:type_of%@HH.E7:=@HH.E7
@[simp]theorem agw:type_of%@HH.E8:=@HH.E8
@[simp]theorem agg:type_of%@HH.E9:=@HH.E9
@[simp]theorem ac1:type_of%@HH.E10:=@HH.E10
@[simp]theorem adq:type_of%@HH.E11:=@HH.E11
@[simp]theorem aeu:type_of%@HH.E12:=@HH.E12
@[simp]theorem ac9:type_of%@HH.E13:=@HH.E13
@[simp]theorem acX:type_of%@HH.E14:=@HH.E14
@[simp]theorem acE:type_of%@HH.E15:=@HH.E15
@[simp]theorem acT:type_of%@HH.E16:=@HH.E16
@[simp]theorem aee:type_of%@HH.E17:=@HH.E17
@[simp]theorem ac8:type_of%@HH.E18:=@HH.E18
@[simp]theorem aat:type_of%@HH.Yo:=@HH.Yo
@[simp]theorem ad9:type_of%@HH.E19:=@HH.E19
@[simp]theorem acU:type_of%@HH.E21:=@HH.E21
@[simp]theorem ad5:type_of%@HH.E22:=@HH.E22
@[simp]theorem aeG:type_of%@HH.E23:=@HH.E23
@[simp]theorem ags:type_of%@HH.X1:=@HH.X1
@[simp]theorem agm:type_of%@HH.X2:=@HH.X2
@[simp]theorem agA:type_of%@HH.X3:=@HH.X3
@[simp]theorem agR:type_of%@HH.X4:=@HH.X4
@[simp]theorem agc:type_of%@HH.X5:=@HH.X5
@[simp]theorem agM:type_of%@HH.X6:=@HH.X6
@[simp]theorem agW:type_of%@HH.X7:=@HH.X7
@[simp]theorem agO:type_of%@HH.X8:=@HH.X8
@[simp]theorem agr:type_of%@HH.X9:=@HH.X9
@[simp]theorem adT:type_of%@HH.X10:=@HH.X10
@[simp]theorem ae6:type_of%@HH.X11:=@HH.X11
@[simp]theorem aen:type_of%@HH.X12:=@HH.X12
@[simp]theorem aeS:type_of%@HH.X13:=@HH.X13
@[simp]theorem afe:type_of%@HH.X14:=@HH.X14
@[simp]theorem adX:type_of%@HH.jc.eq_1:=@HH.jc.eq_1
@[simp]theorem aem:type_of%@HH.evs.eq_1:=@HH.evs.eq_1
@[simp]theorem ac4:type_of%@HH.evs.eq_2:=@HH.evs.eq_2
@[simp]theorem adB:type_of%@HH.yt.eq_1:=@HH.yt.eq_1
@[simp]theorem acQ:type_of%@HH.yt.eq_2:=@HH.yt.eq_2
@[simp]theorem adD:type_of%@HH.qd.eq_1:=@HH.qd.eq_1
@[simp]theorem ade:type_of%@HH.qd.eq_2:=@HH.qd.eq_2
@[simp]theorem afl:type_of%@HH.qD.eq_1:=@HH.qD.eq_1
@[simp]theorem Ys:type_of%@HH.bU.eq_1:=@HH.bU.eq_1
@[simp]theorem Zd:type_of%@HH.bU.eq_2:=@HH.bU.eq_2
@[simp]theorem Zq:type_of%@HH.bU.eq_3:=@HH.bU.eq_3
@[simp]theorem Ym:type_of%@HH.bU.eq_4:=@HH.bU.eq_4
@[simp]theorem Xl:type_of%@HH.dq.eq_1:=@HH.dq.eq_1
@[simp]theorem Xq:type_of%@HH.dq.eq_2:=@HH.dq.eq_2
@[simp]theorem YZ:type_of%@HH.bf.eq_1:=@HH.bf.eq_1
@[simp]theorem Zv:type_of%@HH.bf.eq_2:=@HH.bf.eq_2
@[simp]theorem Zm:type_of%@HH.bf.eq_3:=@HH.bf.eq_3
@[simp]theorem Xm:type_of%@HH.bf.eq_4:=@HH.bf.eq_4
end HH
end
section
namespace HH
open PySem L2 PySem.Spec PyProof.Rows
section
variable{X:Cx}{c:Call}{a b:Expr}{pa pb:P}{pos:Pos}
theorem qR:∀{e:List D}{ns:List Int},e.mapM iZ=some ns->e=ns.map D.int|[],ns,h=>by simp at h;subst h;rfl|d::e,ns,h=>by simp[List.mapM_cons,Option.bind_eq_some_iff]at h;obtain⟨i,f,j,g,rfl⟩:=h;rw[cG f,qR g];rfl
theorem jq{K:PySem.W.Frag}{F:Hp}:∀{ns:List Int}{ys:List V},aG K F ys (ns.map D.int)->ys=ns.map V.int|[],ys,h=>by rw[h.fW];rfl|n::ns,ys,h=>by obtain⟨v,r,rfl,h1,t⟩:=h.cA;rw[Rep]at h1;rw[h1,jq t];rfl
theorem uL{ns:List Int}{f:List Value}(h:Vals (ns.map V.int) f){i:Nat}{v:Value}(e:f.toArray[i]?=some v):∃t,v=.int (ns.getD i 0) t:=by
 have e:f[i]?=some v:=by simpa using e
 have hi:i<f.length:=(dB e).1;have k:=h.length;rw[length_map]at k;have g:(ns.map V.int)[i]?=some (.int (ns.getD i 0)):=by rw[getElem?_map,getElem?_eq_getElem (by omega)];simp[List.getD,show i<ns.length by omega]
 obtain⟨w,j,l⟩:=h.get g;rw[e]at j;cases j;exact l
theorem walked{h:List (Addr×Obj)}{σ:L2.St}{H:Hp}{s:Shared}{p:Addr}{ys:List V}(I:L2.Inv X h σ H s)(hc:X.calm=true)(hq:eV X.K H p ys\/iQ X.K H p ys){Q:Value->Shared->Prop}{E:Value->Shared->Prop}(k:∀(it:Addr)(g:List Value)(e:Shared)(St:Nat->Heap->Prop),Vals ys g->Walks X.prog X.w X.A.in1 it [it,p] [it] g.toArray.size (fun i v=>g.toArray[i]?=some v) St->St 0 e.heap->(∀ b ∈[it,p],b<e.heap.objs.size)->(∀h' m,(∀b o,b∉[it]->e.heap.get? b=some o->h'.get? b=some o)->L2.Inv X h σ H {e with heap:=h',toks:=m})->Q (.ref it) e):wpAny (model X.prog X.w) X.A.in1 (pyIter (.ref p)) Q E s:=by
 have r:X.A.in1.handled=none:=I.ok.hd hc;rcases hq with hq|hq
 . obtain⟨g,n,f,hz⟩:=I.list hq;have f:=f.isList;have j:p<s.heap.objs.size:=by obtain⟨o,h1,_⟩:=f;exact lt_size h1
   refine wpAny_pyIter_list f (k s.heap.objs.size g _ _ n (Walks.list r s.heap.objs.size p (ne_of_lt j) g.toArray) ⟨⟨_,get?_push_size _ rfl,rfl,rfl⟩,?_⟩ ?_ fun h' m kp=>?_);.obtain⟨o,h1,q⟩:=f;exact⟨o,dG h1,q⟩
   . intro b l;obtain⟨o,h1,_⟩:=f;simp at l;rcases l with rfl|rfl;.exact lt_size (get?_push_size _ rfl)
     .exact lt_size (dG h1)
   .exact I.kept (fun b o z=>kp b o (by simp;exact ne_of_lt (lt_size z)) (dG z))
 . obtain⟨g,n,f,hz⟩:=I.tuple hq;have j:p<s.heap.objs.size:=by obtain⟨o,h1,_⟩:=f;exact lt_size h1
   refine wpAny_pyIter_tuple f (k s.heap.objs.size g _ _ n (Walks.tuple r s.heap.objs.size p (ne_of_lt j) g.toArray) ⟨⟨_,get?_push_size _ rfl,rfl,rfl⟩,?_⟩ ?_ fun h' m kp=>?_);.obtain⟨o,h1,q⟩:=f;exact⟨o,dG h1,q⟩
   . intro b l;obtain⟨o,h1,_⟩:=f;simp at l;rcases l with rfl|rfl;.exact lt_size (get?_push_size _ rfl)
     .exact lt_size (dG h1)
   .exact I.kept (fun b o z=>kp b o (by simp;exact ne_of_lt (lt_size z)) (dG z))
theorem oK(ns:List Int):∀k,k<=ns.length->preSum (fun i=>ns.getD i 0) k=(ns.take k).sum|0,_=>by simp[preSum]|k+1,h=>by rw[preSum,oK ns k (by omega),List.take_succ,List.sum_append];simp[List.getD,show k<ns.length by omega]
theorem Zy(hc:X.calm=true):dI X (.builtin "sum") (Ly X.K fun x=>blt .sum [x]):=by
 rintro g s σ H xs h Q I r⟨x,o,F,d,q,sm,t,he,k⟩;obtain⟨ns,w,he⟩:=map_some (show((items d).bind fun j=>j.mapM iZ).map _=some q from he);subst he;obtain⟨j,y,z⟩:=bV w;obtain⟨p,ys,rfl,A,l⟩:=t.items sm y;rw[qR z]at l;have B:=jq l;subst o;obtain⟨u,rfl,C⟩:=r.one;cases C;refine call_sum_walkG (walked I hc A fun it h m St n W h0 E kp=>?_);subst B;have f:h.toArray.size=ns.length:=by rw[size_toArray,<-n.length,length_map]
 refine⟨it,_,_,_,_,St,fun i=>ns.getD i 0,rfl,W,h0,E,fun i v e=>uL n e,fun h' G t' J=>?_⟩;rw[f,oK ns _ (dz),List.take_length];exact⟨.int _,H,kp h' G J,⟨t',rfl⟩,cj.cX sm (bL _) k⟩
theorem Hl{ns:List Int}{m:Int}(k:ns.min?=some m):ns.getD (argBest (fun i j=>decide (ns.getD i 0<ns.getD j 0)) (ns.length-1)) 0=m:=by
 have h:ns≠[]:=by rintro rfl;simp at k
 have r:0<ns.length:=List.length_pos_iff.mpr h;obtain⟨h1,n⟩:=argBest_lt (fun i=>ns.getD i 0) (ns.length-1);have l:=List.min?_eq_some_iff.mp k;generalize argBest (fun i j=>decide (ns.getD i 0<ns.getD j 0)) (ns.length-1)=j at*;have o:j<ns.length:=by omega
 have f:ns.getD j 0∈ns:=by simp[List.getD,o]
 obtain⟨q,p,e⟩:=getElem_of_mem l.1;have g:=n q (by omega);simp only[List.getD,getElem?_eq_getElem p,Option.getD_some]at g;rw[e]at g;have s:=l.2 _ f;have g:ns.getD j 0<=m:=g;omega
theorem Uh(hc:X.calm=true):dI X (.builtin "min") (Ly X.K fun x=>blt .JQ [x]):=by
 rintro j s σ H xs l Q I r⟨x,z,F,d,A,sm,B,he,k⟩;obtain⟨ns,C,he⟩:=bV (show((items d).bind fun n=>n.mapM iZ).bind _=some A from he);obtain⟨m,o,he⟩:=map_some he;subst he;obtain⟨n,E,G⟩:=bV C;obtain⟨p,ys,rfl,J,q⟩:=B.items sm E;rw[qR G]at q;have L:=jq q;subst z;obtain⟨u,rfl,M⟩:=r.one;cases M;refine call_min_walk (walked I hc J fun it l w St h W h0 N kp=>?_);subst L;have f:l.toArray.size=ns.length:=by rw[size_toArray,<-h.length,length_map]
 have g:0<ns.length:=by cases ns with|nil=>simp at o|cons _ _=>simp
 refine⟨it,_,_,_,_,St,_,rfl,W,h0,N,by rw[f];exact g,CmpOf.ints_lt (fun i=>ns.getD i 0) (fun i v e=>uL h e),fun v h' O y U=>?_⟩;rw[f]at y;obtain⟨t,rfl⟩:=uL h y;rw[Hl o];exact⟨.int _,H,kp h' O U,⟨t,rfl⟩,cj.cX sm (bL _) k⟩
theorem boot_sum:bootBuiltins "sum"=some (.builtin "sum"):=by decide+kernel
theorem uU{x:Str}{e:Pos}(f:x="sum")(hc:X.calm=true)(g:Gl X x)(i:X.mg x=none)(j:SX X c a pa)(hs:starEach [a] X.env=(false,eval a X.env)::starEach [] X.env:=by rfl):SX X c (.Call (.Name x e) [a] [] pos) (.blt .sum [pa]):=by subst f;exact oW (fun h=>dO (Zy hc) g i boot_sum h (he:=hs)) j (fun ρ=>rfl) rfl hs
theorem Nm{x:Str}{e:Pos}(f:x="min")(hc:X.calm=true)(g:Gl X x)(i:X.mg x=none)(j:SX X c a pa)(hs:starEach [a] X.env=(false,eval a X.env)::starEach [] X.env:=by rfl):SX X c (.Call (.Name x e) [a] [] pos) (.blt .JQ [pa]):=by subst f;exact oW (fun h=>dO (Uh hc) g i boot_min h (he:=hs)) j (fun ρ=>rfl) rfl hs
end
end HH
end
section
namespace HH
open PySem
section
variable{i j:Int}{ds es:List D}{d:D}{b b':Bool}
@[simp]theorem aaR:rZ .shl=HY:=rfl
@[simp]theorem aay:rZ .shr=G3:=rfl
@[simp]theorem YC:rZ .band=yG:=rfl
@[simp]theorem WR:HY (.int i) (.int j)=if 0<=j/\j<=1000/\i.natAbs<18446744073709551616 then some (.val (.int (i*2^j.toNat)))else none:=rfl
@[simp]theorem Wv:G3 (.int i) (.int j)=if 0<=j then some (.val (.int (i/2^j.toNat)))else none:=rfl
@[simp]theorem Sh:yG (.int i) (.int j)=some (.val (.int (Builtin.bitAnd i j))):=rfl
@[simp]theorem Wd:oU (.lst ds) (.int i)=if 0<=i/\0<ds.length/\ds.length*i.toNat<=lim then some (.own (replicate i.toNat ds).flatten)else none:=rfl
@[simp]theorem W7:oU (.tup ds) (.int i)=if 0<=i/\0<ds.length/\ds.length*i.toNat<=lim then some (.val (.tup (replicate i.toNat ds).flatten))else none:=rfl
@[simp]theorem adx:cm .isT (.bl b) (.bl true)=some b:=rfl
@[simp]theorem abO:cm .Z5 (.bl b) (.bl true)=some (!b):=rfl
@[simp]theorem abH:blt .sum [.lst ds]=(ds.mapM iZ).map fun ns=>.val (.int ns.sum):=rfl
@[simp]theorem Yh:blt .JQ [.lst ds]=(ds.mapM iZ).bind fun ns=>ns.min?.map fun i=>.val (.int i):=rfl
end
@[simp]theorem aeV:type_of%@HH.X16:=@HH.X16
@[simp]theorem ae7:type_of%@HH.X17:=@HH.X17
@[simp]theorem adQ:type_of%@HH.X18:=@HH.X18
theorem iJ{ns:List Int}:(ns.map D.int).mapM iZ=some ns:=by induction ns with|nil=>rfl|cons n ns a=>simp[a]
@[simp]theorem Vs{ns:List Int}:ns.mapM (iZ ∘ D.int)=some ns:=by rw[<-iJ (ns:=ns),List.mapM_map]
@[simp]theorem Zu{bs:List Bool}:bs.mapM (yO ∘ D.bl)=some bs:=by induction bs with|nil=>rfl|cons b bs a=>simp[a]
theorem aby{S:List Int}{i:Int}:((S.map D.int).any fun y=>lF y (.int i))=S.contains i:=by induction S with|nil=>rfl|cons s S a=>rw[map_cons,any_cons,List.contains_cons,a,pqi];rw[show(s==i)=(i==s)from Bool.eq_iff_iff.mpr ⟨fun h=>by simp at h ⊢;exact h.symm,fun h=>by simp at h ⊢;exact h.symm⟩]
theorem XJ{S:List Int}:(S.map D.int).all flat=true:=by rw[all_eq_true];intro d hd;obtain⟨i,_,rfl⟩:=mem_map.mp hd;rfl
theorem pH{n:Nat}{S:List Int}:fj (n+1) (.lst (S.map D.int))=true:=by rw[fj,all_eq_true];intro d hd;obtain⟨i,_,rfl⟩:=mem_map.mp hd;cases n<;>rfl
theorem rA:∀{S T:List Int},gP (S.map D.int) (T.map D.int)=(S==T)|[],[]=>by simp[gP]|[],_::_=>by simp[gP]|_::_,[]=>by simp[gP]|s::S,t::T=>by rw[map_cons,map_cons,gP,rA,pqi];rfl
theorem NP{S T:List Int}:cm .eq (.lst (S.map D.int)) (.lst (T.map D.int))=some (S==T):=by show HF _ _=_;unfold HF;rw[pH,pH,pql,rA];rfl
theorem abB{S T:List Int}:cm .ne (.lst (S.map D.int)) (.lst (T.map D.int))=some (!(S==T)):=by show Je _ _=_;unfold Je;rw[pH,pH,pql,rA];rfl
theorem LQ{S:List Int}:cm .eq (.lst (S.map D.int)) (.lst [])=some S.isEmpty:=by rw[show(.lst []:D)=.lst (([]:List Int).map D.int)from rfl,NP];cases S<;>rfl
theorem dN{a:Type}{l:List a}{f:a->D}{k:Nat}{x:a}(h:l[k]?=some x):at' (l.map f) (k:Int)=some (f x):=by have b:=(dB h).1;rw[Hv (by simpa using b),getElem?_map,h];rfl
theorem RT{n k:Nat}(h:k<n):jM n (k:Int)=some k:=by unfold jM;rw[if_pos (by omega),if_pos (by omega)];simp
theorem fc{is:List Nat}{one:Bool}{body:List Sl->Res Fl}{g:Nat->D}{N:Nat}(J:Nat->List Sl->Prop){Q:Fl->List Sl->Prop}(c:∀i ρ,i<N->J i ρ->∃a,cT ρ is one (g i)=some a/\(body a).sat (fQ (J (i+1)) Q))(f:∀ρ,J N ρ->Q .next ρ){ρ:List Sl}(h0:J 0 ρ):(iD is one body ((List.range N).map g) ρ).sat Q:=by
 refine cU (fun r ρ=>∃i,i<=N/\r=((List.range N).map g).drop i/\J i ρ) ?_ ?_ ⟨0,vf,rfl,h0⟩
 . rintro d r ρ⟨i,hi,e,j⟩;have b:i<N:=by
    rcases Nat.lt_or_ge i N with h|h;.exact h
    .rw[List.drop_eq_nil_of_le (by simpa using h)]at e;cases e
   rw[drop_eq_getElem_cons (by simpa using b)]at e;injection e with e1 e2;simp at e1;subst e1;obtain⟨a,h1,k⟩:=c i ρ b j;refine⟨a,h1,k.imp fun fl l q=>?_⟩;cases fl with|next=>exact⟨i+1,b,e2,q⟩|cont=>exact⟨i+1,b,e2,q⟩|brk=>exact q|ret v=>exact q
 . rintro ρ⟨i,hi,e,j⟩;have:i=N:=by have m:=congrArg List.length e;simp at m;omega
   subst this;exact f ρ j
inductive A3(a b c:Prop):Prop where|mk(ha:a)(hb:b)(hc:c)
inductive A4(a b c d:Prop):Prop where|mk(ha:a)(hb:b)(hc:c)(hd:d)
inductive A5(a b c d e:Prop):Prop where|mk(ha:a)(hb:b)(hc:c)(hd:d)(he:e)
inductive A6(a b c d e f:Prop):Prop where|mk(ha:a)(hb:b)(hc:c)(hd:d)(he:e)(hf:f)
inductive A7(a b c d e f g:Prop):Prop where|mk(ha:a)(hb:b)(hc:c)(hd:d)(he:e)(hf:f)(hg:g)
inductive A8(a b c d e f g h:Prop):Prop where|mk(ha:a)(hb:b)(hc:c)(hd:d)(he:e)(hf:f)(hg:g)(hh:h)
inductive A9(a b c d e f g h i:Prop):Prop where|mk(ha:a)(hb:b)(hc:c)(hd:d)(he:e)(hf:f)(hg:g)(hh:h)(hi:i)
end HH
end
section
namespace HH
open PySem L2 PySem.Spec PyProof.Rows
section
variable{X:Cx}{c:Call}{n:Nat}{e a b d tg:Expr}{p pa pb pd:P}{pos:Pos}
theorem Ro{g:TG}{is:List Nat}(he:SX X c e p)(s:PG X tg g)(i:Ii X.K (fun ρ d=>cT ρ is false d) g)(hs:swapsWithSole [tg] e pos.line X.env=pure false:=by rfl)(t:swappedStores [tg] e X.env=pure none:=by rfl)(h1:(assignEach [tg] X.env).map (·.2)=[assign tg X.env]:=by rfl):SS X c n (.Assign [tg] e pos) (.unp is p):=by
 refine dw (GQ he.ev s hs t h1) ?_;rintro D σ H⟨F,ρ,fl,u,w,e,k⟩;rw[HH.X8]at e;obtain⟨r,f,x,e⟩:=aj e;refine⟨F,ρ,r,f,w,x,fun v F1 l s1 y=>?_⟩;obtain⟨m,s2,_,o⟩:=s1.dj y;split at e;.rename_i q hd;obtain⟨z,A,h,e⟩:=aj e;cases e;have B:=aB h;clear h;obtain⟨h,C⟩:=B;rw[hd]at o;exact i v (.tup q) m f _ σ l _ s2.gs o (by show cT f is false (.tup q)=_;cases is<;>exact h) fun j s3=>k m j l (s2.trans s3)
 .cases e
theorem Lj:gb X (compareOp .Is) (rD X.K (qD .isT)):=by
 rintro g s σ H x y v u Q I h i⟨F,d,e,r,sm,j,l,he,k⟩;obtain⟨t,f,m⟩:=map_some (show(cmT false d e).map _=some r from he);subst m;unfold cmT at f;split at f;.rename_i b;cases f;rw[j.bl]at h;rw[l.bl]at i;cases h;cases i;have q:=cj.cX sm (fu b) k;cases b<;>exact wpAny_pure ⟨.bl _,H,I,rfl,q⟩
 .cases f
end
end HH
end
section
namespace HT
open PySem PySem.Spec PyProof.Rows
section
variable{prog:Program}{w:World}{A:Around}{E:Value->Shared->Prop}{s:Shared}
theorem wu{t sl:Addr}{a:Array Value}{f g:Value}{lo hi:Option Int}{Q:Value->Shared->Prop}(ht:IsTup s.heap t a)(hs:s.heap.IsSliceOf sl f g .none)(i:IsPart f lo)(j:IsPart g hi)(h1:dH a.size 0 lo=0)(k:dH a.size a.size hi=a.size)(h:Q (.ref t) s):wpAny (model prog w) A (getItem (.ref t) (.ref sl)) Q E s:=by
 obtain⟨os,b,c,l⟩:=id hs;have m:s.TypeIs (.ref sl) "slice":=⟨os,b,c⟩;unfold getItem;try with_reducible refine wpAny_holding ?_
 first|refine wpAny_bind (wpAny_pure ?_)|skip
 refine wpAny_bind (wpAny_sequenceKey ht.typeIs (by decide) (wpAny_bind (wpAny_callSpecial?_slot (name:=Str.ofString "__getitem__") ht.typeIs slot_tuple_getitem (wpAny_call_entry slot_tuple_getitem ht.typeIs entry_tuple_getitem ?_ (args_tuple_getitem _ _)))));show wpAny _ _ (tupleItemsOf (.ref t)>>=_) _ _ s;refine wpAny_bind (tupleItemsOf_ ht (wpAny_bind (wpAny_typeOf m ?_)));rw[if_pos (by decide)];refine wpAny_bind (iH hs i j ?_);have e:((((dH a.size 0 lo:Nat):Int)==0&&(1:Int)==1&&(dH a.size a.size hi-dH a.size 0 lo)==a.size)=true):=by rw[h1,k];simp
 show wpAny _ _ (if(((dH a.size 0 lo:Nat):Int)==0&&(1:Int)==1&&(dH a.size a.size hi-dH a.size 0 lo)==a.size)=true then _ else _) _ _ s;rw[if_pos e];unfold Builtin.Tuple.tupleIsExact;refine wpAny_bind (wpAny_bind (wpAny_typeOf ht.typeIs (wpAny_pure ?_)));rw[if_pos (by decide)];exact wpAny_bind (wpAny_rule (wpAny_pure ⟨_,rfl,wpAny_pure h⟩))
end
end HT
namespace HH
open PySem L2 PySem.Spec PyProof.Rows
noncomputable def nst:Expr->Bool|.Starred _ _=>false|_=>true
theorem iV{e:Expr}{es:List Expr}{env:Env}(h:nst e=true):starEach (e::es) env=(false,eval e env)::starEach es env:=by cases e with|Starred a b=>cases h|_=>rw[starEach];(intro e p z;cases z)
noncomputable def rF:List Int->List Expr->Option (List Expr)|[],es=>some es|i::is,.Constant (.int j) _ _::es=>if i=j then rF is es else none|_,_=>none
theorem pJ{X:L2.Cx}{c:Call}:∀(is:List Int){es a:List Expr}{b:List P},rF is es=some a->SA X c a b->SA X c es (is.map (fun i=>P.con (.int i))++b)|[],es,a,b,h,r=>by cases h;exact r|i::is,[],a,b,h,r=>by cases h|i::is,e::es,a,b,h,r=>by cases e with
   |Constant v k p=>cases v with
     |int j=>
       replace h:(if i=j then rF is es else none)=some a:=h;split at h;.rename_i f;subst f;exact pQ aa (pJ is h r) (iV rfl)
       .cases h|_=>cases h
   |_=>cases h
theorem uO{n d:Nat}{o:Option Int}:HT.dH n d o=HH.dH n d o:=by cases o with|none=>rfl|some v=>
   show(if v<0 then(v+(n:Int)).toNat else min v.toNat n)=(if 0<=v then min v.toNat n else(v+n).toNat);by_cases h:0<=v;.rw[if_pos h,if_neg (by omega)]
   .rw[if_neg h,if_pos (by omega)]
theorem Jz{xs:List V}{lo hi:Option Int}:wM xs lo hi=HH.cut xs lo hi:=by unfold wM HH.cut;rw[uO,uO]
theorem aG.cut{K:PySem.W.Frag}{F:Hp}{a:List D}{vs:List V}{lo hi:Option Int}(h:aG K F vs a):aG K F (HH.cut vs lo hi) (HH.cut a lo hi):=by unfold HH.cut;rw[h.length];exact(h.drop _).take _
section
variable{X:Cx}{c:Call}{n:Nat}{e a b:Expr}{p pa pb pl ph:P}{pos p2:Pos}{lo hi:Option Expr}
def ada(K:PySem.W.Frag):V->Option Int->Option Int->Hp->VK->Prop:=fun x lo hi H Q=>∃F d r,aF F H/\dC K F H x d/\Mx d (some lo) (some hi)=some r/\∀v g f,Ext F H g f->cj K g f H v r->Q v f
theorem Xw:SlR X (ada X.K):=by rintro f s σ H x v u w lo hi sl Q I l hs pl m⟨F,d,r,sm,y,he,k⟩;cases d with|lst o=>cases he;obtain⟨a,xs,rfl,j,h⟩:=y.lst sm;refine Nf f s σ H _ v u w lo hi sl Q I l hs pl m ⟨a,xs,rfl,j,fun p q=>?_⟩;rw[Jz];exact wW sm h.cut q k|tup o=>
   cases he;obtain⟨a,xs,rfl,j,h,rt⟩:=y.tup sm;by_cases i:HT.dH xs.length 0 lo=0/\HT.dH xs.length xs.length hi=xs.length
   . cases l;obtain⟨t,z,ht,hz⟩:=I.tuple j;have g:t.toArray.size=xs.length:=by rw[size_toArray];exact z.length.symm
     refine⟨"tuple",_,slot_tuple_getitem.lookup,ht.typeIs,HT.wu ht hs pl m (by rw[g];exact i.1) (by rw[g];exact i.2) ⟨.ref a,H,I,rfl,?_⟩⟩;have hc:HH.cut o lo hi=o:=by unfold HH.cut;rw[<-h.length,<-uO,<-uO,i.1,i.2];simp[h.length]
     rw[hc]at k;exact cj.cX sm rt k
   .refine Ry f s σ H _ v u w lo hi sl Q I l hs pl m ⟨a,xs,rfl,j,i,fun p q=>?_⟩;rw[Jz];exact zX sm h.cut q k|_=>cases he
def SO(X:Cx)(c:Call)(o:Option Expr)(p:P):Prop:=∃t,PO X o t/\∀{σ:L2.St}{H F:Hp}{ρ f:List Sl}{d:D}{i:Option Int}{Q:Option Int->Hp->Prop},GS X.K F ρ σ H->cC (isVar p) (HH.ev c p) ρ=.ok d f->part p d=some i->(∀h g,aC X.K F ρ σ H h f σ g->Q i g)->t σ H Q
theorem vq:SO X c none (.con .non):=by refine⟨_,K1,fun{σ H F ρ f d i Q}g e h k=>?_⟩;cases(show some none=some i from h);have j:(HH.ev c (.con .non) ρ).bind (fun r ρ=>.ok r.d ρ)=.ok d f:=e;clear e;rw[HH.E2]at j;cases j;exact k F H (.refl g)
theorem uR(h:SX X c e p)(l:Yd p=false:=by rfl):SO X c (some e) p:=by obtain⟨t,h1,m⟩:=h.cC;refine⟨_,Mq h1,fun{σ H F ρ o d i Q}g e f k=>?_⟩;unfold part at f;rw[l,if_neg (by decide)]at f;obtain⟨j,q,r⟩:=map_some f;cases cG q;subst r;exact m g e fun v u w s x=>⟨j,x.int,k u w s⟩
theorem wO{d:D}{x y:Option (Option Int)}{r:R}(h:Mx d x y=some r):∃lo hi,x=some lo/\y=some hi:=by cases x with|none=>cases d<;>cases h|some lo=>cases y with|none=>cases d<;>cases h|some hi=>exact⟨lo,hi,rfl,rfl⟩
theorem qg(ha:SX X c a pa)(hl:SO X c lo pl)(hh:SO X c hi ph):SX X c (.Subscript a (.Slice lo hi none p2) pos) (.slice pa pl ph):=by obtain⟨tl,l1,l2⟩:=hl;obtain⟨th,h1,h2⟩:=hh;cases hv:isVar pa with|none=>refine⟨di (xP Xw ha.ev l1 h1) ?_,fun i h=>by cases h⟩;rintro σ H Q⟨F,ρ,r,B,g,e,k⟩;rw[HH.E15,hv]at e;obtain⟨x,C,f,j⟩:=aj e;clear e;have l:(HH.ev c pa ρ).bind (fun r ρ=>.ok r.d ρ)=.ok x C:=f;clear f;obtain⟨rx,ac,e1,E⟩:=aj l;clear l;cases E;obtain⟨y,G,I,m⟩:=aj j;clear j;obtain⟨z,J,L,o⟩:=aj m;clear m;obtain⟨e,M⟩:=aB o;clear o;subst M;obtain⟨N,O,q,s⟩:=wO e;rw[q,s]at e;refine⟨F,ρ,rx,_,g,e1,fun v F1 H1 s1 rr=>?_⟩;obtain⟨F2,s2,_,rp⟩:=s1.dj rr;refine l2 s2.gs I q fun F3 H3 s3=>h2 s3.gs L s fun U H4 s4=>?_;have s5:=s2.trans (s3.trans s4);refine⟨U,_,r,s4.gs.sub,.inl ((rp.mono s3.bN).mono s4.bN),e,fun v W Y x Z=>?_⟩;exact k v W Y (s5.trans (x.stp s5.gs)) (.later s5 (Z.nj s5.gs))|some i=>refine⟨di (xP Xw (ha.var i hv) l1 h1) ?_,fun i h=>by cases h⟩;rintro σ H Q⟨F,ρ,r,B,g,e,k⟩;rw[HH.E15,hv]at e;obtain⟨x0,ae,t,j⟩:=aj e;clear e;obtain⟨E,Ab⟩:=aB t;clear t;subst Ab;obtain⟨y,G,I,m⟩:=aj j;clear j;obtain⟨z,J,L,o⟩:=aj m;clear m;obtain⟨x,af,u,ed⟩:=aj o;clear o;obtain⟨e5,e6⟩:=aB u;clear u;subst e6;obtain⟨e,M⟩:=aB ed;clear ed;subst M;obtain⟨N,O,q,s⟩:=wO e;rw[q,s]at e;obtain⟨v,w,_⟩:=g.pk E;refine⟨v,w,l2 g I q fun F3 H3 s3=>h2 s3.gs L s fun U H4 s4=>?_⟩;have s5:=s3.trans s4;obtain⟨v',A,pv⟩:=s5.gs.pk e5;rw[w]at A;cases A;refine⟨U,_,r,s4.gs.sub,pv,e,fun v W Y x Z=>?_⟩;exact k v W Y (s5.trans (x.stp s5.gs)) (.later s5 (Z.nj s5.gs))
theorem Y0:dI X (.builtin "abs") (Ly X.K fun x=>blt .abs [x]):=by rintro f s σ H xs g Q I r⟨x,h,F,d,j,sm,l,he,k⟩;cases d with|int i=>cases(show some _=some j from he);exact Ho f s σ H xs g Q I r ⟨i,by rw[h,l.int],cj.cX sm (bL _) k⟩|_=>cases he
theorem boot_abs:bootBuiltins "abs"=some (.builtin "abs"):=by decide+kernel
theorem Gf{x:Str}{f:Pos}(g:x="abs")(i:Gl X x)(j:X.mg x=none)(k:SX X c a pa)(hs:starEach [a] X.env=(false,eval a X.env)::starEach [] X.env:=by rfl):SX X c (.Call (.Name x f) [a] [] pos) (.blt .abs [pa]):=by subst g;exact oW (fun h=>dO Y0 i j boot_abs h (he:=hs)) k (fun ρ=>rfl) rfl hs
theorem Uv{i:Nat}{x:Str}{t:Pos}{op:Operator}{sub:Bool}(ho:Ou X op (Vz fun i j=>if sub then i-j else i+j))(w:X.N.Nodup)(hi:X.N[i]?=some x)(y:Loc X.env.scope x)(he:SX X c e p)(z:X.fn x=true\/X.env.scope.names.lookup x=some .local:=by first|exact .inl rfl|exact .inr rfl|assumption):SS X c n (.AugAssign (.Name x t) op e pos) (.aug i sub p):=by
 obtain⟨te,h1,A⟩:=he.cC;refine dw (U5 w hi y h1 ho z) ?_;rintro D σ H⟨F,ρ,fl,B,g,e,k⟩;rw[HH.X16]at e;obtain⟨a0,C,f,s⟩:=aj e;clear e;obtain⟨E,G⟩:=aB f;clear f;subst G;obtain⟨b0,I,J,o⟩:=aj s;clear s;obtain⟨v,q,L⟩:=g.pk E;refine⟨v,q,A g J fun u F1 M s1 O=>?_⟩;split at o;.rename_i h l;obtain⟨Q,U,m,W⟩:=aj o;clear o;cases W;obtain⟨Y,e3⟩:=aB m;clear m;have Z:Rep X.K F1 (.int (if sub then h-l else h+l)) (.int (if sub then h-l else h+l)):=bL _;exact⟨h,l,L.int,O.int,k F1 _ M (aC.put (r:=.val (.int _)) s1 Z Y)⟩
 .cases o
theorem NZ:Ou X .Add (Vz fun i j=>if false then i-j else i+j):=Tr
theorem Np:Ou X .Sub (Vz fun i j=>if true then i-j else i+j):=Vd
theorem QB{x:Str}{k:Nat}{l h f:Pos}(E:X.N[k]?=some x)(G:vV X.env.scope x)(he:SX X c e p)(i:(h.endLine==f.line)=true:=by rfl)(hs:starEach [e] X.env=(false,eval e X.env)::starEach [] X.env:=by rfl)(j:attributeBase (.Name x l) "extend" X.env (eval (.Name x l) X.env)=eval (.Name x l) X.env:=by rfl)(m:((backTo f (starEach [e] X.env)).all (fun x=>!x.1)&&(backToKw f (keywordEach [] X.env)).all (fun x=>x.1.isSome)&&decide ([e].length+([]:List Keyword).length+(if([]:List Keyword).isEmpty then 0 else 1)<30))=true:=by rfl)(t:swapsWith (.Call (.Attribute (.Name x l) "extend" h) [e] [] f) none pos.line X.env=pure false:=by rfl)(hd:(x==("__debug__":Str))=false:=by decide)(u:(x==("__classdict__":Str))=false:=by decide):SS X c n (.Expr (.Call (.Attribute (.Name x l) "extend" h) [e] [] f) pos) (.JT k p):=by
 refine dw (pW (IW plainAttrs_list PySem.F.slot_list_extend PySem.F.type_list_extend Ea (fC E G hd u) (bC he.ev cW hs) j m i hs) t) ?_;rintro D σ H⟨F,ρ,fl,I,g,e,J⟩;rw[HH.X18]at e;obtain⟨d0,L,o,z⟩:=aj e;clear e;obtain⟨M,O⟩:=aB o;clear o;subst O;obtain⟨r,w,Q,s⟩:=aj z;clear z;obtain⟨a,xs,h1,U⟩:=vd g M;refine⟨.ref a,h1,.inl ⟨rfl,xs,U⟩,F,ρ,r,w,g,Q,fun v F1 H1 s1 W=>?_⟩;split at s
 . rename_i bb Y es q;split at s;.rename_i y;cases s;obtain⟨b1,ys,rfl,Z,w3,A,w5,w6⟩:=W;obtain⟨ad,zs,B,q2,q3,C⟩:=s1.gs.lG k _ Y q rfl;rw[h1]at B;cases B;exact⟨_,b1,zs,ys,rfl,rfl,q2,Z,by rw[C.length,A.length];exact y,J F1 σ _ (s1.trans (s1.gs.mut q h1 (C.append A)))⟩
   .cases s
 .cases s
end
end HH
end
section
namespace L2
open PySem PySem.Spec PyProof.Rows
section
variable{X:Cx}{tg:Expr}
theorem vZ:bootBuiltins "tuple"=some (.type "tuple"):=by decide+kernel
theorem qG:bootBuiltins "reversed"=some (.type "reversed"):=by decide+kernel
end
end L2
namespace HH
open PySem L2 PySem.Spec PyProof.Rows
section
variable{K:PySem.W.Frag}{F F1 H H1:Hp}{ρ ρ1:List Sl}{σ:L2.St}{ds:List D}{a:Addr}
theorem aG.rev:∀{ds:List D}{xs:List V},aG K F xs ds->aG K F xs.reverse ds.reverse|[],_,h=>by rw[h.fW];exact .nil|d::ds,_,h=>by obtain⟨v,r,rfl,h1,b⟩:=h.cA;rw[reverse_cons,reverse_cons];exact(aG.rev b).append (.cons h1 .nil)
end
end HH
end
section
namespace L2
open PySem PySem.Spec PyProof.Rows
theorem xg:bootBuiltins "list"=some (.type "list"):=by decide+kernel
noncomputable def Rq(i:Int)(n:Nat):List V:=(List.range n).map fun(k:Nat)=>V.int (i+(k:Int))
theorem yV{i:Int}{n:Nat}{a:Array Value}(h:ItemsOf (fun k v=>∃t,v=Value.int (i+(k:Int)*1) t) a n):Vals (Rq i n) a.toList:=by
 obtain⟨h1,g⟩:=h;have key:∀(m:Nat)(l:List Value),l.length=m->∀(f:Nat->Int),(∀(j:Nat)(v:Value),l[j]?=some v->∃t,v=Value.int (f j) t)->Vals ((List.range m).map fun k=>V.int (f k)) l:=by intro m;induction m with
  |zero=>intro l b f _;cases l with|nil=>exact .nil|cons _ _=>cases b
  |succ m o=>intro l b f c;cases l with|nil=>cases b|cons v l=>rw[List.range_succ_eq_map,map_cons,map_map];obtain⟨t,rfl⟩:=c 0 v rfl;exact .cons ⟨t,rfl⟩ (o l (by simpa using b) (fun k=>f (k+1)) fun j v q=>c (j+1) v (by simpa using q))
 refine key n a.toList (by simpa using h1) (fun k=>i+(k:Int)) fun j v q=>?_;obtain⟨t,e⟩:=g j v (by simpa using q);exact⟨t,by rw[e,mul_one]⟩
section
variable{X:Cx}{pins:List (Addr×Obj)}{σ:St}{H:Hp}{s:Shared}{E:Value->Shared->Prop}
theorem Ja{lo hi:Int}{t u v:Tok}{h:Nat}{Q:VK}(hc:X.calm=true)(I:Inv X pins σ H s)(h1:-(2^62)<=lo)(m:lo<2^62)(p:-(2^62)<=hi)(r:hi<2^62)(i:(hi-lo).toNat<=sizeLine)(q:∀l,H l=none->Q (.ref l) (upd H l (.lst (Rq lo (hi-lo).toNat)))):wpAny (model X.prog X.w) X.A (call (.type "list") [.ref s.heap.objs.size]) (EP X pins σ Q) E {s with heap:=s.heap.push {cls:=.type "range",data:=.fields #[.int lo t,.int hi u,.int 1 v]},toks:=h}:=by have j:Inv X pins σ H {s with heap:=s.heap.push {cls:=.type "range",data:=.fields #[.int lo t,.int hi u,.int 1 v]},toks:=h}:=I.kept fun b o e=>dG e;refine call_list_range (I.ok.hd hc) (IsRange.new ..) (small_one h1 m p r) (n:=(hi-lo).toNat) (by rw[rangeSize_one];split<;>omega) (le_trans i (by decide)) fun h' f a x y g c=>?_;generalize B:(s.heap.push {cls:=.type "range",data:=.fields #[.int lo t,.int hi u,.int 1 v]}:Heap)=k at*;have z:H k.objs.size=none:=j.hok.fresh (dz);refine⟨.ref k.objs.size,_,j.laid (t':=f) (o:=.lst (Rq lo (hi-lo).toNat)) (h':=h') y (dz) ?_,rfl,q _ z⟩;exact⟨by simpa[Rq]using i,a.toList,x,yV c,by simpa using g⟩
theorem Fj{a:Expr}{g:TA}{p pos p2 b:Pos}(hc:X.calm=true)(i:Gl X "list")(k:X.mg "list"=none)(m:Gl X "range")(n:X.mg "range"=none)(o:PA X [a] g)(hs:starEach [a] X.env=[(false,eval a X.env)]:=by rfl)(c:starEach [.Call (.Name "range" p) [a] [] pos] X.env=[(false,eval (.Call (.Name "range" p) [a] [] pos) X.env)]:=by rfl):PE X (.Call (.Name "list" p2) [.Call (.Name "range" p) [a] [] pos] [] b) (fun σ H Q=>g σ H fun vs f=>∃j:Int,vs=[.int j]/\(-(2^62)<=j/\j<2^62/\(j-0).toNat<=sizeLine)/\∀l,f l=none->Q (.ref l) (upd f l (.lst (Rq 0 (j-0).toNat)))):=by intro pins s σ H Q I h;refine Call_ (gn I i k xg (PyProof.Rows.callWith_type1 ?_ c rfl));rw[c];show wpAny _ _ (spliced ((false,eval (.Call (.Name "range" p) [a] [] pos) X.env)::[])) _ _ _;refine Calls.spliced_cons (Call_ (gn I m n boot_range (PyProof.Rows.callWith_type1 (bR (o pos pins s σ H _ I h) ?_) hs rfl)));rintro x s1⟨vs,f,u,r1,v⟩;obtain⟨j,e,⟨b1,b2,b3⟩,q⟩:=v;subst e;cases r1 with|cons r w=>cases w;obtain⟨t,rfl⟩:=r;exact call_range_1 (Calls.spliced_nil (Ja hc u (by omega) (by omega) b1 b2 b3 q))
end
end L2
namespace HH
open PySem L2 PySem.Spec PyProof.Rows
theorem Tu{K:PySem.W.Frag}{F:Hp}(i:Int)(n:Nat):aG K F (Rq i n) ((List.range n).map fun(k:Nat)=>D.int (i+(k:Int))):=by unfold Rq;generalize List.range n=l;induction l with|nil=>exact .nil|cons k l a=>exact .cons (show Rep K F (.int _) (.int _)from bL _) a
section
variable{X:Cx}{c:Call}{a b:Expr}{pa pb:P}{pos:Pos}
theorem Ff{x y:Str}{p z n:Pos}(A:y="list")(B:x="range")(hc:X.calm=true)(C:Gl X y)(E:X.mg y=none)(G:Gl X x)(I:X.mg x=none)(J:SX X c a pa)(hs:starEach [a] X.env=[(false,eval a X.env)]:=by rfl)(q:starEach [.Call (.Name x p) [a] [] pos] X.env=[(false,eval (.Call (.Name x p) [a] [] pos) X.env)]:=by rfl):SX X c (.Call (.Name y z) [.Call (.Name x p) [a] [] pos] [] n) (.blt .Dj [.rW (.con (.int 0)) pa]):=by
 subst B A;obtain⟨ta,h1,L⟩:=J.cC;refine⟨di (Fj hc C E G I (bC h1 cW hs) hs q) ?_,fun i h=>by cases h⟩;rintro σ H Q⟨F,ρ,r,M,g,e,k⟩;rw[E17]at e;obtain⟨x,N,O,m⟩:=aj e;have t:=aB m;clear m;obtain⟨m,o⟩:=t;subst o;obtain⟨r1,U,o,u⟩:=aj O;cases u;rw[E21]at o;obtain⟨xy,W,u,f⟩:=aj o;have t:=aB f;clear f;obtain⟨f,Y⟩:=t;subst Y;obtain⟨y0,Z,e9,w⟩:=aj u;cases w;obtain⟨i,f1,f⟩:=bV f;obtain⟨j,f2,f⟩:=bV f;obtain⟨⟨b1,b2,b3,b4⟩,f⟩:=bz f;have f1:i=0:=by cases f1;rfl
 subst f1;subst f;obtain⟨b5,m⟩:=bz (show(if((List.range (j-0).toNat).map fun(k:Nat)=>D.int (0+(k:Int))).length<=16777216 then some (R.own ((List.range (j-0).toNat).map fun(k:Nat)=>D.int (0+(k:Int))))else none)=some r from m);subst m;cases cG f2;refine L g e9 fun v F' H' s pv=>⟨j,by rw[pv.int],⟨by omega,by omega,?_⟩,fun l hl=>wW s.gs.sub (Tu 0 (j-0).toNat) hl fun v F2 H2 xt rn=>k v F2 H2 (s.trans (xt.stp s.gs)) (.later s (rn.nj s.gs))⟩;rw[length_map,length_range]at b5;exact b5
end
end HH
end
section
namespace PySem
namespace F
theorem Gk:typeLookup (.type "list_reverseiterator") "__len__"=pure none:=by rw[typeLookup_type,builtinLookup_eq_fast];kernel_rfl
theorem Lp:typeLookup (.type "list_reverseiterator") "__length_hint__"=pure (some (.builtin "list_reverseiterator.__length_hint__")):=by rw[typeLookup_type,builtinLookup_eq_fast];kernel_rfl
end F
section
variable{prog:Program}{w:World}{A:Around}{E:Value->Shared->Prop}{s:Shared}
theorem pq{it l:Addr}{items:Array Value}{Q:Bool->Shared->Prop}(e:s.heap.IsRevIter it l ((items.size:Int)-1))(m:s.heap.IsList l items)(i:items.size<=2^24)(h:∀b j,s.toks<=j->Q b {s with toks:=j}):wpAny (model prog w) A (listLengthHint (.ref it)) Q E s:=by
 have f:=e.typeIs;unfold listLengthHint;refine wpAny_bind (wpAny_specialOf f F.Gk ?_);show wpAny _ _ (specialOf (Value.ref it) (Str.ofString "__length_hint__")>>=_) _ _ _;refine wpAny_bind (wpAny_specialOf f F.Lp ?_);generalize a:("list_reverseiterator.__length_hint__":String)=c;(fail_if_success(clear a c));wp_delta;rw[show splitId c=some ("list_reverseiterator","__length_hint__")from by subst a;decide+kernel];subst a;refine wpAny_bind (wpAny_isInstance (b:=true) f (by rw[isSubtype_type];kernel_rfl) ?_);rw[if_neg (by decide)];dsimp only;split;.refine wpAny_ite_split (fun g=>absurd g (by decide+kernel)) (fun _=>?_);exact wpAny_pure (h _ s.toks (dz))
 .rename_i k;exact absurd (by decide+kernel) k
theorem mC{R:Result->Shared->Prop}{I l:Addr}{items:Array Value}(Q:A.handled=none)(j:s.heap.IsRevIter I l ((items.size:Int)-1))(G:s.heap.IsList l items)(H:l≠I)(u:items.size<=2^24)(S:Addr)(m:S≠I)(x:S≠l)(res:Value)(k:Nat)(J:s.heap.get? S=some {cls:=.type "list",data:=.seq #[] k})(U:∀ h' y a t,(∀ b o,b ≠ S->b ≠ I->s.heap.get? b=some o->h'.get? b=some o)->h'.get? S=some {cls:=.type "list",dict:=none,data:=.seq a t,slots:=#[]}->ItemsOf (fun i v=>items[items.size-1-i]?=some v) a items.size->R (.ok (.ret res)) {s with heap:=h',toks:=y}):wpAny (model prog w) A.in1 (listExtendWith (.ref S) (.ref I) res) (fun fin n=>match fin with|.done f=>R (.ok f) n|.again t=>t.quiet=true/\codeAny (model prog w) A t R n) (fun e n=>R (.error e) n) s:=by
 have L:S∉[I,l]:=fun hm=>by
  rcases mem_cons.mp hm with e|hm;.exact m e
  .exact x (mem_singleton.mp hm)
 have W:=(Walks.listRev (prog:=prog) (w:=w) (A:=A.in1) Q I l H items).toS;have X:s.TypeIs (.ref I) "list_reverseiterator":=j.typeIs;have key:∀(h:Heap)(c y:Nat),h.IsRevIter I l ((items.size:Int)-1-((0:Nat):Int))->h.IsList l items->(∀b o,b≠S->s.heap.get? b=some o->h.get? b=some o)->h.get? S=some {cls:=.type "list",data:=.seq #[] c}->codeAny (model prog w) A (.builtin "list.extend.loop" ⟨[.ref S,.ref I,res],[]⟩) R {s with heap:=h,toks:=y}:=by
  intro h c y hi M Y p;refine codeAny_extend_loopS W (by rw[sizeLine_eq];omega) S L res items.size 0 _ #[] c rfl (vf) ⟨vf,hi,M⟩ p (ItemsOf.nil _) fun n a t hm N z=>?_;rw[Moved.eq_with hm];refine U n.heap n.toks a t (fun b o B O e=>hm.heap b o (fun hmem=>?_) (Y b o B e)) N z;rcases mem_cons.mp hmem with Z|hmem;.exact B Z
  .exact O (mem_singleton.mp hmem)
 unfold listExtendWith;refine wpAny_bind (wpAny_typeOf X ?_);have h1:listSameRef (.ref S) (.ref I)=false:=by simp[listSameRef,m]
 have h2:(Value.type "list_reverseiterator"==Value.type "list")=false:=by decide
 have h3:(Value.type "list_reverseiterator"==Value.type "tuple")=false:=by decide
 simp only[h1,h2,h3,Bool.or_false,false_eq_true,if_false];refine wpAny_bind (wpAny_pyIter_revIter j ?_);refine wpAny_bind (wpAny_holding (pq j G u fun bb y ac=>?_));have C:s.heap.IsRevIter I l ((items.size:Int)-1-((0:Nat):Int)):=by simpa using j
 refine wpAny_ite_split (fun _=>?_) (fun _=>wpAny_pure ⟨plainId_quiet F.plain_extend_loop _,key _ k _ C G (fun b o _ e=>e) J⟩);refine wpAny_bind (wpAny_rule ?_);refine wpAny_bind ?_;show wpAny _ _ (updateSeq S (·.push .none)>>=fun _=>updateSeq S (·.pop)) _ _ _;refine wpAny_bind (wpAny_updateSeq J rfl ?_);have g:=Heap.get?_update_self (Obj.mapSeq (·.push Value.none)) J rfl;refine wpAny_updateSeq (hz:=by seq_fits) g rfl ?_;have q:=Heap.get?_update_self (Obj.mapSeq (·.pop)) g rfl;have r:∀b o,b≠S->s.heap.get? b=some o->((s.heap.update S (Obj.mapSeq (·.push Value.none))).update S (Obj.mapSeq (·.pop))).get? b=some o:=fun b o B e=>(get?_update_other _ _ (Ne.symm B)).trans ((get?_update_other _ _ (Ne.symm B)).trans e);exact wpAny_pure ⟨plainId_quiet F.plain_extend_loop _,key _ _ _ (C.at fun o e=>r I o (Ne.symm m) e) (G.at fun o e=>r l o (Ne.symm x) e) r q⟩
end
end PySem
namespace L2
open PySem PySem.Spec PyProof.Rows
end L2
namespace HH
open PySem L2 PySem.Spec PyProof.Rows
end HH
end
section
namespace HH
open PySem
theorem mK:∀a b:List Int,bH a b=true->bH b a=false
 |[],[],h=>by simp[bH]at h|[],_::_,_=>by simp[bH]|_::_,[],h=>by simp[bH]at h|x::a,y::b,h=>by
   simp only[bH,or_eq_true,decide_eq_true_eq,and_eq_true]at h;simp only[bH,Bool.or_eq_false_iff,decide_eq_false_iff_not,Bool.and_eq_false_iff];rcases h with h|⟨h,h'⟩;.exact⟨by omega,.inl (by omega)⟩
   .exact⟨by omega,.inr (mK a b h')⟩
theorem zJ:∀a b c:List Int,bH b a=false->bH c b=false->bH c a=false
 |[],_,c,_,_=>by cases c<;>simp[bH]|_::_,[],_,h,_=>by simp[bH]at h|_::_,_::_,[],_,h=>by simp[bH]at h|x::a,y::b,z::c,h1,f=>by
   simp only[bH,Bool.or_eq_false_iff,decide_eq_false_iff_not,Bool.and_eq_false_iff]at h1 f ⊢;refine⟨by omega,?_⟩;by_cases e:z=x;.right;exact zJ a b c (h1.2.resolve_left (by omega)) (f.2.resolve_left (by omega))
   .exact .inl e
theorem xO:∀a b:List Int,bH a b=false->bH b a=false->a=b
 |[],[],_,_=>rfl|[],_::_,h,_=>by simp[bH]at h|_::_,[],_,h=>by simp[bH]at h|x::a,y::b,h1,c=>by
   simp only[bH,Bool.or_eq_false_iff,decide_eq_false_iff_not,Bool.and_eq_false_iff]at h1 c;have e:x=y:=by omega
   subst e;rw[xO a b (h1.2.resolve_left (by simp)) (c.2.resolve_left (by simp))]
theorem xU:∀{xs ys:List D},xs.all gO=true->ys.all gO=true->xs.map ou=ys.map ou->xs=ys
 |[],[],_,_,_=>rfl|[],_::_,_,_,h=>by simp at h|_::_,[],_,_,h=>by simp at h|x::xs,y::ys,h1,a,h=>by
   simp only[all_cons,and_eq_true]at h1 a;simp only[map_cons,List.cons.injEq]at h;obtain⟨i,rfl⟩:∃i,x=.int i:=by cases x<;>first|exact⟨_,rfl⟩|(have q:=h1.1;simp[gO]at q;done)
   obtain⟨j,rfl⟩:∃j,y=.int j:=by cases y<;>first|exact⟨_,rfl⟩|(have q:=a.1;simp[gO]at q;done)
   rw[xU h1.2 a.2 h.2,show i=j from h.1]
theorem Cy{x y:D}(h:(gO x=true/\gO y=true)\/(v7 x=true/\v7 y=true))(e:cR x=cR y):x=y:=by
 rcases h with⟨h1,a⟩|⟨h1,a⟩
 . cases x<;>first|(simp[gO]at h1;done)|skip
   cases y<;>first|(simp[gO]at a;done)|skip
   simpa[cR]using e
 . cases x<;>first|(simp[v7]at h1;done)|skip
   cases y<;>first|(simp[v7]at a;done)|skip
   rename_i xs ys;cases xs<;>first|(simp[v7]at h1;done)|skip
   cases ys<;>first|(simp[v7]at a;done)|skip
   rw[xU h1 a e]
noncomputable def mJ(a b:D):Bool:=!bH (cR b) (cR a)
theorem yf(a:List D):(Pu a).Perm a:=List.mergeSort_perm ..
theorem Mv(a b c:D)(h1:mJ a b=true)(e:mJ b c=true):mJ a c=true:=by simp only[mJ,not_eq_true']at*;exact zJ _ _ _ h1 e
theorem G8(a b:D):(mJ a b||mJ b a)=true:=by simp only[mJ,or_eq_true,not_eq_true'];cases h:bH (cR b) (cR a)with|false=>exact .inl rfl|true=>exact .inr (mK _ _ h)
theorem zH(c:List D):(Pu c).Pairwise fun a b=>mJ a b=true:=List.pairwise_mergeSort Mv G8 c
theorem uT{a:List D}(h:sortable a=true):∀x∈a,∀y∈a,cR x=cR y->x=y:=by
 simp only[sortable,and_eq_true,or_eq_true,all_eq_true]at h;intro x b y c e;rcases h.2 with h|h;.exact Cy (.inl ⟨h x b,h y c⟩) e
 .exact Cy (.inr ⟨h x b,h y c⟩) e
theorem qZ{c l:List D}(h:sortable c=true)(p:l.Perm c)(s:l.Pairwise fun a b=>mJ a b=true):l=Pu c:=by refine List.Perm.eq_of_pairwise (le:=fun a b=>mJ a b=true) (fun a b f g h1 e=>?_) s (zH c) (p.trans (yf c).symm);simp only[mJ,not_eq_true']at h1 e;exact uT h a (p.mem_iff.mp f) b ((yf c).mem_iff.mp g) (xO _ _ e h1)
end HH
end
section
namespace HH
open PySem PyProof.Rows
variable{xs:Array Keyed}{i:Nat}
structure Rk(M:Model)(A:Around)(E:Value->Shared->Prop)(s:Shared)(κ:SortKind)(ok:Keyed->Prop)(K:Keyed->Int):Prop where lt:∀{x y:Keyed}{Q:Option Bool->SortSt->Prop}{st:SortSt},ok x->ok y->kindOf st=κ->Q (some (decide (K x<K y))) st->wpS M A E s (lt' x y) Q st
section
variable{M:Model}{A:Around}{E:Value->Shared->Prop}{s:Shared}{κ:SortKind}{ok:Keyed->Prop}{K:Keyed->Int}
noncomputable def it(xs:Array Keyed)(i:Nat):Keyed:=xs.getD i (Value.none,Value.none)
theorem Lx(h:i<xs.size):xs[i]?=some (it xs i):=by unfold it;simp[Array.getD,h]
theorem Hy(h:i<xs.size):it xs i∈xs.toList:=by
 have:it xs i=xs[i]:=by unfold it;simp[Array.getD,h]
 rw[this];simp
theorem Ao{Q:Keyed->SortSt->Prop}{st:SortSt}(h:i<xs.size)(q:Q (it xs i) st):wpS M A E s (elem' xs i) Q st:=by rw[elem'_eq,Lx h];exact wpS_pure q
end
section
variable{K:Keyed->Int}
def Seg(K:Keyed->Int)(xs:Array Keyed)(lo hi:Nat):Prop:=∀i j,lo<=i->i<=j->j<hi->K (it xs i)<=K (it xs j)
theorem M9:it xs i=xs.toList.getD i (Value.none,Value.none):=by
 unfold it;by_cases h:i<xs.size;.simp[Array.getD,h]
 .simp[Array.getD,h]
end
section
variable{M:Model}{A:Around}{E:Value->Shared->Prop}{s:Shared}{κ:SortKind}{ok:Keyed->Prop}{K:Keyed->Int}
structure Sx(κ:SortKind)(ok:Keyed->Prop)(st:SortSt)(xs:Array Keyed)(st':SortSt):Prop where
 kind:kindOf st'=κ
 arr:arrOf st'=xs
 pend:pendingOf st'=pendingOf st
 fail:failedOf st'=none
 ok:∀x∈xs.toList,ok x
theorem KQ(R:Rk M A E s κ ok K){st a:SortSt}{j:Nat}{Q:Option Bool->SortSt->Prop}(h:Sx κ ok st xs a)(hi:i<xs.size)(b:j<xs.size)(q:Q (some (decide (K (it xs i)<K (it xs j)))) a):wpS M A E s (ltAt' i j) Q a:=by rw[ltAt'_eq];refine wpS_bind (wpS_get ?_);show wpS M A E s (elem' (arrOf a) i>>=fun x=>elem' (arrOf a) j>>=fun y=>lt' x y) Q a;rw[h.arr];exact wpS_bind (Ao hi (wpS_bind (Ao b (R.lt (h.ok _ (Hy hi)) (h.ok _ (Hy b)) h.kind q))))
theorem Rw(R:Rk M A E s κ ok K){st g:SortSt}{lo a n:Nat}{Q:Option (Option Nat)×Nat->SortSt->Prop}(h:Sx κ ok st xs g)(u:lo+n<=xs.size)(v:1<=a)(l:a<=n)(hs:Seg K xs lo (lo+a))(q:∀m,a<=m->m<=n->Seg K xs lo (lo+m)->(m=n\/K (it xs (lo+m))<K (it xs (lo+m-1)))->Q (none,m) g):wpS M A E s (forIn [a:n] ((none,a):Option (Option Nat)×Nat) fun _ c=>ltAt' (lo+c.2) (lo+c.2-1)>>=fun o=>match o with|some b=>if b=true then pure (.done (none,c.2))else pure (.yield (none,c.2+1))|_=>pure (.done (some none,c.2))) Q g:=by
 refine wpS_forRange (I:=fun x c k=>k=g/\c=(none,x)/\Seg K xs lo (lo+x)) ?_ ?_ ⟨rfl,rfl,hs⟩
 . rintro x c k h1 w⟨rfl,rfl,f⟩;try dsimp only
   refine wpS_bind (KQ R h (by omega) (by omega) ?_);by_cases c:K (it xs (lo+x))<K (it xs (lo+x-1))
   . rw[decide_eq_true c];try dsimp only
     rw[if_pos rfl];exact wpS_pure (q x h1 (by omega) f (.inr c))
   . rw[decide_eq_false c];try dsimp only
     rw[if_neg (by simp)];refine wpS_pure ⟨rfl,rfl,fun i j p r y=>?_⟩;by_cases t:j<lo+x;.exact f i j p r t
     . have:j=lo+x:=by omega
       subst this;by_cases e:i=lo+x;.rw[e];exact Int.le_refl _
       .have:=f i (lo+x-1) p (by omega) (by omega);omega
 .rintro c k⟨rfl,rfl,f⟩;rw[show max a n=n by omega]at f ⊢;exact q n l (dz) f (.inl rfl)
end
noncomputable abbrev Rn:=Nat×Nat×Nat
section
variable{K:Keyed->Int}{xs ys:Array Keyed}
def Yv(K:Keyed->Int)(xs:Array Keyed):Nat->List Rn->Nat->Prop|a,[],b=>a=b|a,r::l,b=>r.1=a/\1<=r.2.1/\Seg K xs a (a+r.2.1)/\Yv K xs (a+r.2.1) l b
theorem uB:∀{l k:List Rn}{a b:Nat},Yv K xs a (l++k) b↔∃m,Yv K xs a l m/\Yv K xs m k b
 |[],k,a,b=>⟨fun h=>⟨a,rfl,h⟩,fun⟨m,h1,c⟩=>by cases(show a=m from h1);exact c⟩|r::l,k,a,b=>by
   rw[cons_append];constructor;.rintro⟨h1,c,e,f⟩;obtain⟨m,g,j⟩:=uB.mp f;exact⟨m,⟨h1,c,e,g⟩,j⟩
   .rintro⟨m,⟨h1,c,e,f⟩,g⟩;exact⟨h1,c,e,uB.mpr ⟨m,f,g⟩⟩
end
section
variable{M:Model}{A:Around}{E:Value->Shared->Prop}{s:Shared}{κ:SortKind}{ok:Keyed->Prop}{K:Keyed->Int}
structure SR(κ:SortKind)(ok:Keyed->Prop)(K:Keyed->Int)(x0 ys:Array Keyed)(l:List Rn)(lo:Nat)(st:SortSt):Prop where
 kind:kindOf st=κ
 arr:arrOf st=ys
 fail:failedOf st=none
 pend:(pendingOf st).toList=l
 perm:ys.toList.Perm x0.toList
 ok:∀x∈ys.toList,ok x
 rns:Yv K ys 0 l lo
 le:lo<=ys.size
theorem SR.sx{x0 ys:Array Keyed}{l:List Rn}{lo:Nat}{st:SortSt}(h:SR κ ok K x0 ys l lo st):Sx κ ok st ys st:=⟨h.kind,h.arr,rfl,h.fail,h.ok⟩
end
end HH
end
section
namespace HH
open PySem PySem.W PyProof.Rows PySem.Calls L2 PySem.Spec
theorem Ni(a:List Int):bH a a=false:=by cases h:bH a a with|false=>rfl|true=>rw[mK _ _ h]at h;cases h
theorem Ih{a b x:List Int}(h:bH b a=false)(c:bH x a=true):bH x b=true:=by cases e:bH x b with|true=>rfl|false=>rw[zJ _ _ _ h e]at c;cases c
theorem tM{a:Type}{p q:a->Bool}(h:∀x,p x=true->q x=true):∀{l:List a},(∃x,x∈l/\q x=true/\p x=false)->l.countP p<l.countP q
 |[],⟨x,hx,_⟩=>by cases hx|y::l,⟨x,hx,h1,b⟩=>by
   rw[List.countP_cons,List.countP_cons];have m:=List.countP_mono_left (l:=l) (p:=p) (q:=q) fun x _=>h x;rcases mem_cons.mp hx with rfl|hx;.rw[h1,b,if_pos rfl,if_neg (by simp)];omega
   .have:=tM h ⟨x,hx,h1,b⟩;cases hp:p y with|true=>rw[h y hp];omega|false=>rw[if_neg (by simp)];omega
noncomputable def Su(a:List D)(d:D):Nat:=a.countP fun e=>bH (cR e) (cR d)
theorem IV{a:List D}{d e:D}(hd:d∈a):decide ((Su a d:Int)<Su a e)=bH (cR d) (cR e):=by cases h:bH (cR d) (cR e)with|true=>have:=tM (l:=a) (p:=fun x=>bH (cR x) (cR d)) (q:=fun x=>bH (cR x) (cR e)) (fun x b=>Ih (mK _ _ h) b) ⟨d,hd,h,Ni _⟩;rw[decide_eq_true_iff];unfold Su;omega|false=>have:=List.countP_mono_left (l:=a) (p:=fun x=>bH (cR x) (cR e)) (q:=fun x=>bH (cR x) (cR d)) fun x _ b=>Ih h b;rw[decide_eq_false_iff_not];unfold Su;omega
open Classical in
noncomputable def rkK(P:Value->D->Prop)(a:List D)(x:Keyed):Int:=if h:∃d,d∈a/\P x.1 d then(Su a h.choose:Int)else 0
theorem Cq{P:Value->D->Prop}{a:List D}{x:Keyed}{d:D}(fn:∀u d e,P u d->P u e->cR d=cR e)(hd:d∈a)(b:P x.1 d):rkK P a x=Su a d:=by have h:∃d,d∈a/\P x.1 d:=⟨d,hd,b⟩;unfold rkK;rw[dif_pos h];unfold Su;rw[fn _ _ _ h.choose_spec.2 b]
noncomputable def pick{a:Type}(d:a)(p:List Nat)(l:List a):List a:=p.map fun i=>l.getD i d
theorem mV{a:Type}(d:a)(l:List a):pick d (List.range l.length) l=l:=by refine ext_getElem (by simp[pick]) fun i h1 b=>?_;simp[pick,b]
theorem qx{a:Type}{d:a}{p:List Nat}{l:List a}{n:Nat}(h:p.Perm (List.range n)):(pick d p l).length=n:=by rw[pick,length_map,h.length_eq,length_range]
theorem kW{P:Value->D->Prop}:∀{b:List Value}{a:List D},Paired P b a->∀i,i<b.length->P (b.getD i .none) (a.getD i .non)/\a.getD i .non∈a|_,_,.cons r _,0,_=>⟨by simpa using r,by simp⟩|_,_,.cons _ t,i+1,hi=>by have:=kW t i (by simpa using hi);exact⟨by simpa using this.1,by simpa using Or.inr this.2⟩
end HH
end
section
namespace HH
open PySem L2 PySem.Spec PyProof.Rows PySem.Calls PySem.W
section
variable{prog:Program}{w:World}{A:Around}{E:Value->Shared->Prop}{s:Shared}{vs:List Value}{κ:SortKind}{P:Value->D->Prop}{ds:List D}
theorem oV{b fin:Bool}{Q:Bool->Shared->Prop}:∀{xs ys:List Value}{is js:List Int}{i:Nat},IntsAre xs is->IntsAre ys js->fin=decide (is.length<js.length)->Q (bH is js) s->KatLex prog w A b fin Q (xs.zip ys) i s
 |_,_,_,_,_,.nil,.nil,e,h=>by subst e;exact kat_nil (by simpa[bH]using h)|_,_,_,_,_,.nil,.cons _ _ _,e,h=>by subst e;exact kat_nil (by simpa[bH]using h)|_,_,_,_,_,.cons _ _ _,.nil,e,h=>by subst e;exact kat_nil (by simpa[bH]using h)|_,_,_,_,i,.cons (ns:=is) x t r,.cons (ns:=js) y u r',e,h=>by
   refine kat_cons (wpAny_eqBool_int ?_);by_cases q:x=y;.subst q;rw[beq_self_eq_true];refine kat_yes (oV r r' (by rw[e];simp) ?_);simpa[bH]using h
   . rw[beq_eq_false_iff_ne.mpr q];refine kat_no ?_;have a:Q (decide (x<y)) s:=by simpa[bH,q]using h
     cases(b&&i==0)with|true=>exact oneLt_int a|false=>exact kat_one _ _ (wpAny_lt_int a)
def pg(h:Heap)(u:Value)(d:D):Prop:=∃a b is,u=.ref a/\IsTup h a (List.toArray b)/\IntsAre b is/\is≠[]/\cR d=is
theorem ni{h h':Heap}(k:∀b o,h.get? b=some o->h'.get? b=some o){u:Value}{d:D}(t:pg h u d):pg h' u d:=by obtain⟨a,c,is,e,⟨o,h1,f⟩,g⟩:=t;exact⟨a,c,is,e,⟨o,k _ _ h1,f⟩,g⟩
theorem sU{h h':Heap}(k:∀b o,h.get? b=some o->h'.get? b=some o):∀{a:List Value}{ds:List D},Paired (pg h) a ds->Paired (pg h') a ds|_,_,.nil=>.nil|_,_,.cons r t=>.cons (ni k r) (sU k t)
theorem oJ{h:Heap}:∀{b:List Value}{ds:List D},Paired (pg h) b ds->∃fs,KatTups h b fs/\fs.length=b.length/\∀f∈fs,∃n t,f=Value.int n t|_,_,.nil=>⟨[],trivial,rfl,by simp⟩|_,_,.cons r t=>by obtain⟨fs,h1,e,g⟩:=oJ t;obtain⟨a,i,is,rfl,⟨o,j,k,n,l⟩,hi,c,_⟩:=r;cases hi with|nil=>exact absurd rfl c|cons x m p=>
     refine⟨.int x m::fs,KatTups.cons j k l (by simp) h1,by simp[e],fun f hf=>?_⟩;rcases mem_cons.mp hf with rfl|hf;.exact⟨_,_,rfl⟩
     .exact g f hf
theorem Em{ds:List D}(t:Paired (pg s.heap) vs ds)(e:2<=vs.length){C:SortKind->Shared->Prop}(a:C (tuples' (Value.type "int"!=Value.type "tuple")) s):wpAny (model prog w) A (keyKind' vs.toArray) C E s:=by obtain⟨fs,h1,f,b⟩:=oJ t;refine kat_kind (T:=.type "int") h1 (by omega) (fun v c=>?_) rfl a;obtain⟨n,t,rfl⟩:=b v c;exact Looks.now
theorem KN{x y:Value}{d e:D}(h:pg s.heap x d)(i:pg s.heap y e){b:Bool}{C:Bool->Shared->Prop}(c:C (bH (cR d) (cR e)) s):wpAny (model prog w) A (keyLt' (tuples' b) x y) C E s:=by obtain⟨a,j,is,rfl,⟨o,k,r,n,l⟩,hi,m,p⟩:=h;obtain⟨t,its',js,rfl,⟨u,p1,p2,v,p3⟩,f,g,q⟩:=i;refine kat_lt k l p1 p3 ?_;rw[p,q]at c;refine oV (is:=is) (js:=js) (by simpa using hi) (by simpa using f) ?_ c;rw[size_toArray,size_toArray,IntsAre.length hi,IntsAre.length f]
end
theorem Ey{xs:List V}{a:List Value}(h:Vals xs a)(i:Nat):RelV (xs.getD i .non) (a.getD i .none):=by
 have f:=h.length;by_cases hi:i<xs.length
 . obtain⟨u,e,r⟩:=h.get (i:=i) (x:=xs[i]) (getElem?_eq_getElem hi);have b:xs.getD i .non=xs[i]:=by simp[hi]
   have c:a.getD i .none=u:=by simp[e]
   rw[b,c];exact r
 . have b:xs.getD i .non=.non:=by simp[Nat.le_of_not_lt hi]
   have c:a.getD i .none=.none:=by simp[show a.length<=i by omega]
   rw[b,c];rfl
theorem wI{f:Nat->V}{g:Nat->Value}(h:∀i,RelV (f i) (g i)):∀l:List Nat,Vals (l.map f) (l.map g)|[]=>.nil|i::l=>.cons (h i) (wI h l)
theorem JD{p:List Nat}{xs:List V}{a:List Value}(h:Vals xs a):Vals (pick .non p xs) (pick .none p a):=wI (Ey h) _
theorem xx{K:PySem.W.Frag}{F:Hp}{f:Nat->V}{g:Nat->D}(h:∀i,Rep K F (f i) (g i)):∀l:List Nat,aG K F (l.map f) (l.map g)|[]=>.nil|i::l=>.cons (h i) (xx h l)
theorem GZ{K:PySem.W.Frag}{F:Hp}{p:List Nat}{xs:List V}{a:List D}(h:aG K F xs a):aG K F (pick .non p xs) (pick .non p a):=xx (fun i=>by
 have f:=h.length;by_cases hi:i<a.length
 . obtain⟨u,e,r⟩:=h.get (i:=i) (d:=a[i]) (getElem?_eq_getElem hi);have b:a.getD i .non=a[i]:=by simp[hi]
   have c:xs.getD i .non=u:=by simp[e]
   rw[b,c];exact r
 . have b:a.getD i .non=.non:=by simp[Nat.le_of_not_lt hi]
   have c:xs.getD i .non=.non:=by simp[show xs.length<=i by omega]
   rw[b,c,Rep]) _
theorem GJ{a:List Value}:∀{ns b:List Int},IntsAre a ns->IntsAre a b->ns=b:=by induction a with|nil=>intro ns b h1 c;cases h1;cases c;rfl|cons u a e=>intro ns b h1 c;cases h1 with|cons n t r=>cases c with|cons m t' f=>rw[e r f]
theorem MJ{h:Heap}(u:Value)(d e:D):pg h u d->pg h u e->cR d=cR e:=fun⟨a,f,is,h1,⟨o,g,r,n,i⟩,j,_,k⟩⟨b,l,js,c,⟨s,p1,p2,m,p3⟩,p,_,q⟩=>by rw[h1]at c;cases c;rw[g]at p1;cases p1;rw[i]at p3;cases p3;rw[k,q,GJ j p]
theorem all_ints:∀{a:List D},a.all gO=true->a=(a.map ou).map D.int
 |[],_=>rfl|d::a,h=>by
   simp only[all_cons,and_eq_true]at h;cases d<;>first|(have q:=h.1;simp[gO]at q;done)|skip
   rw[map_cons,map_cons,<-all_ints h.2];rfl
theorem intsAre_of:∀{ns:List Int}{a:List Value},Vals (ns.map V.int) a->IntsAre a ns|[],_,.nil=>.nil|n::ns,_,.cons r t=>by obtain⟨b,rfl⟩:=r;exact .cons n b (intsAre_of t)
section
variable{X:Cx}{c:Call}{a:Expr}{pa:P}{pos:Pos}
theorem boot_sorted:bootBuiltins "sorted"=some (.builtin "sorted"):=by decide+kernel
end
end HH
end
section
namespace HH
open PySem L2 PySem.Spec PyProof.Rows PySem.Calls
theorem yz(l b:Addr)(items a:List Value)(n H:Nat)(I o:Option Addr)(sl r:Array (Option Value))(is js:List Int)(hi:IntsAre items is)(G:IntsAre a js):Meets (Builtin.«tuple.__lt__» ⟨[.ref l,.ref b],[]⟩) (fun A R s=>s.heap.get? l=some {cls:=.type "tuple",dict:=I,data:=.seq items.toArray n,slots:=sl}/\s.heap.get? b=some {cls:=.type "tuple",dict:=o,data:=.seq a.toArray H,slots:=r}/\R (.ok (.ret (.bool (bH is js)))) s):=.of_wp fun prog w A R s h=>by
  obtain⟨v,g,d,z,os⟩:=s;obtain⟨J,L,h⟩:=h;have f2:=AutoSeq1.sub_tuple_tuple;wp_walk using wpAny_loadPart' J,wpAny_loadPart' L,wpAny_forIn_list _ (fun f b B=>b.1=none/\B=⟨v,g,d,z,os⟩/\∃xs ys c j,f=xs.zip ys/\IntsAre xs c/\IntsAre ys j/\decide (items.length<a.length)=decide (c.length<j.length)/\R (.ok (.ret (.bool (bH c j)))) ⟨v,g,d,z,os⟩) _;case turn=>rintro⟨y,x⟩f b B⟨i,rfl,xs,ys,c,j,hz,h1,k,C,m⟩;cases h1 with|nil=>cases hz|cons p t h1=>cases k with|nil=>cases hz|cons q u k=>
       injection hz with hyx hrest;cases hyx;refine wpAny_bind (wpAny_eqBool_int ?_);by_cases e:p=q;.subst e;rw[beq_self_eq_true];wp_walk;exact⟨rfl,rfl,_,_,_,_,hrest,h1,k,by rw[C];simp,by simpa[bH]using m⟩
       . rw[beq_eq_false_iff_ne.mpr e];have E:R (.ok (.ret (.bool (decide (p<q))))) ⟨v,g,d,z,os⟩:=by simpa[bH,e]using m
         simp only[Bool.not_false,if_true];refine wpAny_bind (wpAny_rule ?_);refine wpAny_bind (show wpAny (model prog w) A.in1 (compareOp .Lt (Value.int p t) (Value.int q u)) _ _ _ from wpAny_lt_int ?_);refine wpAny_bind (wpAny_pure ?_);exact wpAny_pure (wpAny_pure ⟨_,rfl,E⟩)
  case fin=>
   rintro⟨b1,b2⟩B⟨i,rfl,xs,ys,c,j,hz,h1,k,C,m⟩;simp only at i;subst i;have e:bH c j=decide (items.length<a.length):=by rw[C];cases h1 with|nil=>cases k<;>simp[bH]|cons _ _ _=>cases k with|nil=>simp[bH]|cons _ _ _=>cases hz
   rw[e]at m;wp_walk;exact⟨_,rfl,by simpa[Builtin.Tuple.tupleCompareSizes]using m⟩
  case h=>exact⟨rfl,rfl,items,a,is,js,by simp,hi,G,by rw[IntsAre.length hi,IntsAre.length G],h⟩
section
variable{X:Cx}
theorem uD(hu:X.A.units+8<cLine):gb X (compareOp .Lt) (rD X.K (qD .lt)):=by rintro f s σ H x y v u Q I E G⟨F,d,e,r,sm,J,L,he,k⟩;obtain⟨t,c,p⟩:=map_some (show(Xz d e).map _=some r from he);subst p;cases d with
 |int i=>cases e with|int j=>exact Uo f s σ H x y v u Q I E G ⟨F,.int i,.int j,_,sm,J,L,by have p:Km (fun i j=>decide (i<j)) (.int i) (.int j)=some t:=c;simp only[p];rfl,k⟩|_=>cases c
 |tup xs=>cases e with|tup ys=>obtain⟨hc,c⟩:=bz (show(if(xs.all gO&&ys.all gO)=true then some (bH (xs.map ou) (ys.map ou))else none)=some t from c);rw[and_eq_true]at hc;obtain⟨a,vs,rfl,h1,M,_⟩:=J.tup sm;obtain⟨b,ws,rfl,Y,N,_⟩:=L.tup sm;cases E;cases G;obtain⟨q,O,it,_⟩:=I.tuple h1;obtain⟨g,U,z,_⟩:=I.tuple Y;rw[all_ints hc.1]at M;rw[all_ints hc.2]at N;rw[jq M]at O;rw[jq N]at U;have Z:=intsAre_of O;have i2:=intsAre_of U;obtain⟨⟨cls,dd,data,sl⟩,ho,h,n,hd⟩:=it;obtain⟨⟨W,B,data2,C⟩,l,m,n2,o⟩:=z;simp only at h hd m o;subst h hd m o;refine(show wpAny (model X.prog X.w) X.A (richCompare .Lt (.ref a) (.ref b)) _ _ s from richCompare_meets_room (op:=.Lt) ⟨_,ho,rfl⟩ ⟨_,l,rfl⟩ PySem.F.slot_tuple_lt PySem.F.entry_tuple_lt (PySem.F.args_tuple_lt_2 _ _) (yz a b q g n n2 dd B sl C _ _ Z i2) ⟨ho,l,show Value.bool _≠Value.notImplemented/\_ from⟨(fun x=>nomatch x),⟨.bl t,H,I,by rw[<-c];rfl,cj.cX sm (fu _) k⟩⟩⟩ (by omega))|_=>cases c
 |_=>cases c
end
end HH
end
section
namespace L2
open PySem PySem.Spec PyProof.Rows
variable{y:V}{w:World}{H:Hp}{Q:Value->Shared->Prop}{pos:Pos}{X:Cx}
section
variable{κ:Type}[DecidableEq κ]
noncomputable def jk(kvs:List (κ×V))(k:κ):Option V:=(kvs.find? fun a=>decide (a.1=k)).map (·.2)
noncomputable def putK(kvs:List (κ×V))(k:κ)(v:V):List (κ×V):=if(kvs.any fun a=>decide (a.1=k))=true then kvs.map (fun a=>if a.1=k then(a.1,v)else a)else kvs++[(k,v)]
theorem mZ{p:κ×V}{r:List (κ×V)}{k:κ}(e:p.1=k):jk (p::r) k=some p.2:=by simp[jk,find?_cons,e]
theorem mz{p:κ×V}{r:List (κ×V)}{k:κ}(e:¬ p.1=k):jk (p::r) k=jk r k:=by simp[jk,find?_cons,e]
theorem qQ(k:κ):∀kvs:List (κ×V),(kvs.any fun a=>decide (a.1=k))=(jk kvs k).isSome
 |[]=>rfl|p::r=>by
   rw[any_cons];by_cases e:p.1=k;.simp only[mZ e,decide_eq_true e,Bool.true_or,Option.isSome_some]
   .rw[mz e,decide_eq_false e,Bool.false_or];exact qQ k r
theorem jA(kvs:List (κ×V))(k:κ)(v:V):(putK kvs k v).length<=kvs.length+1:=by
 unfold putK;split;.rw[length_map];omega
 .rw[length_append,length_cons,length_nil];omega
theorem pD.iK{o:Option V}{u:Option Value}(r:pD o u):o.isSome=u.isSome:=by cases o with
 |none=>cases u with|none=>rfl|some _=>exact(show False from r).elim
 |some _=>cases u with|none=>exact(show False from r).elim|some _=>rfl
theorem pD.getD{o:Option V}{u:Option Value}{d:V}{d':Value}(r:pD o u)(a:RelV d d'):RelV (o.getD d) (u.getD d'):=by cases o with
 |none=>cases u with|none=>exact a|some _=>exact(show False from r).elim
 |some _=>cases u with|none=>exact(show False from r).elim|some _=>exact r
theorem KV.val{kvs:List (κ×V)}{vs:List (κ×Value)}(r:KV kvs vs)(k:κ):pD (jk kvs k) (valueAt vs k):=by unfold KV at r;induction r with|nil=>exact True.intro|@cons p q ps a h t f=>
   obtain⟨h1,g⟩:=h;by_cases e:p.1=k
   . have c:q.1=k:=h1.symm.trans e;have b:valueAt (q::a) k=some q.2:=by simp[valueAt,find?_cons,c]
     rw[mZ e,b];exact g
   . have c:¬ q.1=k:=fun z=>e (h1.trans z);have b:valueAt (q::a) k=valueAt a k:=by simp[valueAt,find?_cons,c]
     rw[mz e,b];exact f
theorem KV.any{kvs:List (κ×V)}{vs:List (κ×Value)}(r:KV kvs vs)(k:κ):(kvs.any fun a=>decide (a.1=k))=vs.any fun a=>decide (a.1=k):=by unfold KV at r;induction r with|nil=>rfl|cons h t b=>rw[any_cons,any_cons,b,h.1]
theorem KV.repl{kvs:List (κ×V)}{vs:List (κ×Value)}(r:KV kvs vs)(k:κ){u:Value}(b:RelV y u):KV (kvs.map fun a=>if a.1=k then(a.1,y)else a) (vs.map fun a=>if a.1=k then(a.1,u)else a):=by unfold KV at r ⊢;induction r with|nil=>exact .nil|@cons p q ps g h t c=>
   rw[map_cons,map_cons];refine .cons ?_ c;obtain⟨h1,f⟩:=h;by_cases e:p.1=k;.rw[if_pos e,if_pos (h1.symm.trans e)];exact⟨h1,b⟩
   .rw[if_neg e,if_neg (fun z=>e (h1.trans z))];exact⟨h1,f⟩
theorem KV.put{kvs:List (κ×V)}{vs:List (κ×Value)}(r:KV kvs vs)(k:κ){u:Value}(a:RelV y u):KV (putK kvs k y) (stored vs k u):=by
 unfold putK stored;rw[r.any k];by_cases e:(vs.any fun b=>decide (b.1=k))=true;.rw[if_pos e,if_pos e];exact r.repl k a
 .rw[if_neg e,if_neg e];exact Paired.snoc r ⟨rfl,a⟩
theorem KV.length{kvs:List (κ×V)}{vs:List (κ×Value)}(r:KV kvs vs):kvs.length=vs.length:=Paired.length r
end
theorem qC{P:Program}{k:Key}{u:Value}(r:RelV (kV k) u):(bh P w).is k u=true:=by cases k with|inl i=>obtain⟨t,e⟩:=(show ∃t,u=Value.int i t from r);subst e;exact wR P w i t|inr x=>obtain⟨t,e⟩:=(show ∃t,u=Value.str x t from r);subst e;exact xQ P w x t
theorem tG{P:Program}{w:World}:∀{ks:List Key}{a:List Value},Vals (ks.map kV) a->ItemsAre (bh P w) ks a|[],_,r=>by rw[map_nil]at r;cases r;exact .nil|k::ks,_,r=>by rw[map_cons]at r;cases r with|cons h t=>exact .cons (qC h) (tG t)
abbrev KT(H:Hp):List (List Key×V)->List (List Key×Addr×Value)->Prop:=Paired fun p q=>p.1=q.1/\H q.2.1=some (.tup (p.1.map kV))/\RelV p.2 q.2.2
theorem KT.val{kvs:List (List Key×V)}{xs:List (List Key×Addr×Value)}(r:KT H kvs xs)(k:List Key):pD (jk kvs k) ((atKey xs k).map (·.2)):=by induction r with|nil=>exact True.intro|@cons p q ps a h t f=>
   obtain⟨h1,_,g⟩:=h;by_cases e:p.1=k
   . have c:q.1=k:=h1.symm.trans e;have b:atKey (q::a) k=some q.2:=by simp[atKey,find?_cons,c]
     rw[mZ e,b];exact g
   . have c:¬ q.1=k:=fun z=>e (h1.trans z);have b:atKey (q::a) k=atKey a k:=by simp[atKey,find?_cons,c]
     rw[mz e,b];exact f
theorem KT.repl{kvs:List (List Key×V)}{xs:List (List Key×Addr×Value)}(r:KT H kvs xs)(k:List Key){u:Value}(c:RelV y u):KT H (kvs.map fun a=>if a.1=k then(a.1,y)else a) (xs.map (putAt k u)):=by induction r with|nil=>exact .nil|@cons p q ps i h t f=>
   rw[map_cons,map_cons];refine .cons ?_ f;obtain⟨h1,b,g⟩:=h;unfold putAt;by_cases e:p.1=k;.rw[if_pos e,if_pos (h1.symm.trans e)];exact⟨h1,b,c⟩
   .rw[if_neg e,if_neg (fun z=>e (h1.trans z))];exact⟨h1,b,g⟩
theorem KT.put{kvs:List (List Key×V)}{xs:List (List Key×Addr×Value)}(r:KT H kvs xs)(k:List Key){b:Addr}{u:Value}(c:H b=some (.tup (k.map kV)))(a:RelV y u):KT H (putK kvs k y) (storedH xs k b u):=by
 have e:(kvs.any fun f=>decide (f.1=k))=(atKey xs k).isSome:=by rw[qQ,(r.val k).iK,isSome_map]
 unfold putK storedH;rw[e];by_cases q:(atKey xs k).isSome=true;.rw[if_pos q,if_pos q];exact r.repl k a
 .rw[if_neg q,if_neg q];exact Paired.snoc r ⟨rfl,c,a⟩
theorem KT.keeps{a:Hp}{kvs:List (List Key×V)}{xs:List (List Key×Addr×Value)}(r:KT H kvs xs)(ht:∀b ys,H b=some (.tup ys)->a b=some (.tup ys)):KT a kvs xs:=Paired.Ua r fun _ _ z=>⟨z.1,ht _ _ z.2.1,z.2.2⟩
section
variable{P:Program}{w:World}{H:Hp}{h:Heap}{a:Addr}
theorem O8{u:HO}(ok:m7 P w H h)(e:Rd H a u):bJ P w H h a u:=e.ok ok
theorem qI{kvs:List (Key×V)}(ok:m7 P w H h)(e:Rd H a (.dK kvs)):kvs.length<=sizeLine/\(a==sysModules)=false/\∃vs,KV kvs vs/\h.DictOf (bh P w) a vs:=show bJ P w H h a (.dK kvs)from O8 ok e
theorem PB{kvs:List (Key×V)}(ok:m7 P w H h)(e:H a=some (.dK kvs)):kvs.length<=sizeLine/\(a==sysModules)=false/\∃vs,KV kvs vs/\h.DictOf (bh P w) a vs:=qI ok (.inl e)
theorem nY{ks:List Key}(ok:m7 P w H h)(e:H a=some (.tup (ks.map kV))):(tupleKind (bh P w)).is h ks a:=by obtain⟨_,b,r,o,h1,c,n,f⟩:=(show bJ P w H h a (.tup (ks.map kV))from ok a _ e);exact⟨o,b.toArray,n,h1,c,f,by simpa using tG r⟩
theorem p7{kvs:List (List Key×V)}(ok:m7 P w H h)(e:Rd H a (.dT kvs)):kvs.length<=sizeLine/\(a==sysModules)=false/\∃xs,KT H kvs xs/\h.DictOfH (tupleKind (bh P w)) a xs:=by
 obtain⟨z,y,xs,r,o,es,ep,h1,c,f,g,i⟩:=(show bJ P w H h a (.dT kvs)from O8 ok e);refine⟨z,y,xs,r,o,es,ep,h1,c,f,g,fun x hx=>?_,i⟩;have all:∀{l:List (List Key×V)}{m:List (List Key×Addr×Value)},KT H l m->∀x∈m,(tupleKind (bh P w)).is h x.1 x.2.1:=by intro l m q;induction q with|nil=>intro x hx;exact nomatch hx|@cons p q ps k b t j=>
    intro x hx;rcases mem_cons.mp hx with e|hx;.subst e;exact nY ok (by rw[<-b.1];exact b.2.1)
    .exact j x hx
 exact all r x hx
theorem Xy{kvs:List (List Key×V)}(ok:m7 P w H h)(e:H a=some (.dT kvs)):kvs.length<=sizeLine/\(a==sysModules)=false/\∃xs,KT H kvs xs/\h.DictOfH (tupleKind (bh P w)) a xs:=p7 ok (.inl e)
end
def n6(H:Hp)(a:Addr)(y:V)(r:Option V):Prop:=(∃kvs k,Rd H a (.dK kvs)/\y=kV k/\r=jk kvs k)\/∃kvs k b,Rd H a (.dT kvs)/\y=.ref b/\H b=some (.tup (k.map kV))/\r=jk kvs k
def Zh(H:Hp)(a:Addr)(y v:V)(c:Hp):Prop:=(∃kvs k,H a=some (.dK kvs)/\y=kV k/\kvs.length<sizeLine/\c=upd H a (.dK (putK kvs k v)))\/∃kvs k b,H a=some (.dT kvs)/\y=.ref b/\H b=some (.tup (k.map kV))/\kvs.length<sizeLine/\c=upd H a (.dT (putK kvs k v))
section
variable{X:Cx}{pins:List (Addr×Obj)}{σ:St}{H:Hp}{s:Shared}{a:Addr}{y v:V}{u r:Value}{o:Option V}{A:Around}{E:Value->Shared->Prop}
theorem Inv.big(I:Inv X pins σ H s):sysModules<s.heap.objs.size:=by have h:mainGlobals<s.heap.objs.size:=(I.mod.glob.keeps I.bk).lt;exact Nat.lt_trans (by decide) h
theorem nP(B:A.units+1<cLine)(I:Inv X pins σ H s)(g:n6 H a y (some v))(t:RelV y u)(h:∀f x,Inv X pins σ H x->RelV v f->Q f x):wpAny (model X.prog X.w) A (getItem (.ref a) u) Q E s:=by
 rcases g with⟨kvs,k,e,i,l⟩|⟨kvs,k,b,e,i,C,l⟩;.subst i;obtain⟨z,hd,vs,c,j⟩:=qI I.hok e;obtain⟨f,m,n⟩:=pD.some_of (v:=v) (o:=valueAt vs k) (by rw[l];exact c.val k);exact wpAny_getItem_of (qC t) j.mapOf m (h f _ (I.tok _) n)
 .subst i;cases(show u=Value.ref b from t);obtain⟨z,hd,xs,c,j⟩:=p7 I.hok e;obtain⟨f,m,n⟩:=pD.some_of (v:=v) (o:=(atKey xs k).map (·.2)) (by rw[l];exact c.val k);obtain⟨p,G,q⟩:=map_eq_some_iff.mp m;refine wpAny_getItem_heap (tupleKind_room_in1 B) (nY I.hok C) j G ?_;rw[q];exact h f _ (I.tok _) n
theorem YK(n:A.units+1<cLine)(I:Inv X pins σ H s)(g:n6 H a y o)(j:RelV y u)(h:∀m,Inv X pins σ H m->Q (.bool o.isSome) m):wpAny (model X.prog X.w) A (compareOp .In u (.ref a)) Q E s:=by
 rcases g with⟨kvs,k,e,f,l⟩|⟨kvs,k,b,e,f,p,l⟩;.subst f;obtain⟨z,hd,vs,c,i⟩:=qI I.hok e;refine wpAny_in_of (qC j) hd i.mapOf ?_;rw[<-(c.val k).iK,<-l];exact h _ (I.tok _)
 .subst f;cases(show u=Value.ref b from j);obtain⟨z,hd,xs,c,i⟩:=p7 I.hok e;refine wpAny_in_heap (tupleKind_room_in1 n) (nY I.hok p) hd i ?_;have q:=(c.val k).iK;rw[isSome_map]at q;rw[<-q,<-l];exact h _ (I.tok _)
theorem Am(n:A.units+1<cLine)(I:Inv X pins σ H s)(g:n6 H a y o)(j:RelV y u)(h:∀m,Inv X pins σ H m->Q (.bool (!o.isSome)) m):wpAny (model X.prog X.w) A (compareOp .NotIn u (.ref a)) Q E s:=by
 rcases g with⟨kvs,k,e,f,l⟩|⟨kvs,k,b,e,f,p,l⟩;.subst f;obtain⟨z,hd,vs,c,i⟩:=qI I.hok e;refine wpAny_notIn_of (qC j) hd i.mapOf ?_;rw[<-(c.val k).iK,<-l];exact h _ (I.tok _)
 .subst f;cases(show u=Value.ref b from j);obtain⟨z,hd,xs,c,i⟩:=p7 I.hok e;refine wpAny_notIn_heap (tupleKind_room_in1 n) (nY I.hok p) hd i ?_;have q:=(c.val k).iK;rw[isSome_map]at q;rw[<-q,<-l];exact h _ (I.tok _)
theorem vI{h':Heap}{t':Nat}{c:HO}(I:Inv X pins σ H s)(g:ZR (H a))(hs:SameBut a s.heap h')(he:∃q,h'.get? a=some q)(f:bJ X.prog X.w (upd H a c) h' a c):Inv X pins σ (upd H a c) {s with heap:=h',toks:=t'}:=I.write (x:=a) (e:=a) g (.inl rfl) (fun b q h z=>(hs.2 b h).trans z) he f
theorem JB{P:Program}{c:Hp}{h':Heap}{kvs:List (Key×V)}{vs:List (Key×Value)}(z:kvs.length<=sizeLine)(hd:(a==sysModules)=false)(b:KV kvs vs)(e:h'.DictOf (bh P w) a vs):bJ P w c h' a (.dK kvs):=⟨z,hd,vs,b,e⟩
theorem Fq{x:Hp}{Q:Unit->Shared->Prop}(M:A.units+1<cLine)(I:Inv X pins σ H s)(g:Zh H a y v x)(B:RelV y u)(C:RelV v r)(h:∀G,Inv X pins σ x G->Q () G):wpAny (model X.prog X.w) A (setItem (.ref a) u r) Q E s:=by
 rcases g with⟨kvs,k,e,m,l,n⟩|⟨kvs,k,b,e,m,J,l,n⟩
 . subst m n;obtain⟨z,hd,vs,f,p⟩:=PB I.hok e;have hz:vs.length<=sizeLine:=by rw[<-f.length];exact z
   have t:(putK kvs k v).length<=sizeLine:=by have:=jA kvs k v;omega
   refine wpAny_setItem_pairs (hsz:=hz) (qC B) p fun h' i hs=>h _ ?_;have he:∃q,h'.get? a=some q:=let⟨q,_,_,j,_⟩:=i;⟨q,j⟩;exact vI I (by rw[e];exact True.intro) hs he (JB t hd (f.put k C) i)
 . subst m n;cases(show u=Value.ref b from B);obtain⟨z,hd,xs,f,p⟩:=Xy I.hok e;have hz:xs.length<=sizeLine:=by rw[<-Paired.length f];exact z
   have t:(putK kvs k v).length<=sizeLine:=by have:=jA kvs k v;omega
   refine wpAny_setItem_heap (hsz:=hz) (tupleKind_room_in1 M) (nY I.hok J) p fun h' i hs=>h _ ?_;obtain⟨q,es,ep,j,N,O,U,_,W⟩:=i;refine vI I (by rw[e];exact True.intro) hs ⟨q,j⟩ ⟨t,hd,_,(f.put k J C).keeps fun c ys L=>?_,q,es,ep,j,N,O,U,W⟩;rw[aD (Yq L e (fun z=>nomatch z))];exact L
end
def Lh(i:Expr):Prop:=∀a iv,subscripted i false a iv=operate [a,iv] (getItem a iv)
theorem BR{prog:Program}{A:Around}{E:Value->Shared->Prop}{s:Shared}{env:Env}{a slice:Expr}{T id:String}(l:typeLookup (.type T) "__getitem__"=pure (some (.builtin id)))(hs:Lh slice)(h:wpAny (model prog w) A (eval a env) (fun o e=>wpAny (model prog w) A (eval slice env) (fun i b=>b.TypeIs o T/\wpAny (model prog w) A (getItem o i) Q E b) E e) E s):wpAny (model prog w) A (eval (.Subscript a slice pos) env) Q E s:=by
 refine Subscript_ (wpAny_mono h (fun o e g=>wpAny_mono g (fun i b c=>?_) fun _ _ x=>x) fun _ _ x=>x);obtain⟨k,c⟩:=c;unfold subscriptTail;refine wpAny_bind ?_;rw[getitemInPython_of_ne k.not_modules];refine wpAny_bind (wpAny_specialOf k l ?_);have fin:wpAny (model prog w) A (subscripted slice false o i) (fun r f=>wpAny (model prog w) A (letTemporaryGo a o r>>=fun _=>pure r) Q E f) E b:=by rw[hs o i];exact wpAny_operating (wpAny_mono c (fun r f j=>wpAny_bind (wpAny_letTemporaryGo (wpAny_pure j))) fun _ _ x=>x)
 first|exact wpAny_pure (wpAny_bind fin)|exact wpAny_bind (wpAny_pure (wpAny_bind fin))|exact wpAny_bind fin
theorem jQ{c:List (Addr×Obj)}{σ:St}{s:Shared}{a:Addr}{o:Option V}(I:Inv X c σ H s)(g:n6 H a y o):s.TypeIs (.ref a) "dict":=by
 rcases g with⟨kvs,k,e,_,_⟩|⟨kvs,k,b,e,_,_,_⟩;.obtain⟨_,_,vs,_,f⟩:=qI I.hok e;exact f.typeIs
 .obtain⟨_,_,xs,_,f⟩:=p7 I.hok e;exact f.typeIs
def YW(c ty:TE):TE:=fun σ H Q=>c σ H fun x e=>ty σ e fun y b=>∃a v,x=.ref a/\n6 b a y (some v)/\Q v b
def acK(ty c:TE):TE:=fun σ H Q=>ty σ H fun y e=>c σ e fun x b=>∃a o,x=.ref a/\n6 b a y o/\Q (.bl o.isSome) b
def Ml(ty c:TE):TE:=fun σ H Q=>ty σ H fun y e=>c σ e fun x b=>∃a o,x=.ref a/\n6 b a y o/\Q (.bl (!o.isSome)) b
def Yw(c ty e:TE):TS:=fun D σ H=>e σ H fun v f=>c σ f fun x g=>ty σ g fun y h=>∃a b,x=.ref a/\Zh h a y v b/\D.nx σ b
section
variable{X:Cx}{o i e value:Expr}{pos pos' tpos:Pos}{td ty tv:TE}
theorem KY(c:X.A.units+1<cLine)(ho:PE X o td)(hi:PE X i ty)(hs:Lh i):PE X (.Subscript o i pos) (YW td ty):=by intro b s σ H Q I h;refine BR PySem.F.slot_dict_getitem.lookup hs (bR (ho b s σ H _ I h) fun u s1⟨x,H1,I1,rx,q1⟩=>bR (hi b s1 σ H1 _ I1 q1) fun iv s2⟨y,H2,I2,ry,a,v,ex,g,q2⟩=>?_);subst ex;obtain rfl:u=Value.ref a:=rx;exact⟨jQ I2 g,nP c I2 g ry fun k s3 f j=>⟨v,H2,f,j,q2⟩⟩
theorem T5(c:X.A.units+1<cLine)(hi:PE X i ty)(ho:PE X o td):PC X .In i o (acK ty td):=by intro b s σ H Q I h;refine bR (hi b s σ H _ I h) fun iv s1⟨y,H1,I1,ry,q1⟩=>bR (ho b s1 σ H1 _ I1 q1) fun u s2⟨x,H2,I2,rx,a,ov,ex,g,q2⟩=>?_;subst ex;obtain rfl:u=Value.ref a:=rx;exact YK c I2 g ry fun s3 f=>⟨.bl ov.isSome,H2,f,rfl,q2⟩
theorem Ec(c:X.A.units+1<cLine)(hi:PE X i ty)(ho:PE X o td):PC X .NotIn i o (Ml ty td):=by intro b s σ H Q I h;refine bR (hi b s σ H _ I h) fun iv s1⟨y,H1,I1,ry,q1⟩=>bR (ho b s1 σ H1 _ I1 q1) fun u s2⟨x,H2,I2,rx,a,ov,ex,g,q2⟩=>?_;subst ex;obtain rfl:u=Value.ref a:=rx;exact Am c I2 g ry fun s3 f=>⟨.bl (!ov.isSome),H2,f,rfl,q2⟩
theorem Ci(c:X.A.units+1<cLine)(ho:PE X o td)(hi:PE X i ty)(f:PE X value tv)(hs:swapsWith value (some (.Subscript o i pos')) pos.line X.env=pure false):PS X (.Assign [.Subscript o i pos'] value pos) (Yw td ty tv):=by intro b s σ H D I h;refine wpAny_Assign_Subscript (bR (f b s σ H _ I h) fun r s1⟨v,H1,I1,rv,q1⟩=>bR (ho b s1 σ H1 _ I1 q1) fun u s2⟨x,H2,I2,rx,q2⟩=>bR (hi b s2 σ H2 _ I2 q2) fun iv s3⟨y,H3,I3,ry,a,H4,ex,g,q3⟩=>?_) hs;subst ex;obtain rfl:u=Value.ref a:=rx;exact Fq c I3 g ry rv fun s4 j=>⟨σ,H4,j,q3⟩
end
theorem wD{P:Program}(h:Heap)(a:sysModules<h.objs.size):bJ P w H (h.push {cls:=.type "dict",data:=.dict #[]}) h.objs.size (.dK []):=⟨vf,beq_eq_false_iff_ne.mpr (Ne.symm (ne_of_lt a)),[],.nil,Heap.DictOf.new h⟩
def Rm:TE:=fun _ H Q=>∀p,H p=none->Q (.ref p) (upd H p (.dK []))
section
variable{X:Cx}{pos:Pos}
theorem wz:PE X (.Dict [] [] pos) Rm:=fun b s σ H Q I h=>wpAny_Dict_empty ⟨.ref s.heap.objs.size,_,I.laid (a:=s.heap.objs.size) (o:=.dK []) (t':=s.toks) (fun _ _ q=>dG q) (dz) (wD s.heap I.big),rfl,h _ (I.hok.fresh (dz))⟩
end
def yW:List (TE×TE)->St->Hp->(List (V×V)->Hp->Prop)->Prop|[],_,H,Q=>Q [] H|(a,b)::r,σ,H,Q=>a σ H fun x c=>b σ c fun y e=>yW r σ e fun ps f=>Q ((x,y)::ps) f
abbrev VV:List (V×V)->List (Value×Value)->Prop:=Paired fun p q=>RelV p.1 q.1/\RelV p.2 q.2
def PPs(X:Cx)(pos:Pos)(keys:List (Option Expr))(a:List Expr)(e:List (TE×TE)):Prop:=∀(b:List (Addr × Obj))(s:Shared)(σ:St)(H:Hp)(Q:List (V × V)->Hp->Prop),Inv X b σ H s->yW e σ H Q->wpAny (model X.prog X.w) X.A (evalPairs (pairTrees keys a X.env pos)) (fun vs f=>∃ps c,Inv X b σ c f/\VV ps vs/\Q ps c) X.xe s
theorem CG:PPs X pos [] [] []:=fun a s σ H Q I h=>pairTrees_nil_walk ⟨[],H,I,.nil,h⟩
theorem wK{k v:Expr}{ks:List (Option Expr)}{vs:List Expr}{b c:TE}{e:List (TE×TE)}(f:PE X k b)(g:PE X v c)(hr:PPs X pos ks vs e):PPs X pos (some k::ks) (v::vs) ((b,c)::e):=fun a s σ H Q I h=>pairTrees_cons_walk (bR (f a s σ H _ I h) fun u s1⟨x,H1,I1,rx,q1⟩=>bR (g a s1 σ H1 _ I1 q1) fun i s2⟨y,H2,I2,ry,q2⟩=>bR (hr a s2 σ H2 _ I2 q2) fun ws s3⟨ps,H3,I3,rel,q3⟩=>⟨(x,y)::ps,H3,I3,.cons ⟨rx,ry⟩ rel,q3⟩)
noncomputable def nG(kvs more:List (Key×V)):List (Key×V):=more.foldl (fun a b=>putK a b.1 b.2) kvs
theorem KV.merge:∀{more:List (Key×V)}{a:List (Key×Value)}{kvs:List (Key×V)}{vs:List (Key×Value)},KV more a->KV kvs vs->KV (nG kvs more) (merged vs a):=by intro more a kvs vs r;unfold KV at r;induction r generalizing kvs vs with|nil=>intro q;exact q|@cons p q ps c h t b=>
   intro r0;have e:KV (putK kvs p.1 p.2) (stored vs q.1 q.2):=by have:=r0.put p.1 h.2;rw[<-h.1];exact this
   exact b e
theorem lu:∀(more kvs:List (Key×V)),(nG kvs more).length<=kvs.length+more.length|[],kvs=>by show kvs.length<=kvs.length+0;omega|p::r,kvs=>by have h1:=lu r (putK kvs p.1 p.2);have a:=jA kvs p.1 p.2;show(nG (putK kvs p.1 p.2) r).length<=_;rw[length_cons];omega
theorem p6{P:Program}{w:World}:∀{kvs:List (Key×V)}{ws:List (Value×Value)},VV (kvs.map fun f=>(kV f.1,f.2)) ws->∃e,Carries (bh P w) ws e/\KV kvs e|[],_,r=>by rw[map_nil]at r;cases r;exact⟨[],True.intro,.nil⟩|p::kvs,_,r=>by rw[map_cons]at r;cases r with|@cons a b as bs h t=>obtain⟨e,c,q⟩:=p6 (P:=P) (w:=w) t;obtain⟨b1,b2⟩:=b;exact⟨(p.1,b2)::e,⟨qC h.1,rfl,c⟩,.cons ⟨rfl,h.2⟩ q⟩
def Xo(c:List (TE×TE)):TE:=fun σ H Q=>∀p,H p=none->yW c σ (upd H p (.dK [])) fun ps a=>a p=some (.dK [])/\∃kvs:List (Key×V),ps=kvs.map (fun b=>(kV b.1,b.2))/\kvs.length<=15/\Q (.ref p) (upd a p (.dK (nG [] kvs)))
theorem Be{keys:List (Option Expr)}{b:List Expr}{j:List (TE×TE)}(h:PPs X pos keys b j)(f:keys.all (·.isSome)=true)(l:keys.length=b.length)(h0:keys≠[])(i:keys.length<=15):PE X (.Dict keys b pos) (Xo j):=by
 intro g s σ H Q I q;have m:=I.hok.fresh (le_refl s.heap.objs.size);have n:=I.laid (a:=s.heap.objs.size) (o:=.dK []) (h':=s.heap.push {cls:=.type "dict",data:=.dict #[]}) (t':=s.toks) (fun _ _ q=>dG q) (dz) (wD s.heap I.big);refine wpAny_Dict_walk (knd:=bh X.prog X.w) f l h0 i (bR (h g _ σ _ _ n (q _ m)) fun ws s2⟨ps,H2,I2,rel,e,kvs,ep,lk,q2⟩=>?_);subst ep;obtain⟨p,c,r⟩:=p6 (P:=X.prog) (w:=X.w) rel;obtain⟨z,hd,t,r0,u⟩:=PB I2.hok e;cases r0;refine⟨p,c,u,fun h' k hs=>⟨.ref s.heap.objs.size,_,?_,rfl,q2⟩⟩;have hz:(nG [] kvs).length<=sizeLine:=by have h1:=lu kvs [];rw[length_nil]at h1;rw[sizeLine_eq];omega
 have he:∃q,h'.get? s.heap.objs.size=some q:=let⟨q,_,_,hq,_⟩:=k;⟨q,hq⟩;exact vI I2 (by rw[e];exact True.intro) hs he (JB hz hd (r.merge .nil) k)
structure M2(X:Cx)(o:Expr)(m:Str)(apos:Pos)(e f:Expr)(cpos:Pos):Prop where
 base:attributeBase o m X.env (eval o X.env)=eval o X.env
 few:((backTo cpos (starEach [e,f] X.env)).all (fun x=>!x.1)&&(backToKw cpos (keywordEach [] X.env)).all (fun x=>x.1.isSome)&&decide (([e,f]:List Expr).length+([]:List Keyword).length+(if([]:List Keyword).isEmpty then 0 else 1)<30))=true
 line:(apos.endLine==cpos.line)=true
 trees:backTo cpos (starEach [e,f] X.env)=[(false,eval e X.env),(false,eval f X.env)]
def IsD(H:Hp)(a:Addr):Prop:=(∃kvs,Rd H a (.dK kvs))\/∃kvs,Rd H a (.dT kvs)
theorem RP{f:List (Addr×Obj)}{σ:St}{s:Shared}{a:Addr}(I:Inv X f σ H s)(d:IsD H a):s.TypeIs (.ref a) "dict"/\(∀b,Value.ref a=.ref b->∃c,s.heap.get? b=some c/\c.dict=none)/\(a==sysModules)=false:=by
 rcases d with⟨kvs,e⟩|⟨kvs,e⟩;.obtain⟨_,hd,vs,_,g⟩:=qI I.hok e;refine⟨g.typeIs,fun b q=>?_,hd⟩;cases q;obtain⟨c,_,_,h1,h,_⟩:=g;exact⟨c,h1,h.2.1⟩
 .obtain⟨_,hd,xs,_,g⟩:=p7 I.hok e;refine⟨g.typeIs,fun b q=>?_,hd⟩;cases q;obtain⟨c,_,_,h1,h,_⟩:=g;exact⟨c,h1,h.2.1⟩
section
variable{X:Cx}{pins:List (Addr×Obj)}{σ:St}{H:Hp}{s:Shared}{a:Addr}{y d:V}{u r:Value}{o:Option V}{A:Around}{E:Value->Shared->Prop}
theorem Q8(q:A.units+1<cLine)(I:Inv X pins σ H s)(g:n6 H a y o)(j:RelV y u)(m:RelV d r)(h:∀n p,Inv X pins σ H p->RelV (o.getD d) n->Q n p):wpAny (model X.prog X.w) A (call (.builtin "dict.get") [.ref a,u,r]) Q E s:=by
 rcases g with⟨kvs,k,e,i,l⟩|⟨kvs,k,b,e,i,t,l⟩;.subst i;obtain⟨z,hd,vs,c,f⟩:=qI I.hok e;refine call_meetsIn slot_dict_get f.typeIs PySem.F.entry_dict_get (PySem.F.args_dict_get_3 _ _ _) (meets_dict_get_default (bh X.prog X.w) a (qC j) hd r) ⟨_,f.mapOf,h _ _ (I.tok _) ?_⟩;rw[l];exact(c.val k).getD m
 .subst i;cases(show u=Value.ref b from j);obtain⟨z,hd,xs,c,f⟩:=p7 I.hok e;refine call_meetsIn slot_dict_get f.typeIs PySem.F.entry_dict_get (PySem.F.args_dict_get_3 _ _ _) (meetsH_dict_get_default (tupleKind (bh X.prog X.w)) a b hd r) ⟨tupleKind_room_in1 q,k,xs,nY I.hok t,f,h _ _ (I.tok _) ?_⟩;rw[l];exact(c.val k).getD m
end
def RW(e ty f:TE):TE:=fun σ H Q=>e σ H fun x b=>∃a,x=.ref a/\IsD b a/\ty σ b fun y g=>f σ g fun z c=>∃o,n6 c a y o/\Q (o.getD z) c
section
variable{X:Cx}{o e f:Expr}{apos cpos:Pos}{td ty tx:TE}
theorem Ib(c:X.A.units+1<cLine)(ho:PE X o td)(he:PE X e ty)(i:PE X f tx)(m:M2 X o "get" apos e f cpos):PE X (.Call (.Attribute o "get" apos) [e,f] [] cpos) (RW td ty tx):=by intro b s σ H Q I h;refine wpAny_Call_method m.base m.few m.line PySem.F.plainAttrs_dict slot_dict_get PySem.F.type_dict_get (bR (ho b s σ H _ I h) fun u s1⟨x,H1,I1,rx,a,ex,d,q1⟩=>?_);subst ex;obtain rfl:u=Value.ref a:=rx;obtain⟨t1,t2,_⟩:=RP I1 d;refine⟨t1,t2,?_⟩;rw[m.trees];refine Calls.callWith_builtin rfl (Calls.evalArgs_plain (Calls.spliced_cons (bR (he b s1 σ H1 _ I1 q1) fun iv s2⟨y,H2,I2,ry,q2⟩=>Calls.spliced_cons (bR (i b s2 σ H2 _ I2 q2) fun l s3⟨z,H3,I3,rz,ov,g,q3⟩=>Calls.spliced_nil ?_))));exact Q8 c I3 g ry rz fun n s4 j k=>⟨_,H3,j,k,q3⟩
end
end L2
namespace Att
open PySem PySem.W PySem.Calls PyProof.Rows
end Att
namespace L2
open PySem PySem.Spec PyProof.Rows
end L2
end
section
namespace HH
open PySem L2 PySem.Spec PyProof.Rows
variable{kvs:List (Int×D)}{es:List (Key×V)}{k:Int}{i:Nat}
inductive KR(K:PySem.W.Frag)(F:Hp):List (Int×D)->List (Key×V)->Prop where|nil:KR K F [] []|cons{k:Int}{d:D}{v:V}{kvs:List (Int×D)}{es:List (Key×V)}(h:Rep K F v d)(t:KR K F kvs es):KR K F ((k,d)::kvs) ((Sum.inl k,v)::es)
section
variable{K:PySem.W.Frag}{F F':Hp}
noncomputable def ent(ks:List Int)(vs:List V):List (Key×V):=(ks.zip vs).map fun p=>(Sum.inl p.1,p.2)
theorem KR.of:∀{kvs:List (Int×D)}{vs:List V},aG K F vs (kvs.map (·.2))->KR K F kvs (ent (kvs.map (·.1)) vs)|[],vs,h=>by rw[map_nil]at h;rw[h.fW];exact .nil|(k,d)::kvs,vs,h=>by obtain⟨v,r,rfl,h1,a⟩:=h.cA;exact .cons h1 (KR.of a)
theorem KR.to(h:KR K F kvs es):∃vs,es=ent (kvs.map (·.1)) vs/\aG K F vs (kvs.map (·.2)):=by induction h with|nil=>exact⟨[],rfl,.nil⟩|@cons k d v kvs es h t a=>obtain⟨vs,rfl,r⟩:=a;exact⟨v::vs,rfl,.cons h r⟩
theorem KR.oc(h:KR K F kvs es):lq K F (.dK es) (.v kvs):=by obtain⟨vs,rfl,r⟩:=h.to;exact⟨vs,rfl,r⟩
theorem KR.Rv{o:HO}(h:lq K F o (.v kvs)):∃es,o=.dK es/\KR K F kvs es:=by obtain⟨vs,rfl,r⟩:=h;exact⟨_,rfl,.of r⟩
theorem KR.len(h:KR K F kvs es):es.length=kvs.length:=by induction h with|nil=>rfl|cons h t a=>simp[a]
theorem KR.get{d:D}(h:KR K F kvs es)(e:lM kvs k=some d):∃v,jk es (Sum.inl k:Key)=some v/\Rep K F v d:=by induction h with|nil=>cases e|@cons j d' v kvs es h t a=>
   unfold lM at e a;rw[find?_cons]at e;by_cases c:j=k;.simp[c]at e;subst e;exact⟨v,mZ (by rw[c]),h⟩
   .simp[c]at e;obtain⟨b,h1,f⟩:=a (by simpa using e);exact⟨b,by rw[mz (by simpa using c)];exact h1,f⟩
theorem KR.any{kvs:List (Int×D)}{es:List (Key×V)}(k:Int)(h:KR K F kvs es):(es.any fun a=>decide (a.1=(Sum.inl k:Key)))=kvs.any fun p=>decide (p.1=k):=by induction h with|nil=>rfl|cons h t b=>simp[b]
theorem KR.has(k:Int)(h:KR K F kvs es):(jk es (Sum.inl k:Key)).isSome=(kvs.map (·.1)).contains k:=by rw[<-qQ,h.any k];induction h with|nil=>rfl|@cons j d v kvs es h t a=>rw[any_cons,a,map_cons,List.contains_cons];congr 1;exact Bool.eq_iff_iff.mpr ⟨fun z=>by simp at z ⊢;exact z.symm,fun z=>by simp at z ⊢;exact z.symm⟩
theorem KR.repl{d:D}{v:V}(r:Rep K F v d)(h:KR K F kvs es):KR K F (kvs.map fun p=>if p.1=k then(p.1,d)else p) (es.map fun a=>if a.1=(Sum.inl k:Key)then(a.1,v)else a):=by induction h with|nil=>exact .nil|@cons j d' e kvs es h t b=>
   by_cases c:j=k;.subst c;simp;exact .cons r b
   . have:¬(Sum.inl j:Key)=Sum.inl k:=by simpa using c
     simp[c,this];exact .cons h b
theorem KR.snoc{d:D}{v:V}(r:Rep K F v d)(h:KR K F kvs es):KR K F (kvs++[(k,d)]) (es++[(Sum.inl k,v)]):=by induction h with|nil=>exact .cons r .nil|cons h t a=>exact .cons h a
theorem KR.put{d:D}{v:V}(r:Rep K F v d)(h:KR K F kvs es):KR K F (fX kvs k d) (putK es (Sum.inl k:Key) v):=by
 unfold fX putK;rw[h.any k];split;.exact h.repl r
 .exact h.snoc r
theorem KR.zip{ks:List Int}{a:List D}{vs:List V}(h:aG K F vs a)(b:ks.length=a.length):KR K F (ks.zip a) (ent ks vs):=by induction a generalizing ks vs with
 |nil=>rw[h.fW];cases ks with|nil=>exact .nil|cons _ _=>simp at b
 |cons d a c=>obtain⟨v,r,rfl,h1,e⟩:=h.cA;cases ks with|nil=>simp at b|cons k ks=>exact .cons h1 (c e (by simpa using b))
end
section
variable{K:PySem.W.Frag}{F F1 H H1:Hp}{ρ ρ1 ρ2:List Sl}{σ σ1:L2.St}
theorem GS.aeO{x:Nat}{m p:Dc}{a:Addr}(g:GS K F ρ σ H)(e:ρ[x]?=some (.gQ m))(r:σ[x]?=some (some (.ref a))):aC K F ρ σ H F (ρ.set x (.gQ p)) σ (upd H a p.ho):=by
 have hi:x<ρ.length:=(dB e).1;have v:aZ ρ σ x a:=⟨⟨_,_,e,rfl⟩,r⟩;obtain⟨I,J,h1,L,w,M⟩:=g.own x _ _ e rfl;rw[r]at h1;cases h1;have f:∀{j:Nat}{c:Addr},aZ (ρ.set x (.gQ p)) σ j c->aZ ρ σ j c:=fun{j c}⟨⟨t,dt,h,s⟩,q3⟩=>by
  by_cases b:j=x;.subst b;exact⟨⟨_,_,e,rfl⟩,q3⟩
  .rw[fH b]at h;exact⟨⟨t,dt,h,s⟩,q3⟩
 refine⟨⟨fun c o q=>?_,by simp[g.len],fun j z d q=>?_,fun j t dt q u=>?_,fun j k c h s=>g.dis j k c (f h) (f s)⟩,.refl _,fun c n A=>absurd n A,fun c o q n=>?_,fun c⟨j,q⟩=>.inl ⟨j,f q⟩,by simp,fun j t q l=>⟨rfl,?_⟩⟩
 . have:c≠a:=by rintro rfl;rw[w]at q;cases q
   rw[aD this];exact g.sub c o q
 . by_cases b:j=x;.subst b;rw[getElem?_set_self hi]at q;cases q
   .rw[fH b]at q;exact g.val j z d q
 . by_cases b:j=x;.subst b;rw[getElem?_set_self hi]at q;cases q;cases u;exact⟨a,_,r,aO,w,rfl⟩
   . rw[fH b]at q;obtain⟨c,B,y,C,E,G⟩:=g.own j t dt q u;have:c≠a:=by rintro rfl;exact b (g.dis j x c ⟨⟨t,dt,q,u⟩,y⟩ v)
     exact⟨c,B,y,by rw[aD this];exact C,E,G⟩
 . have:c≠a:=by rintro rfl;exact n ⟨x,v⟩
   rw[aD this];exact q
 . by_cases b:j=x;.subst b;rw[e]at q;cases q;cases l
   .exact⟨t,by rw[fH b];exact q,.refl t⟩
theorem GS.newD{m:Dc}{a:Addr}(g:GS K F ρ σ H)(e:ρ[i]?=some .aQ)(s:H a=none):aC K F ρ σ H F (ρ.set i (.gQ m)) (σ.set i (some (.ref a))) (upd H a m.ho):=by
 have hi:i<ρ.length:=(dB e).1;have u:i<σ.length:=by rw[<-g.len];exact hi
 have x:F a=none:=by cases q:F a with|none=>rfl|some o=>rw[g.sub a o q]at s;cases s
 have f:∀{j:Nat}{c:Addr},j≠i->aZ (ρ.set i (.gQ m)) (σ.set i (some (.ref a))) j c->aZ ρ σ j c:=fun{j c}b⟨⟨t,ds,e1,e2⟩,e3⟩=>by rw[fH b]at e1 e3;exact⟨⟨t,ds,e1,e2⟩,e3⟩
 have h:∀{c:Addr},aZ (ρ.set i (.gQ m)) (σ.set i (some (.ref a))) i c->c=a:=fun{c}⟨_,e3⟩=>by rw[getElem?_set_self u]at e3;cases e3;rfl
 have no:∀{j:Nat},¬ aZ ρ σ j a:=fun{j}⟨⟨t,ds,e1,e2⟩,e3⟩=>by obtain⟨c,o,p,r,_⟩:=g.own j t ds e1 e2;rw[e3]at p;cases p;rw[s]at r;cases r
 refine⟨⟨fun c o q=>?_,by simp[g.len],fun j z d q=>?_,fun j t dt q y=>?_,fun j k c p r=>?_⟩,.refl _,fun c n A=>absurd n A,fun c o q n=>?_,fun c⟨j,q⟩=>?_,by simp,fun j t q l=>?_⟩
 . have:c≠a:=by rintro rfl;rw[x]at q;cases q
   rw[aD this];exact g.sub c o q
 . by_cases b:j=i;.subst b;rw[getElem?_set_self hi]at q;cases q
   .rw[fH b]at q ⊢;exact g.val j z d q
 . by_cases b:j=i;.subst b;rw[getElem?_set_self hi]at q;cases q;cases y;exact⟨a,_,getElem?_set_self u,aO,x,rfl⟩
   . rw[fH b]at q ⊢;obtain⟨c,o,B,w,C,E⟩:=g.own j t dt q y;have:c≠a:=by rintro rfl;rw[s]at w;cases w
     exact⟨c,o,B,by rw[aD this];exact w,C,E⟩
 . by_cases b:j=i
   . by_cases v:k=i;.rw[b,v]
     .subst b;rw[h p]at r;exact absurd (f v r) no
   . by_cases v:k=i;.subst v;rw[h r]at p;exact absurd (f b p) no
     .exact g.dis j k c (f b p) (f v r)
 . have:c≠a:=by rintro rfl;rw[s]at q;cases q
   rw[aD this];exact q
 . by_cases b:j=i;.subst b;rw[h q];exact .inr s
   .exact .inl ⟨j,f b q⟩
 . have b:j≠i:=by rintro rfl;rw[e]at q;cases q;cases l
   exact⟨by rw[fH b],t,by rw[fH b];exact q,.refl t⟩
end
noncomputable def sI(p:Int×Int):Key×V:=(Sum.inl p.1,V.int p.2)
theorem Gj(i:Int):∀kvs:List (Int×Int),jk (kvs.map sI) (Sum.inl i:Key)=((kvs.find? fun b=>decide (b.1=i)).map (·.2)).map V.int
 |[]=>rfl|p::kvs=>by
   have a:=Gj i kvs;unfold jk at a ⊢;rw[map_cons,find?_cons,find?_cons];by_cases h:p.1=i
   . have e:decide ((sI p).1=(Sum.inl i:Key))=true:=by simp[sI,h]
     rw[e];simp[h,sI]
   . have e:decide ((sI p).1=(Sum.inl i:Key))=false:=by simp[sI,h]
     rw[e];simp only[h,decide_false];exact a
theorem Tj(i v:Int)(kvs:List (Int×Int)):putK (kvs.map sI) (Sum.inl i:Key) (V.int v)=(putD kvs i v).map sI:=by
 have e:((kvs.map sI).any fun a=>decide (a.1=(Sum.inl i:Key)))=kvs.any fun a=>decide (a.1=i):=by rw[List.any_map];congr 1;funext p;simp[sI]
 unfold putK putD;rw[e];split
 . rw[map_map,map_map];refine map_congr_left fun p _=>?_;by_cases h:p.1=i;.simp[sI,h]
   .simp[sI,h]
 .rw[map_append];rfl
section
variable{X:Cx}{c:Call}{n:Nat}{a b e:Expr}{pa pb p:P}{pos:Pos}
theorem Jc{H:Hp}{q:Addr}{m:Dc}{i:Int}{o:Option Int}(h:Rd H q m.ho)(e:m.get (.int i)=some o):n6 H q (.int i) (o.map V.int):=by cases m with|k kvs=>cases e;exact .inl ⟨kvs.map sI,Sum.inl i,h,rfl,(Gj i kvs).symm⟩|t kvs=>cases e
theorem pR(hu:X.A.units+8<cLine)(M:SX X c a pa)(N:SX X c b pb)(hs:Lh b):SX X c (.Subscript a b pos) (.bin .zZ pa pb):=by refine vJ (f:=Dd) (fun h1 O=>?_) M N (fun ρ=>rfl) rfl;intro l s σ H Q I h;refine BR PySem.F.slot_dict_getitem.lookup hs (bR (h1 l s σ H _ I h) fun u s1⟨x,H1,I1,rx,q1⟩=>bR (O l s1 σ H1 _ I1 q1) fun iv s2⟨y,H2,I2,ry,q2⟩=>?_);obtain⟨F,d,e,r,sm,G,J,he,k⟩:=q2;cases d with
 |eO m=>have U:=bV (show(m.get e).bind (fun o=>o.map fun v=>R.val (.int v))=some r from he);clear he;obtain⟨o,w,he⟩:=U;cases o with|none=>cases he|some v=>
     cases he;obtain⟨i,rfl⟩:∃i,e=.int i:=by cases m with|t kvs=>cases e<;>cases w|k kvs=>cases e<;>first|exact⟨_,rfl⟩|cases w
     obtain⟨q,z,rfl,B⟩:=G.eO sm;rw[J.int]at ry;obtain rfl:u=Value.ref q:=rx;have g:=Jc (.inr ⟨z,B⟩) w;exact⟨jQ I2 g,nP (by omega) I2 g ry fun W s3 C E=>⟨.int v,H2,C,E,cj.cX sm (bL _) k⟩⟩
 |dv ks Y=>cases e with|int j=>obtain⟨d',Z,he⟩:=map_some (show(lM (ks.zip Y) j).map R.val=some r from he);subst he;obtain⟨q,z,vs,rfl,B,rs,hl⟩:=G.dv sm;obtain⟨L,g1,g2⟩:=(KR.zip rs hl).get Z;rw[J.int]at ry;obtain rfl:u=Value.ref q:=rx;have g:n6 H2 q (.int j) (some L):=.inl ⟨_,Sum.inl j,.inr ⟨z,B⟩,rfl,g1.symm⟩;exact⟨jQ I2 g,nP (by omega) I2 g ry fun W s3 C E=>⟨L,H2,C,E,cj.cX sm g2 k⟩⟩|_=>cases he
 |_=>cases he
theorem LC{x:Str}{f p2:Pos}(h:X.N.Nodup)(hi:X.N[i]?=some x)(j:Loc X.env.scope x)(hs:swapsWith (.Dict [] [] p2) (some (.Name x f)) pos.line X.env=pure false:=by rfl)(l:X.fn x=true\/X.env.scope.names.lookup x=some .local:=by first|exact .inl rfl|exact .inr rfl|assumption):SS X c n (.Assign [.Name x f] (.Dict [] [] p2) pos) (.JV i false):=by
 refine dw (u6 h hi j wz hs l) ?_;rintro D σ H⟨F,ρ,fl,o,g,e,k⟩;rw[HH.X19]at e;split at e;.rename_i q;cases e;exact fun a r=>k F _ _ (g.newD (m:=.k []) q r)
 .cases e
theorem Tq{x:Str}{C f l:Pos}{pk E:P}(hu:X.A.units+8<cLine)(Y:X.N[i]?=some x)(Z:vV X.env.scope x)(ha:SX X c a pk)(hb:SX X c b E)(m:M2 X (.Name x C) "get" f a b l)(hd:(x==("__debug__":Str))=false:=by decide)(u:(x==("__classdict__":Str))=false:=by decide):SX X c (.Call (.Attribute (.Name x C) "get" f) [a,b] [] l) (.Xc i pk E):=by
 obtain⟨ta,h1,h2⟩:=ha.cC;obtain⟨tb,h3,h4⟩:=hb.cC;refine⟨di (Ib (by omega) (fC Y Z hd u) h1 h3 m) ?_,fun i h=>by cases h⟩;rintro σ H Q⟨F,ρ,r,ac,g,e,k⟩;rw[HH.E24]at e;split at e
 . rename_i m0 q;obtain⟨y,ae,e1,G⟩:=aj e;clear e;obtain⟨dd,af,e2,s⟩:=aj G;clear G;obtain⟨I,o0,J,L,w3,w4⟩:=g.own i _ _ q rfl;refine⟨.ref I,J,I,rfl,?_,?_⟩;.cases(show o0=m0.ho from w4);cases m0 with|k kvs=>exact .inl ⟨_,.inl L⟩|t kvs=>exact .inr ⟨_,.inl L⟩
   . refine h2 g e1 fun v F1 H1 s1 pv=>h4 s1.gs e2 fun z M H2 s2 O=>?_;split at s
     . rename_i m1 q1;obtain⟨U,e3⟩:=aB s;clear s;subst e3;obtain⟨o,B,eD⟩:=bV U;clear U;obtain⟨w,e5,e6⟩:=map_some eD;subst e6;obtain⟨a1,o1,W,y2,y3,y4⟩:=s2.gs.own i _ _ q1 rfl;rw[J]at W;cases W;cases(show o1=m1.ho from y4);obtain⟨j,rfl⟩:∃j,y=.int j:=by cases m1 with|t kvs=>cases y<;>cases B|k kvs=>cases y<;>first|exact⟨_,rfl⟩|cases B
       rw[cG e5]at O;rw[pv.int,O.int];refine⟨o.map V.int,Jc (.inl y2) B,?_⟩;have:(o.map V.int).getD (V.int w)=V.int (o.getD w):=by cases o<;>rfl
       rw[this];exact k _ M H2 (s1.trans s2) (show Rep X.K M _ _ from bL _)
     .cases s
 .cases e
theorem KH{x:Str}{C f:Pos}{pk:P}(hu:X.A.units+8<cLine)(J:X.N[i]?=some x)(L:vV X.env.scope x)(M:SX X c a pk)(he:SX X c e p)(hs:swapsWith e (some (.Subscript (.Name x C) a f)) pos.line X.env=pure false:=by rfl)(hd:(x==("__debug__":Str))=false:=by decide)(s:(x==("__classdict__":Str))=false:=by decide):SS X c n (.Assign [.Subscript (.Name x C) a f] e pos) (.dput i pk p):=by
 obtain⟨ta,h1,O⟩:=M.cC;refine dw (Ci (by omega) (fC J L hd s) h1 he.ev hs) ?_;rintro D σ H⟨F,ρ,fl,Q,g,e,k⟩;rw[HH.X20]at e;obtain⟨r,u,U,o⟩:=aj e;clear e;refine⟨F,ρ,r,u,g,U,fun v F1 H1 s1 W=>?_⟩;split at o
 . rename_i m0 Y;obtain⟨E,Z,e2,h⟩:=aj o;clear o;obtain⟨z,o0,B,w2,w3,w4⟩:=s1.gs.own i _ _ Y rfl;refine⟨.ref z,B,O s1.gs e2 fun y F2 H2 s2 py=>?_⟩;split at h
   . rename_i m w q;split at h;.rename_i G l;cases h;obtain⟨a1,o1,I,y2,y3,y4⟩:=s2.gs.own i _ _ q rfl;rw[B]at I;cases I;cases(show o1=m.ho from y4);cases(show v=.int w by have:Rep X.K F1 v (.int w):=W;rwa[Rep]at this);refine⟨z,upd H2 z G.ho,rfl,?_,k F2 σ _ ((s1.trans s2).trans (s2.gs.aeO q B))⟩;cases m with|t kvs=>cases E<;>cases l|k kvs=>cases E with|int j=>obtain⟨hl,l⟩:=bz (show(if kvs.length<lim then some (Dc.k (putD kvs j w))else none)=some G from l);subst l;rw[py.int];refine .inl ⟨kvs.map sI,Sum.inl j,y2,rfl,by rw[length_map,sizeLine_eq];exact hl,?_⟩;rw[Tj];rfl|_=>cases l
     .cases h
   .cases h
 .cases o
end
end HH
end
section
namespace L2
open PySem PySem.Spec PyProof.Rows
noncomputable def Itk(a:Addr)(b:Obj)(kvs:List (Key×V)):It:=⟨fun i H=>H a=some (.dj b (.dK kvs))/\i<kvs.length,fun i H x c=>c=H/\∃p,kvs[i]?=some p/\x=kV p.1,fun i H=>H a=some (.dj b (.dK kvs))/\kvs.length<=i⟩
theorem KV.get:∀{κ:Type}{kvs:List (κ×V)}{vs:List (κ×Value)}{i:Nat}{p:κ×V},KV kvs vs->kvs[i]?=some p->∃v,vs[i]?=some (p.1,v)|_,_,_,_,_,.nil,e=>by simp at e|_,_,_,0,_,.cons r _,e=>by simp at e;subst e;exact⟨_,by rw[List.getElem?_cons_zero,r.1]⟩|_,_,_,i+1,p,.cons _ t,e=>by obtain⟨v,h⟩:=KV.get (i:=i) (p:=p) t (by simpa using e);exact⟨v,by simpa using h⟩
theorem tV{X:Cx}{b:List (Addr×Obj)}{σ:St}{H:Hp}{s:Shared}{a:Addr}{c:Obj}{kvs:List (Key×V)}{es:Array DictEntry}{ep:Nat}(I:Inv X b σ H s)(h:H a=some (.dj c (.dK kvs)))(hd:c.data=.dict es ep):(a==sysModules)=false/\∃vs,KV kvs vs/\s.heap.DictAt (bh X.prog X.w) a vs ep:=by obtain⟨ho,hz,f,vs,r,g⟩:=(show bJ X.prog X.w H s.heap a (.dj c (.dK kvs))from I.hok a _ h);obtain⟨o,i,j,h1,k,e,l⟩:=g;rw[ho]at h1;cases h1;rw[hd]at e;cases e;exact⟨f,vs,r,⟨c,es,ho,k,hd,l⟩⟩
theorem Tt{P:Program}{w:World}{k:Key}{u:Value}(h:(bh P w).is k u=true):RelV (kV k) u:=by
 rcases bI h with⟨i,t,rfl,rfl⟩|⟨x,t,rfl,rfl⟩;.exact⟨t,rfl⟩
 .exact⟨t,rfl⟩
theorem Eh{P:Program}{w:World}{K:PySem.W.Frag}{C:Expr}(a it:Addr)(B:Obj)(kvs:List (Key×V))(es:Array DictEntry)(ep:Nat)(hd:B.data=.dict es ep):Turn P w K C (Itk a B kvs) [it] it (fun i h=>h.IsKeyIter it a i kvs.length ep)where
 mem:=by simp
 obj:=fun i h st b g=>by
  have e:b=it:=by simpa using g
  subst e;obtain⟨o,e,c,d⟩:=st;exact⟨o,e,fun v z=>by rw[d]at z;cases z⟩
 keep:=fun i h h' st k=>st.at fun o e=>k it (by simp) o e;item:=by intro X n p q hc i f s σ H E I m st t;subst n p q;obtain⟨x,hi⟩:=t;obtain⟨G,vs,r,y⟩:=tV I x hd;have l:vs.length=kvs.length:=(Paired.length r).symm;obtain⟨v,J⟩:=KV.get r (show kvs[i]?=some kvs[i]by simp[hi]);obtain⟨f0,f1,f2,f3,f4,f5⟩:=m it (by simp);refine wpAny_pyNext_dict_item (by rw[l];exact st) y J fun u h' L j M=>?_;have N:Inv X f σ H {s with heap:=h'}:=I.turned (t':=s.toks) (fun b o g e=>(M.2 b g).trans e) f0 f1 f3 f4 f5;rw[l]at j;obtain⟨o,e,c,d⟩:=id j;exact⟨u,rfl,Ca (s:={s with heap:=h'}) e c d (by decide) ⟨_,H,N,Tt L,⟨rfl,_,by simp[hi],rfl⟩,j,fun b g=>(m b g).1⟩⟩
 done:=by intro X n p q hc i f s σ H E I m st t;subst n p q;obtain⟨x,hi⟩:=t;obtain⟨G,vs,r,y⟩:=tV I x hd;have l:vs.length=kvs.length:=(Paired.length r).symm;obtain⟨f0,f1,f2,f3,f4,f5⟩:=m it (by simp);refine wpAny_pyNext_dict_end (I.ok.hd hc) (by rw[l];exact st) y (by simp[l,hi]) fun h' he=>⟨rfl,?_⟩;exact I.turned (t':=s.toks) (fun b o g e=>he b o g e) f0 f1 f3 f4 f5
 self:=fun A i s Q E st O=>wpAny_pyIter_keyiter st O
section
variable{X:Cx}{tg:Expr}
theorem Nh{l:Expr}{k:TE}(n:PE X l k):PI X tg l (fun σ H R=>k σ H fun x f=>∃a c kvs,x=.ref a/\f a=some (.dj c (.dK kvs))/\R (Itk a c kvs) f):=by
 intro g s σ H R I h;refine bR (n g s σ H _ I h) ?_;rintro v s1⟨x,f,j,r1,a,c,kvs,e,p,q⟩;subst e;cases r1;obtain⟨ho,hz,t,vs,r,u⟩:=(show bJ X.prog X.w f s1.heap a (.dj c (.dK kvs))from j.hok a _ p);obtain⟨o,es,ep,h1,y,m,z⟩:=id u;rw[ho]at h1;cases h1;have i:vs.length=kvs.length:=(Paired.length r).symm;refine wpAny_pyIter_dict (knd:=bh X.prog X.w) (kvs:=vs) (ep:=ep) t ⟨c,es,ho,y,m,z⟩ ?_;refine⟨s1.heap.objs.size,[s1.heap.objs.size],_,_,f,rfl,j.kept (t':=s1.toks) fun b o e=>dG e,Eh a _ c kvs es ep m,⟨_,get?_push_size _ rfl,rfl,by rw[i];rfl⟩,fun b A=>?_,q⟩;have e:b=s1.heap.objs.size:=by simpa using A
 subst e;exact j.zq (dz) (j.hok.fresh (dz))
end
end L2
namespace HH
open PySem L2 PySem.Spec PyProof.Rows
section
variable{X:Cx}{c:Call}{tg e:Expr}{p:P}
theorem Kq{ks:List Int}{es:List (Key×V)}{j:Nat}{p:Key×V}{i:Int}(h:es.map (·.1)=ks.map (Sum.inl:Int->Key))(a:es[j]?=some p)(b:ks[j]?=some i):p.1=Sum.inl i:=by
 have:(es.map (·.1))[j]?=(ks.map (Sum.inl:Int->Key))[j]?:=by rw[h]
 rw[getElem?_map,getElem?_map,a,b]at this;exact Option.some.inj this
theorem rJ:∀{ks:List Int}{vs:List V},ks.length=vs.length->(ent ks vs).map (·.1)=ks.map (Sum.inl:Int->Key)|[],[],_=>rfl|k::ks,v::vs,h=>by have:=rJ (ks:=ks) (vs:=vs) (by simpa using h);unfold ent at this ⊢;simpa using this|[],_::_,h=>by simp at h|_::_,[],h=>by simp at h
theorem Ny(h:SX X c e p):SI X c tg e (.blt .keys [p]):=by
 unfold SI;obtain⟨ta,h1,W⟩:=h.cC;refine lA (Nh h1) ?_;rintro σ H R⟨F,ρ,A,B,g,Y,k⟩;obtain⟨r,o,I,Z⟩:=aj (show((HH.ev c (.blt .keys [p]) ρ).bind fun r ρ=>lift (items r.d) ρ)=.ok A B from Y);obtain⟨J,e3⟩:=aB Z;subst e3;rw[HH.E17]at I;obtain⟨d,ac,e1,eE⟩:=aj I;obtain⟨y,e4⟩:=aB eE;subst e4;refine W g e1 fun v F' L s M=>?_;have hd:∃(ks:List Int)(es:List (Key×V))(a:Addr)(b:Obj),A=ks.map D.int/\v=.ref a/\L a=some (.dj b (.dK es))/\es.map (·.1)=ks.map (Sum.inl:Int->Key):=by cases d with
  |eO m=>cases m with|k kvs=>cases y;cases J;obtain⟨a,b,rfl,f⟩:=M.eO s.gs.sub;exact⟨kvs.map (·.1),kvs.map sI,a,b,by rw[map_map];rfl,rfl,f,by rw[map_map,map_map];rfl⟩|t kvs=>cases y
  |dv ks ae=>cases y;cases J;obtain⟨a,b,vs,rfl,f,rs,hl⟩:=M.dv s.gs.sub;exact⟨ks,ent ks vs,a,b,rfl,rfl,f,rJ (by rw[rs.length];exact hl)⟩|_=>cases y
 obtain⟨ks,es,a,b,rfl,rfl,f,u⟩:=hd;have C:es.length=ks.length:=by have:=congrArg List.length u;simpa using this
 refine⟨a,b,es,rfl,f,k _ F' L ⟨s.gs,fun n j N o E H2 s2=>?_,fun N o E H2 s2=>⟨s.trans s2,fun v r rr=>rr.later s⟩⟩⟩;have gm:=s.gs.more (n:=n) (τ:=replicate n none) (by simp);have w:=s2.keep a _ f fun⟨j,⟨t,dt,q1,q2⟩,q3⟩=>by obtain⟨a',o',O,Q,z3,G⟩:=gm.own j t dt q1 q2;rw[q3]at O;cases O;rw[f]at Q;cases Q;cases dt with|l A=>obtain⟨xs,z,_⟩:=G;cases z|d m=>cases m<;>cases G|v kvs=>obtain⟨xs,z,_⟩:=G;cases z
 refine⟨fun d hd=>?_,fun U=>⟨w,by rw[C];simpa using U⟩⟩;have U:j<ks.length:=by have:=(dB hd).1;simpa using this
 refine⟨⟨w,by omega⟩,fun x kY⟨e5,q,e6,e7⟩=>?_⟩;subst e5;refine⟨N,.refl s2.gs.sub,?_⟩;rw[getElem?_map]at hd;obtain⟨i,e8,e9⟩:=map_some hd;rw[e7,Kq u e6 e8,<-e9];exact bL _
end
end HH
end
section
namespace HH
open PySem L2 PySem.Spec PyProof.Rows PySem.Calls PySem.W
section
variable{X:Cx}{c:Call}{a:Expr}{pa:P}{pos:Pos}
theorem mX:∀{ns:List Int}{b:List Value},IntsAre b ns->Vals (ns.map V.int) b|_,_,.nil=>.nil|_,_,.cons n t r=>.cons ⟨t,rfl⟩ (mX r)
theorem sW{K:PySem.W.Frag}{F:Hp}:∀ns:List Int,aG K F (ns.map V.int) (ns.map D.int)|[]=>.nil|n::ns=>.cons (bL n) (sW ns)
end
end HH
end
section
namespace HH
open PySem L2 PySem.Spec PyProof.Rows
theorem Inv.aeR{X:Cx}{c:List (Addr×Obj)}{σ:L2.St}{H:Hp}{s:Shared}{a:Addr}{kvs:List (List Key×V)}(I:L2.Inv X c σ H s)(h:H a=some (.dT kvs)):∃o,L2.Inv X c σ (upd H a (.dj o (.dT kvs))) s:=by obtain⟨z,y,xs,r,o,es,ep,h1,f,g,i,j⟩:=(show bJ X.prog X.w H s.heap a (.dT kvs)from I.hok a _ h);refine⟨o,I.write (h':=s.heap) (t':=s.toks) (by rw[h];exact trivial) (.inl rfl) (fun b u _ e=>e) ⟨o,h1⟩ ⟨h1,z,y,xs,KT.keeps r fun b ys q=>?_,o,es,ep,h1,f,g,i,j⟩⟩;rw[aD (by rintro rfl;rw[h]at q;cases q)];exact q
section
variable{X:Cx}{c:Call}{n:Nat}{a b e:Expr}{p pa pb:P}{pos:Pos}{es:List Expr}{ps:List P}{x1:Nat}{tpos:Pos}
theorem xu{i:Nat}{x:Str}{A:Pos}(B:X.N[i]?=some x)(C:vV X.env.scope x)(hd:(x==("__debug__":Str))=false:=by decide)(w:(x==("__classdict__":Str))=false:=by decide):SX X c (.Name x A) (.vw i):=by
 have h:=fC (X:=X) (pos:=A) B C hd w;refine⟨?_,fun i h=>by cases h⟩;rintro f s σ H Q I⟨F,ρ,r,E,g,e,k⟩;rw[HH.E25]at e;split at e
 . rename_i m q;cases e;obtain⟨a,h1,j,l⟩:=g.Aq q;refine bR (h f s σ H (fun v y=>v=.ref a/\y=H) I ⟨.ref a,h1,rfl,rfl⟩) fun u s1⟨v,H1,I1,r1,e1,e2⟩=>?_;subst e1 e2;have G:∃o,L2.Inv X f σ (upd H1 a (.dj o m.ho)) s1:=by cases m with|k kvs=>exact Inv.Jw I1 j|t kvs=>exact Inv.aeR I1 j
   obtain⟨o,z⟩:=G;exact⟨.ref a,_,z,r1,k _ _ _ (l o).1 (l o).2⟩
 .rename_i kvs q;cases e;obtain⟨a,vs,h1,j,l⟩:=g.Dg q;refine bR (h f s σ H (fun v y=>v=.ref a/\y=H) I ⟨.ref a,h1,rfl,rfl⟩) fun u s1⟨v,H1,I1,r1,e1,e2⟩=>?_;subst e1 e2;obtain⟨o,z⟩:=Inv.Jw I1 j;exact⟨.ref a,_,z,r1,k _ _ _ (l o).1 (l o).2⟩
 .rename_i b L q;cases e;obtain⟨v,J,h1,j,l⟩:=g.freeze q;exact h f s σ H Q I ⟨v,h1,k v J H j l⟩
 .rename_i b d q;cases e;obtain⟨v,h1,j⟩:=g.val i b d q;exact h f s σ H Q I ⟨v,h1,k v F H (.refl g) j⟩
 .cases e
end
end HH
end
section
namespace HH
open PySem L2 PySem.Spec PyProof.Rows
section
variable{K:PySem.W.Frag}{F H F' H':Hp}{ρ ρ':List Sl}{σ σ':L2.St}
def Kp(ρ:List Sl)(σ:L2.St)(H:Hp)(a:Addr)(o:HO):Prop:=H a=some o/\¬ Own ρ σ a
theorem Kp.stp{a:Addr}{o:HO}(h:Kp ρ σ H a o)(s:aC K F ρ σ H F' ρ' σ' H'):Kp ρ' σ' H' a o:=⟨s.keep a o h.1 h.2,fun z=>(s.vW a z).elim h.2 fun e=>by rw[h.1]at e;cases e⟩
structure Wt(K:PySem.W.Frag)(F:Hp)(ρ:List Sl)(σ:L2.St)(H:Hp)(a:Addr)(ds:List D):Prop where
 ex:∃xs,Kp ρ σ H a (.lst xs)/\aG K F xs ds
 fr:F a=none
theorem Wt.stp{a:Addr}{b:List D}(h:Wt K F ρ σ H a b)(s:aC K F ρ σ H F' ρ' σ' H'):Wt K F' ρ' σ' H' a b:=by obtain⟨⟨xs,h1,c⟩,e⟩:=h;refine⟨⟨xs,h1.stp s,c.mono s.bN⟩,?_⟩;cases q:F' a with|none=>rfl|some o=>
   rcases s.yh a e (by rw[q];simp)with z|z;.exact absurd z h1.2
   .rw[h1.1]at z;cases z
end
end HH
end
section
namespace HH
open PySem L2 PySem.Spec PyProof.Rows
section
variable{X:Cx}{c:Call}{n:Nat}{e a b d elt tg:Expr}{p pa pb pe:P}{pos:Pos}{elts:List Expr}{x1:Nat}{tp:Pos}
def Uw(K:PySem.W.Frag)(i:Nat)(f:Ev):TI:=fun σ H R=>∃F ρ j g h,GS K F ρ σ H/\Hk i f ρ=.ok (j,g) h/\∀J F1 k,Walk K F ρ σ H (aX g (some i)) J j F1 h k->R J k
theorem pU{x:Str}{p':Pos}{i:Nat}(hx:x="zip")(hg:Gl X x)(hm:X.mg x=none)(hv:isVar pb=some i)(ha:SX X c a pa)(hb:SX X c b pb)(hs:starEach [a,b] X.env=[(false,eval a X.env),(false,eval b X.env)]:=by rfl)(j:starEach [b] X.env=[(false,eval b X.env)]:=by rfl):PI X (.Tuple elts x1 tp) (.Call (.Name x p') [a,b] [] pos) (Uw X.K i (HH.ev c pa)):=by
 subst hx;refine lA (HD hg hm (bC ha.ev (bC (hb.var i hv) cW j) (by rw[hs,j])) hs j) ?_;rintro σ H R⟨F,ρ,ds,l,ac,g,e,k⟩;obtain⟨r,M,e1,e⟩:=aj e;obtain⟨es,m,J,e⟩:=aj e;have N:=aB J;clear J;obtain⟨J,e3⟩:=N;subst e3;refine⟨F,ρ,r,M,g,e1,fun u O A s o=>?_⟩;obtain⟨F2,s2,_,ru⟩:=s.dj o;obtain⟨t2,Q,ys,rfl,z,U⟩:=vp ru J;split at e;.rename_i bb d' q;obtain⟨f,ae,L,e⟩:=aj e;have N:=aB L;clear L;obtain⟨L,e5⟩:=N;subst e5;cases e;obtain⟨v',h1,rv⟩:=s2.gs.val i bb d' q;obtain⟨t1,w,xs,rfl,q1,r1⟩:=vp rv L;refine⟨_,h1,t2,t1,Q,w,rfl,⟨ys,aF.sq s2.gs.sub z⟩,⟨xs,aF.sq s2.gs.sub q1⟩,k _ _ _ ⟨s2.gs,fun n k O B C A h=>pX (aF.sq h.gs.sub (aF.sq h.bN z)) (aF.sq h.gs.sub (aF.sq h.bN q1)) (U.mono h.bN) (r1.mono h.bN) h.gs.sub k,fun F3 m E H3 s3=>?_⟩⟩;unfold aX;dsimp only;rw[q];exact⟨s2.trans s3,fun v r o=>o.later s2⟩
 . rename_i bb f q;cases e;have hi:i<l.length:=(dB q).1;have W:=s2.gs.lend q;have ql:(l.set i (.lent f))[i]?=some (.lent f):=getElem?_set_self hi;obtain⟨w,xs,h1,Y,w3,w4⟩:=W.lG i _ f ql rfl;refine⟨_,h1,t2,false,Q,w,rfl,⟨ys,aF.sq s2.gs.sub z⟩,⟨xs,eV.of Y⟩,k _ _ _ ⟨W,fun n k O B C A h=>?_,fun F3 m E H3 s3=>?_⟩⟩;.obtain⟨G,t,Z,z3⟩:=h.lk i _ (by rw[getElem?_append_left (by simpa using hi)];exact ql) rfl;cases(show t=.lent f from z3);rw[getElem?_append_left (by rw[<-W.len];simpa using hi),h1]at G;obtain⟨a',y,I,u2,u3,u4⟩:=h.gs.lG i _ f Z rfl;rw[G]at I;cases I;exact pX (aF.sq h.gs.sub (aF.sq h.bN z)) (show Sq false X.K A w y from eV.of u2) (U.mono h.bN) u4 h.gs.sub k
   .unfold aX;dsimp only;rw[q];obtain⟨y1,y2⟩:=aC.aX s2.gs q s3;exact⟨s2.trans y1,fun v r o=>(y2 v r o).later s2⟩
 . rename_i f q;cases e;have hi:i<l.length:=(dB q).1;obtain⟨w,xs,h1,Y,w3,w4⟩:=s2.gs.lG i _ f q rfl;refine⟨_,h1,t2,false,Q,w,rfl,⟨ys,aF.sq s2.gs.sub z⟩,⟨xs,eV.of Y⟩,k _ _ _ ⟨s2.gs,fun n k O B C A h=>?_,fun F3 m E H3 s3=>?_⟩⟩;.obtain⟨G,t,Z,z3⟩:=h.lk i _ (by rw[getElem?_append_left hi];exact q) rfl;cases(show t=.lent f from z3);rw[getElem?_append_left (by rw[<-s2.gs.len];exact hi),h1]at G;obtain⟨a',y,I,u2,u3,u4⟩:=h.gs.lG i _ f Z rfl;rw[G]at I;cases I;exact pX (aF.sq h.gs.sub (aF.sq h.bN z)) (show Sq false X.K A w y from eV.of u2) (U.mono h.bN) u4 h.gs.sub k
   .unfold aX;dsimp only;rw[q];exact⟨s2.trans s3,fun v r o=>o.later s2⟩
 .cases e
variable{scope:Scope}{N':List Str}{ifs:List Expr}{iter:Expr}
theorem wQ{g:TG}{i:Nat}{is:List Nat}{one:Bool}{t:Option P}(hc:X.calm=true)(ok:eY X scope N' n)(hi:PI X tg iter (Uw X.K i (HH.ev c pb)))(o:∀cl C s₀ H₀ ex,PG (oR X scope N' cl C s₀ H₀ ex) tg g)(j:lz X.K X.N.length is one g)(ht:∀cl C s₀ H₀ ex,SQ (oR X scope N' cl C s₀ H₀ ex) c ifs t)(he:∀cl C s₀ H₀ ex,SX (oR X scope N' cl C s₀ H₀ ex) c elt pe)(hs:∀x,foldedSetIterable iter X.env x=pure x:=by intro _;rfl):SX X c (.ListComp elt [⟨tg,iter,ifs,0⟩] scope pos) (.lC i pb n is one t pe):=by
 refine⟨HX (Cj (tt:=Ed X.K (qd c t)) (te:=sr X.K (HH.ev c pe)) hc ok hi o ht (fun cl C s₀ H₀ ex=>(he cl C s₀ H₀ ex).ev) hs) ?_,fun i h=>by cases h⟩;rintro σ H Q q⟨F,ρ,r,s,u,e,k⟩;rw[HH.E29]at e;obtain⟨⟨v,l⟩,m,w,e⟩:=aj e;dsimp only at e;split at e;.rename_i f;obtain⟨xs,y,z,e⟩:=aj e;cases e;exact qX q j (fun R h=>⟨F,ρ,v,l,m,u,w,h⟩) f z k
 .cases e
theorem Bo{i j:Nat}{x:Str}{f l:Pos}{nn:Nat}{g:TG}{is:List Nat}{one:Bool}{t:Option P}(hc:X.calm=true)(A:X.N.Nodup)(q:X.N[i]?=some x)(B:Loc X.env.scope x)(ok:eY X scope N' n)(hi:PI X tg iter (Uw X.K j (HH.ev c pb)))(E:∀cl C s₀ H₀ ex,PG (oR X scope N' cl C s₀ H₀ ex) tg g)(s:lz X.K X.N.length is one g)(ht:∀cl C s₀ H₀ ex,SQ (oR X scope N' cl C s₀ H₀ ex) c ifs t)(he:∀cl C s₀ H₀ ex,SX (oR X scope N' cl C s₀ H₀ ex) c elt pe)(u:swapsWith (.ListComp elt [⟨tg,iter,ifs,0⟩] scope pos) (some (.Name x f)) l.line X.env=pure true:=by rfl)(hs:∀x,foldedSetIterable iter X.env x=pure x:=by intro _;rfl)(G:X.fn x=true\/X.env.scope.names.lookup x=some .local:=by first|exact .inl rfl|exact .inr rfl|assumption):SS X c nn (.Assign [.Name x f] (.ListComp elt [⟨tg,iter,ifs,0⟩] scope pos) l) (.asg i (.lC j pb n is one t pe)):=by
 refine Gb (uw (tt:=Ed X.K (qd c t)) (te:=sr X.K (HH.ev c pe)) hc A q B ok hi E ht (fun cl C s₀ H₀ ex=>(he cl C s₀ H₀ ex).ev) u hs G) ?_;rintro D σ H I⟨F,ρ,fl,J,L,e,k⟩;rw[HH.X6]at e;obtain⟨r,M,z,e⟩:=aj e;obtain⟨O,Q,o,e⟩:=aj e;cases e;have U:=aB o;clear o;obtain⟨o,e3⟩:=U;rw[HH.E29]at z;obtain⟨⟨W,w⟩,y,Y,e⟩:=aj z;dsimp only at e;split at e;.rename_i m;obtain⟨xs,Z,e4,e⟩:=aj e;cases e;exact qX I s (fun R h=>⟨F,ρ,W,w,y,L,Y,h⟩) m e4 fun v F1 H1 s1 rr=>k F1 _ H1 (s1.put rr o)
 .cases e
end
end HH
end
section
namespace HH
open PySem PyProof.Rows
section
variable{M:Model}{A:Around}{E:Value->Shared->Prop}{s:Shared}{κ:SortKind}{ok:Keyed->Prop}{K:Keyed->Int}
theorem Ep(R:Rk M A E s κ ok K){st b:SortSt}{xs:Array Keyed}{lo n:Nat}{Q:Option Nat->SortSt->Prop}(h:Sx κ ok st xs b)(f:lo+n<=xs.size)(h1:1<=n)(sg:Seg K xs lo (lo+n))(q:Q (some n) b):wpS M A E s (countRun' lo n) Q b:=by
 have one:∀ys:Array Keyed,Seg K ys lo (lo+1):=fun ys i j k l o=>by rw[show i=j by omega];exact Int.le_refl _
 show wpS M A E s (_>>=_) Q b;refine wpS_bind (Rw (a:=1) (n:=n) R h f (le_refl 1) h1 (one xs) fun m m1 p sm e=>?_);dsimp only;have c1:m=n:=by
  by_cases c:m=n;.exact c
  .have g:=e.resolve_left c;have:=sg (lo+m-1) (lo+m) (by omega) (by omega) (by omega);omega
 subst c1;rw[if_pos (by simp)];exact wpS_pure q
theorem SR.Zr{x0 ys:Array Keyed}{l:List Rn}{lo n:Nat}{st:SortSt}(h:SR κ ok K x0 ys l lo st)(h1:1<=n)(a:lo+n<=ys.size)(hs:Seg K ys lo (lo+n)):SR κ ok K x0 ys (l++[(lo,n,0)]) (lo+n) (setPending st ((pendingOf st).push (lo,n,0))):=⟨h.kind,h.arr,h.fail,by show((pendingOf st).push (lo,n,0)).toList=_;rw[Array.toList_push,h.pend],h.perm,h.ok,uB.mpr ⟨lo,h.rns,rfl,h1,hs,rfl⟩,a⟩
theorem sY:∀(f n r:Nat),r<=1->n<64\/n<=f->minRun' f n r<=n+r/\(64<=n->minRun' f n r<=n)
 |0,n,r,hr,h=>by have e:minRun' 0 n r=n+r:=rfl;rw[e];exact⟨dz,fun z=>by omega⟩|f+1,n,r,hr,h=>by
   rw[minRun'_succ];by_cases c:n<64;.rw[if_pos c];exact⟨dz,fun z=>by omega⟩
   .rw[if_neg c];have a:=sY f (n/2) (max r (n%2)) (by omega) (by omega);exact⟨by omega,fun _=>by omega⟩
theorem Gn(R:Rk M A E s κ ok K){x0:Array Keyed}{Q:Unit->SortSt->Prop}{st:SortSt}(h:SR κ ok K x0 x0 [] 0 st)(sg:Seg K x0 0 x0.size)(h1:1<=x0.size)(q:∀a,arrOf a=x0->failedOf a=none->Q () a):wpS M A E s sortRuns' Q st:=by
 rw[sortRuns'_eq];refine wpS_bind (wpS_get ?_);dsimp only;simp only[h.arr];have j:minRun' x0.size x0.size 0<=x0.size:=(sY x0.size x0.size 0 (by omega) (.inr (dz))).1;generalize minRun' x0.size x0.size 0=o at j;refine wpS_bind (wpS_mono (wpS_forRange (I:=fun x c a=>(c=(none,0)/\SR κ ok K x0 x0 [] 0 a/\x=0)\/(c=(none,x0.size)/\SR κ ok K x0 x0 [(0,x0.size,0)] x0.size a)) (Q:=fun c a=>c=(none,x0.size)/\SR κ ok K x0 x0 [(0,x0.size,0)] x0.size a) ?_ ?_ (.inl ⟨rfl,h,rfl⟩)) ?_)
 . rintro x c f _ k(⟨rfl,b,rfl⟩|⟨rfl,b⟩)
   . dsimp only;rw[if_neg (by omega)];refine wpS_bind (Ep R b.sx (lo:=0) (n:=x0.size-0) (by omega) (by omega) (by simpa using sg) ?_);dsimp only;rw[if_neg (by omega)];refine wpS_bind (wpS_get ?_);have l:(pendingOf f).back?=none:=by have:pendingOf f=#[]:=Array.toList_inj.mp b.pend;rw[this];rfl
     rw[l];dsimp only;refine wpS_bind (wpS_modify (wpS_pure (.inr ⟨by simp,?_⟩)));have:=b.Zr (n:=x0.size-0) (by omega) (by omega) (by simpa using sg);simpa using this
   .dsimp only;rw[if_pos (dz)];exact wpS_pure ⟨rfl,b⟩
 . rintro c f(⟨rfl,b,e⟩|⟨rfl,b⟩);.omega
   .exact⟨rfl,b⟩
 . rintro c f⟨rfl,b⟩;dsimp only;refine wpS_bind (wpS_mono (wpS_forRange (I:=fun x c a=>c=(none,())/\SR κ ok K x0 x0 [(0,x0.size,0)] x0.size a) (Q:=fun c a=>c=(none,())/\SR κ ok K x0 x0 [(0,x0.size,0)] x0.size a) ?_ (fun _ _ h=>h) ⟨rfl,b⟩) ?_)
   . rintro x c g _ k⟨rfl,i⟩;refine wpS_bind (wpS_get ?_);try dsimp only
     have m:(pendingOf g).size<=1:=by rw[<-length_toList,i.pend];simp
     rw[if_pos m];exact wpS_pure ⟨rfl,i⟩
   .rintro c g⟨rfl,i⟩;dsimp only;exact wpS_pure (q g i.arr i.fail)
end
end HH
end
section
namespace HH
open PySem PySem.W PyProof.Rows PySem.Calls L2 PySem.Spec
section
variable{prog:Program}{w:World}{A:Around}{E:Value->Shared->Prop}{s:Shared}{vs:List Value}{κ:SortKind}{P:Value->D->Prop}{ds:List D}
theorem Hc{a:Addr}{n:Nat}{O:PySem.Fin->Shared->Prop}(ho:s.heap.get? a=some (seqObj "list" vs.toArray n))(so:sortable ds=true)(hz:vs.length<=16777216)(L:Paired P vs ds)(fn:∀u d e,P u d->P u e->cR d=cR e)(z:ds.Pairwise fun a b=>mJ a b=true)(N:∀h',(∀b o,b≠a->s.heap.get? b=some o->h'.get? b=some o)->∀C:SortKind->Shared->Prop,C κ {s with heap:=h'}->2<=vs.length->wpAny (model prog w) A (keyKind' vs.toArray) C (fun _ _=>False) {s with heap:=h'})(hl:∀h',(∀b o,b≠a->s.heap.get? b=some o->h'.get? b=some o)->∀u v d e,P u d->P v e->∀C:Bool->Shared->Prop,C (bH (cR d) (cR e)) {s with heap:=h'}->wpAny (model prog w) A (keyLt' κ u v) C (fun _ _=>False) {s with heap:=h'})(h:∀h' c p,(∀b o,b≠a->s.heap.get? b=some o->h'.get? b=some o)->p.Perm (List.range vs.length)->pick .non p ds=Pu ds->h'.get? a=some (seqObj "list" (pick .none p vs).toArray c)->O (.done (.ret .none)) {s with heap:=h'}):wpAny (model prog w) A (Builtin.«list.sort» ⟨[.ref a],[]⟩) O E s:=by
 have ha:a<s.heap.objs.size:=lt_size ho;have B:vs.length=ds.length:=Paired.length L;obtain⟨l,G⟩:∃l,(s.heap.update a (Obj.mapSeq fun _=>(#[]:Array Value))).get? a=some (seqObj "list" #[] l):=⟨_,get?_update_seq ho fun _=>#[]⟩;rw[list_sort_plain];refine wpAny_bind (listItems_at ho rfl ?_);refine wpAny_bind (listUpdate_at ho rfl ?_ (by rw[size_toArray,sizeLine_eq];omega) (vf));refine wpAny_bind (seqEpoch_at G rfl ?_);refine wpAny_bind (wpAny_newTuple ?_ (by show vs.length<=_;rw[sizeLine_eq];omega));refine wpAny_bind (wpAny_newList ?_ (vf));refine wpAny_holding ?_;generalize hH:(((s.heap.update a (Obj.mapSeq fun _=>(#[]:Array Value))).push {cls:=.type "tuple",data:=.seq vs.toArray}).push {cls:=.type "list",data:=.seq #[]}:Heap)=m;have g:m.get? a=some (seqObj "list" #[] l):=by rw[<-hH];exact dG (dG G)
 have keep:∀b o,b≠a->s.heap.get? b=some o->m.get? b=some o:=fun b o M e=>by rw[<-hH];exact dG (dG ((get?_update_other _ _ (Ne.symm M)).trans e))
 have fin:∀p:List Nat,p.Perm (List.range vs.length)->pick .non p ds=Pu ds->O (.done (.ret .none)) {s with heap:=m.update a (Obj.mapSeq fun _=>List.toArray (pick .none p vs))}:=by intro p h1 f;obtain⟨c2,U⟩:∃c2,(m.update a (Obj.mapSeq fun _=>List.toArray (pick Value.none p vs))).get? a=some (seqObj "list" (pick Value.none p vs).toArray c2):=⟨_,get?_update_seq g fun _=>List.toArray (pick Value.none p vs)⟩;exact h _ c2 p (fun b o M e=>(get?_update_other _ _ (Ne.symm M)).trans (keep b o M e)) h1 f U
 show wpAny (model prog w) A _ O E {s with heap:=m};dsimp only;by_cases f:vs.toArray.size<2
 . rw[if_pos f,if_pos f];refine wpAny_bind (wpAny_pure ?_);rw[StateT.run_pure];refine wpAny_bind (wpAny_pure ?_);dsimp only;have eo:(arrOf (SortSt.mk' general' (vs.toArray.zip vs.toArray) #[] 7 none)).map (·.2)=List.toArray (pick Value.none (List.range vs.length) vs):=by rw[mV];apply Array.toList_inj.mp;show((vs.toArray.zip vs.toArray).map (·.2)).toList=vs;simp[List.map_snd_zip]
   rw[eo];refine wpAny_bind (seqEpoch_at g rfl ?_);refine wpAny_bind (listUpdate_at g rfl ?_ (vf) (by rw[size_toArray,qx (.refl _),sizeLine_eq];omega));simp only[bne_self_eq_false,false_eq_true,if_false];refine wpAny_pure (fin _ (.refl _) ?_);rw[B,mV];refine qZ so (.refl _) ?_;match ds,(show ds.length<2 by simp at f;omega)with|[],_=>exact .nil|[_],_=>exact List.pairwise_singleton ..|_::_::_,f=>simp at f;omega
 . rw[if_neg f,if_neg f];have W:2<=vs.length:=by simpa using f
   refine wpAny_bind (N m keep _ ?_ W|>fun q=>wpAny_mono q (fun _ _ x=>x) fun _ _ x=>x.elim);have H:(vs.toArray.zip vs.toArray).toList=(List.range vs.length).map fun i=>(vs.getD i Value.none,vs.getD i Value.none):=by
    refine ext_getElem (by simp) fun i h1 f=>?_;have:i<vs.length:=by simpa using f
    simp[this]
   have X:∀x∈(vs.toArray.zip vs.toArray).toList,∃d,d∈ds/\P x.1 d:=fun x hx=>by rw[H]at hx;obtain⟨i,hi,rfl⟩:=mem_map.mp hx;have:=kW L i (mem_range.mp hi);exact⟨_,this.2,this.1⟩
   have R:Rk (model prog w) A E {s with heap:=m} κ (fun x=>∃d,d∈ds/\P x.1 d) (rkK P ds):=⟨by rintro x y Q st⟨d,d1,d2⟩⟨e,l,t⟩Y hq;rw[Cq fn d1 d2,Cq fn l t,IV d1]at hq;rw[lt'_eq];refine wpS_bind (wpS_get ?_);rw[Y];refine wpS_bind (wpS_lift (wpAny_attempt (wpAny_mono (hl m keep x.1 y.1 d e d2 t (fun b Z=>Z={s with heap:=m}/\b=bH (cR d) (cR e)) ⟨rfl,rfl⟩) ?_ fun _ _ h=>h.elim)));rintro b Z⟨rfl,rfl⟩;exact⟨rfl,wpS_pure hq⟩⟩;have at':∀k,k<vs.length->it (vs.toArray.zip vs.toArray) k=(vs.getD k .none,vs.getD k .none):=fun k N=>by rw[M9,H];simp[N]
   have hsz:(vs.toArray.zip vs.toArray).size=vs.length:=by simp
   have sg:Seg (rkK P ds) (vs.toArray.zip vs.toArray) 0 (vs.toArray.zip vs.toArray).size:=fun i j _ ij jn=>by
    rw[hsz]at jn;rw[at' i (by omega),at' j jn];have a1:=kW L i (by omega);have a2:=kW L j jn;rw[Cq fn a1.2 a1.1,Cq fn a2.2 a2.1];by_cases e:i=j;.rw[e];exact Int.le_refl _
    . have I:=List.pairwise_iff_getElem.mp z i j (by omega) (by omega) (by omega);simp only[mJ,not_eq_true']at I;have l:ds.getD i .non=ds[i]'(by omega):=by simp[show i<ds.length by omega]
      have t:ds.getD j .non=ds[j]'(by omega):=by simp[show j<ds.length by omega]
      rw[<-l,<-t,<-IV a2.2,decide_eq_false_iff_not]at I;omega
   have run:=Gn R (x0:=vs.toArray.zip vs.toArray) (st:=SortSt.mk' κ (vs.toArray.zip vs.toArray) #[] 7 none) (Q:=fun _ r=>∃p:List Nat,p.Perm (List.range vs.length)/\pick .non p ds=Pu ds/\(arrOf r).map (·.2)=(pick Value.none p vs).toArray/\failedOf r=none) ⟨rfl,rfl,rfl,rfl,.refl _,X,rfl,vf⟩ sg (by rw[hsz];omega) fun r l t=>by
     refine⟨List.range vs.length,.refl _,?_,?_,t⟩;.rw[B,mV];exact qZ so (.refl _) z
     .rw[l,mV];apply Array.toList_inj.mp;simp[List.map_snd_zip]
   refine wpAny_bind (wpAny_mono run ?_ fun _ _ e=>e);rintro⟨⟨⟩,r⟩Z⟨rfl,p,p1,p2,J,hf⟩;dsimp only;rw[J];refine wpAny_bind (seqEpoch_at g rfl ?_);refine wpAny_bind (listUpdate_at g rfl ?_ (vf) (by rw[size_toArray,qx p1,sizeLine_eq];omega));rw[hf];simp only[bne_self_eq_false,false_eq_true,if_false];exact wpAny_pure (fin _ p1 p2)
end
end HH
end
section
namespace HH
open PySem L2 PySem.Spec PyProof.Rows PySem.Calls PySem.W
noncomputable def yq(nw:Addr->Option HO)(H:Hp):Hp:=fun a=>match nw a with|some o=>some o|none=>H a
theorem vH{nw:Addr->Option HO}{H:Hp}{a:Addr}{o:HO}(h:nw a=some o):yq nw H a=some o:=by unfold yq;rw[h]
theorem gW{nw:Addr->Option HO}{H:Hp}{a:Addr}(h:nw a=none):yq nw H a=H a:=by unfold yq;rw[h]
theorem Xu{X:Cx}{g:List (Addr×Obj)}{σ:L2.St}{H:Hp}{s:Shared}{h':Heap}{t':Nat}{nw:Addr->Option HO}(I:L2.Inv X g σ H s)(k:∀b u,s.heap.get? b=some u->h'.get? b=some u)(i:∀a o,nw a=some o->s.heap.objs.size<=a)(h:∀a o,nw a=some o->bJ X.prog X.w (yq nw H) h' a o):L2.Inv X g σ (yq nw H) {s with heap:=h',toks:=t'}:=by
 have no:∀a,a<s.heap.objs.size->nw a=none:=fun a j=>by cases q:nw a with|none=>rfl|some o=>exact absurd (i a o q) (Nat.not_le_of_lt j)
 have f:∀a o,H a=some o->yq nw H a=some o:=fun a o e=>by rw[gW (no a (I.hok.lt e))];exact e
 refine I.un ⟨fun b u q _ _ _=>k b u q,fun b u q _ _ _=>⟨u.slots,k b u q⟩,fun b u q n _=>?_,fun b u q _=>⟨u,k b u q⟩,fun b xs q=>f b _ q,fun b u xs q=>f b _ q,fun b ps q=>⟨#[],by rw[f b _ q];simp⟩⟩ fun b u e=>?_;.rw[gW (no b (lt_size q))];exact n
 .cases q:nw b with|some o=>rw[vH q]at e;cases e;exact h b _ q|none=>rw[gW q]at e;exact(I.hok b u e).stay (fun c v _ z=>k c v z) (fun c z=>f c _ z) fun c xs z=>f c _ z
def iv(l d:Addr):Heap->Prop:=fun h=>h.IsItemsView l d
def G5:V->List V->Hp->VK->Prop:=fun x xs H Q=>∃q a kvs,x=.ref q/\xs=[]/\H q=some (.dj a (.dK (map sI kvs)))/\∀l,H l=none->Q (.ref l) (upd H l (.ext (iv l q)))
def rIt(X:Cx):List V->Hp->VK->Prop:=fun xs H Q=>∃l q f kvs,xs=[.ref l]/\H l=some (.ext (iv l q))/\H q=some (.dj f (.dK (map sI kvs)))/\(kvs.length<=16777216/\kvs.Pairwise (fun a b=>a.1<b.1))/\∃F,aF F H/\∀v e c,Ext F H e c->cj X.K e c H v (.own (kvs.map jw))->Q v c
theorem xr{P:Program}{w:World}{h:Heap}:∀{kvs:List (Int×Int)}{vs:List (Key×Value)}{as:List Addr},KV (kvs.map sI) vs->as.length=vs.length->(∀(j:Nat)(a:Addr),as[j]?=some a->∃key k x,vs[j]?=some (k,x)/\(bh P w).is k key=true/\h.get? a=some {cls:=.type "tuple",data:=.seq #[key,x]})->∀(j:Nat)(a:Addr),as[j]?=some a->∃p,kvs[j]?=some p/\∃t u,h.get? a=some {cls:=.type "tuple",data:=.seq #[Value.int p.1 t,Value.int p.2 u]}
 |[],_,as,.nil,f,_,j,a,e=>by cases as with|nil=>cases e|cons _ _=>simp at f
 |p::kvs,_,as,.cons (b:=q) r t,f,hk,j,a,e=>by cases as with|nil=>cases e|cons b as=>cases j with
     |zero=>
       obtain⟨key,k,x,g,m,n⟩:=hk 0 a e;simp at g;have o:k=Sum.inl p.1:=by have z:=r.1;rw[g]at z;exact z.symm
       have s:∃u,x=Value.int p.2 u:=by have z:=r.2;rw[g]at z;exact z
       subst o;obtain⟨u,rfl⟩:=s;obtain⟨i,v,l,rfl⟩|⟨_,_,l,_⟩:=bI (show oZ (Sum.inl p.1) key=true from m);.cases l;exact⟨p,rfl,v,u,n⟩
       .cases l|succ j=>exact xr t (by simpa using f) (fun i c z=>by simpa using hk (i+1) c (by simpa using z)) j a (by simpa using e)
noncomputable def tpV(p:Int×Int):HO:=.tup [.int p.1,.int p.2]
noncomputable def pI:List Addr->List (Int×Int)->Addr->Option HO|a::as,p::ps,b=>if b=a then some (tpV p)else pI as ps b|_,_,_=>none
theorem pY:∀{as:List Addr}{ps:List (Int×Int)}{b:Addr}{o:HO},pI as ps b=some o->∃(j:Nat)(p:Int×Int),as[j]?=some b/\ps[j]?=some p/\o=tpV p
 |a::as,p::ps,b,o,h=>by
   unfold pI at h;split at h;.rename_i e;cases h;subst e;exact⟨0,p,rfl,rfl,rfl⟩
   .obtain⟨j,q,h1,c,f⟩:=pY h;exact⟨j+1,q,by simpa using h1,by simpa using c,f⟩|[],_,_,_,h=>by simp[pI]at h|_::_,[],_,_,h=>by simp[pI]at h
theorem Bd:∀{as:List Addr}{ps:List (Int×Int)},as.Pairwise (·<·)->∀{j:Nat}{b:Addr}{p:Int×Int},as[j]?=some b->ps[j]?=some p->pI as ps b=some (tpV p)|[],_,_,_,_,_,h,_=>by simp at h|_::_,[],_,_,_,_,_,h=>by simp at h|a::as,q::ps,c,j,b,p,h1,f=>by unfold pI;cases j with|zero=>cases h1;cases f;rw[if_pos rfl]|succ j=>
     have h1:as[j]?=some b:=by simpa using h1
     have:=(List.pairwise_cons.mp c).1 b (mem_of_getElem? h1);rw[if_neg (fun e=>by rw[e]at this;exact lt_irrefl _ this)];exact Bd (List.pairwise_cons.mp c).2 h1 (by simpa using f)
theorem qL:∀as:List Addr,Vals (as.map V.ref) (as.map Value.ref)|[]=>.nil|_::as=>.cons rfl (qL as)
theorem Cu{K:PySem.W.Frag}{F:Hp}:∀{as:List Addr}{ps:List (Int×Int)},as.length=ps.length->(∀(j:Nat)(b:Addr)(p:Int×Int),as[j]?=some b->ps[j]?=some p->F b=some (tpV p))->aG K F (as.map V.ref) (ps.map jw)|[],[],_,_=>.nil|a::as,p::ps,c,h=>.cons (by have:=h 0 a p rfl rfl;rw[show jw p=.tup [.int p.1,.int p.2]from rfl,Rep];refine⟨a,_,rfl,.inl (.inl this),.cons (by rw[Rep]) (.cons (by rw[Rep]) .nil)⟩) (Cu (by simpa using c) fun j b q h1 e=>h (j+1) b q (by simpa using h1) (by simpa using e))|[],_::_,c,_=>by simp at c|_::_,[],c,_=>by simp at c
theorem CT{h:Heap}:∀{as:List Addr}{ps:List (Int×Int)},as.length=ps.length->(∀(j:Nat)(b:Addr),as[j]?=some b->∃p,ps[j]?=some p/\∃t u,h.get? b=some {cls:=.type "tuple",data:=.seq #[Value.int p.1 t,Value.int p.2 u]})->Paired (pg h) (as.map Value.ref) (ps.map jw)|[],[],_,_=>.nil|a::as,p::ps,c,h=>.cons (by obtain⟨q,e,t,u,g⟩:=h 0 a rfl;cases e;exact⟨a,[Value.int p.1 t,Value.int p.2 u],[p.1,p.2],rfl,⟨_,g,rfl,0,rfl⟩,.cons _ _ (.cons _ _ .nil),by simp,rfl⟩) (CT (by simpa using c) fun j b h1=>by simpa using h (j+1) b (by simpa using h1))|[],_::_,c,_=>by simp at c|_::_,[],c,_=>by simp at c
theorem wg{prog:Program}{w:World}{A:Around}{E:Value->Shared->Prop}{s:Shared}{v d:Addr}{kvs:List (Key×Value)}{ep:Nat}{Q:List Value->Shared->Prop}(n:A.handled=none)(i:s.heap.IsItemsView v d)(j:s.heap.DictAt (bh prog w) d kvs ep)(p:kvs.length<=sizeLine)(t:∀(h':Heap)(f:Nat)(as:List Addr),(∀b o,s.heap.get? b=some o->h'.get? b=some o)->s.heap.objs.size<h'.objs.size->as.length=kvs.length->KdxG (bh prog w) kvs s.heap.objs.size h' as->Q (as.map Value.ref) {s with heap:=h',toks:=f}):wpAny (model prog w) A (collect (.ref v)) Q E s:=by
 have g:v<s.heap.objs.size:=let⟨_,h1,_⟩:=i;lt_size h1;have h:d<s.heap.objs.size:=j.lt_size;unfold collect;refine wpAny_bind (wpAny_runValue (codeAny_builtin F.entry_proto_collect ?_));rw[Around.under_plainId F.plain_proto_collect _];show wpAny _ A.in1 (newList []>>=fun l=>again (.builtin "list.__iadd__" ⟨[l,.ref v],[]⟩)) _ _ s;refine wpAny_bind (wpAny_newObj_type (wpAny_pure ⟨plainId_quiet F.plain_list_iadd _,codeAny_builtin F.entry_list_iadd ?_⟩));rw[Around.under_plainId F.plain_list_iadd _];show wpAny _ A.in1 (listExtendWith (.ref s.heap.objs.size) (.ref v) (.ref s.heap.objs.size)) _ _ _;refine kdx_extend (A:=A) (R:=fun r k=>match r with
  |.ok (.ret v)=>wpAny (model prog w) A (match v with
   |.ref a=>do let o<-load a match o.data with|.seq xs _=>pure xs.toList|_=>unsupported "internal:collect"
   |_=>unsupported "internal:collect") Q E k|.ok _=>False|.error e=>E e k) (s:={s with heap:=s.heap.push {cls:=.type "list",data:=.seq #[]}}) n (let⟨o,h1,q⟩:=i;⟨o,dG h1,q⟩) (j.at' fun o e=>dG e) s.heap.objs.size (ne_of_gt g) (ne_of_lt h) _ 0 (get?_push_size _ rfl) (fun h' f u B as x m y z c=>?_) p;refine wpAny_bind (wpAny_load m (wpAny_pure ?_));rw[c];exact t h' f as (fun b o e=>x b o (ne_of_lt (lt_size e)) (dG e)) (lt_size m) y (z.low (by rw[size_push'];exact le_succ _))
section
variable{X:Cx}{c:Call}{a:Expr}{pa:P}{pos:Pos}
theorem HQ:MtR X "dict.items" G5:=by rintro f s σ H x xs v u Q I h i⟨q,j,kvs,rfl,rfl,l,k⟩;cases h;cases i;obtain⟨ho,hz,m,vs,r,g⟩:=(show bJ X.prog X.w H s.heap q (.dj j (.dK (kvs.map sI)))from I.hok q _ l);refine call_meetsIn PySem.F.slot_dict_items g.typeIs PySem.F.entry_dict_items (PySem.F.args_dict_items_1 _) (meets_dict_items _ q m) ⟨⟨vs,g⟩,?_⟩;have n:(s.heap.push {cls:=.type "dict_items",data:=.fields #[.ref q]}).IsItemsView s.heap.objs.size q:=⟨_,get?_push_size _ rfl,rfl,rfl⟩;refine⟨.ref s.heap.objs.size,_,I.laid (t':=s.toks) (o:=.ext (iv s.heap.objs.size q)) (fun b o e=>dG e) (dz) ⟨n,⟨_,get?_push_size _ rfl⟩,fun h1 y z k=>?_⟩,rfl,k _ (I.hok.fresh (dz))⟩;obtain⟨o,p,t⟩:=z;exact⟨o,k o p,t⟩
theorem Th(hc:X.calm=true):dI X (.builtin "sorted") (rIt X):=by
 rintro al s σ H xs us Q I r⟨l,q,ob,kvs,hx,hl,hq,⟨am,ac⟩,F,sm,k⟩;subst hx;have so:sortable (kvs.map jw)=true:=by
  have:(kvs.map jw).all v7=true:=by rw[all_eq_true];intro x hx;obtain⟨p,_,rfl⟩:=mem_map.mp hx;rfl
  simp only[sortable,length_map,this,Bool.or_true,Bool.and_true,decide_eq_true_eq];omega
 have J:(kvs.map jw).Pairwise fun a b=>mJ a b=true:=by rw[List.pairwise_map];refine ac.imp fun{a b}h=>?_;show(!bH [b.1,b.2] [a.1,a.2])=true;simp[bH];omega
 have ae:Pu (kvs.map jw)=kvs.map jw:=(qZ so (.refl _) J).symm;rw[<-ae]at k;obtain⟨u,rfl,rx⟩:=r.one;cases rx;obtain⟨af,_,_⟩:=(show bJ X.prog X.w H s.heap l (.ext (iv l q))from I.hok l _ hl);obtain⟨ho,hz,hS,vs,rv,dd⟩:=(show bJ X.prog X.w H s.heap q (.dj ob (.dK (kvs.map sI)))from I.hok q _ hq);have L:vs.length=kvs.length:=by rw[<-Paired.length rv,length_map]
 obtain⟨f,es,ep,d1,d2,d3,d4⟩:=dd;have dat:s.heap.DictAt (bh X.prog X.w) q vs ep:=⟨f,es,d1,d2,d3,d4⟩;refine Calls.call_function_entry kind_sorted plain_sorted entry_sorted (args_sorted1 _) ?_;unfold Builtin.«sorted»;refine wpAny_bind (m:=checkCount "sorted" 1 1 _) (wpAny_pure ?_);refine wpAny_bind (wg (A:=X.A.in1) (I.ok.hd hc) af dat (by rw[L,sizeLine_eq];omega) fun h1 M as kp hsz N hG=>?_);have hsz:=le_of_lt hsz;have g:as.length=kvs.length:=N.trans L;have pr:=xr rv N hG.pairs;have tt:Paired (pg h1) (as.map Value.ref) (kvs.map jw):=CT g pr;have O:∀a o,pI as kvs a=some o->s.heap.objs.size<=a:=fun a o e=>by obtain⟨j,p,U,_,_⟩:=pY e;exact le_of_lt (hG.above a (mem_of_getElem? U))
 have i:∀a o,pI as kvs a=some o->H a=none:=fun a o e=>I.hok.fresh (O a o e);have B:aF H (yq (pI as kvs) H):=fun b o e=>by cases z:pI as kvs b with|none=>rw[gW z];exact e|some f=>rw[i b f z]at e;cases e
 have e0:Ext F H (yq (pI as kvs) F) (yq (pI as kvs) H):=by
  refine⟨B,fun b o e=>?_,fun b o e=>?_,fun b n n'=>?_⟩;.cases z:pI as kvs b with|none=>rw[gW z];exact e|some f=>have n0:=i b f z;rw[sm b o e]at n0;cases n0
  .cases z:pI as kvs b with|none=>rw[gW z]at e ⊢;exact sm b o e|some f=>rw[vH z]at e ⊢;exact e
  .cases z:pI as kvs b with|none=>rw[gW z]at n';exact absurd n n'|some f=>rw[i b f z];rfl
 have rs:aG X.K (yq (pI as kvs) F) (as.map V.ref) (kvs.map jw):=Cu g fun j b p h1 h2=>vH (Bd hG.rise h1 h2);have vv:=qL as;have ag:∀b∈as,b<h1.objs.size:=fun b hb=>hG.there hb;have W:(as.map Value.ref).length=kvs.length:=by rw[length_map];exact g
 refine wpAny_bind (wpAny_newList ?_ (by rw[W,sizeLine_eq];omega));generalize Y:(h1.push {cls:=.type "list",data:=.seq (as.map Value.ref).toArray}:Heap)=G;have Z:G.get? h1.objs.size=some (seqObj "list" (as.map Value.ref).toArray 0):=by rw[<-Y];exact get?_push_size _ rfl
 have J1:∀b o,h1.get? b=some o->G.get? b=some o:=fun b o e=>by rw[<-Y];exact dG e
 have E:∀b o,h1.get? b=some o->b≠h1.objs.size:=fun b o e=>ne_of_lt (lt_size e);show wpAny _ _ _ _ _ {s with heap:=G,toks:=M};refine wpAny_bind (wpAny_holding (wpAny_call_entry slot_list_sort ⟨_,Z,rfl⟩ entry_list_sort ?body (args_list_sort _)));case body=>
  refine Hc (s:={s with heap:=G,toks:=M}) (κ:=tuples' (Value.type "int"!=Value.type "tuple")) Z so (by omega) tt MJ J (fun h' k' C hC h2=>?_) (fun h' k' u v d e hd he C hC=>?_) fun h' cc p k' p1 p2 e=>?_;.exact Em (s:={s with heap:=h',toks:=M}) (sU (fun b o z=>k' b o (E b o z) (J1 b o z)) tt) h2 hC
  .have kk:∀b o,h1.get? b=some o->h'.get? b=some o:=fun b o z=>k' b o (E b o z) (J1 b o z);exact KN (s:={s with heap:=h',toks:=M}) (ni kk hd) (ni kk he) hC
  . refine⟨_,rfl,wpAny_pure ⟨_,rfl,?_⟩⟩;have kk:∀b o,h1.get? b=some o->h'.get? b=some o:=fun b o z=>k' b o (E b o z) (J1 b o z);have hL:pI as kvs h1.objs.size=none:=by cases z:pI as kvs h1.objs.size with|none=>rfl|some o=>obtain⟨j,p,U,_,_⟩:=pY z;exact absurd (ag _ (mem_of_getElem? U)) (lt_irrefl _)
    have ah:upd (yq (pI as kvs) H) h1.objs.size (.lst (pick .non p (as.map V.ref)))=yq (fun b=>if b=h1.objs.size then some (.lst (pick .non p (as.map V.ref)))else pI as kvs b) H:=by
     funext b;unfold upd yq;by_cases z:b=h1.objs.size;.rw[if_pos z];simp only[if_pos z]
     .rw[if_neg z];simp only[if_neg z]
    have I':=Xu (t':=M) (h':=h') (nw:=fun b=>if b=h1.objs.size then some (.lst (pick .non p (as.map V.ref)))else pI as kvs b) I (fun b o z=>kk b o (kp b o z)) (fun a o z=>by
     by_cases y:a=h1.objs.size;.rw[y];exact hsz
     .simp only[if_neg y]at z;exact O a o z) (fun a o z=>by
     by_cases y:a=h1.objs.size;.simp only[if_pos y]at z;cases z;subst y;exact⟨by rw[qx p1,W,sizeLine_eq];omega,pick .none p (as.map Value.ref),cc,JD vv,e⟩
     .simp only[if_neg y]at z;obtain⟨j,p',U,e2,rfl⟩:=pY z;obtain⟨ap,e3,t,u,e4⟩:=pr j a U;rw[e2]at e3;cases e3;exact⟨by rw[sizeLine_eq];simp,[Value.int p'.1 t,Value.int p'.2 u],.cons ⟨t,rfl⟩ (.cons ⟨u,rfl⟩ .nil),⟨_,kk _ _ e4,rfl,0,rfl⟩⟩);rw[<-ah]at I';refine⟨.ref h1.objs.size,_,I',rfl,?_⟩;have ai:aG X.K (yq (pI as kvs) F) (pick .non p (as.map V.ref)) (Pu (kvs.map jw)):=by rw[<-p2];exact GZ rs
    refine wW e0.sub ai (by rw[gW hL];exact I.hok.fresh hsz) fun v F2 G x rn=>k v F2 G ⟨e0.hs.trans x.hs,e0.fs.trans x.fs,x.sub,fun c n n'=>?_⟩ ?_
    . by_cases e:yq (pI as kvs) F c=none;.have:=x.gr c e n';cases z:H c with|none=>rfl|some o=>rw[B c o z]at this;exact this
      .exact e0.gr c n e
    obtain⟨b,xs,q1,q2,q3,q4,q5⟩:=rn;refine⟨b,xs,q1,q2,q3,q4,?_⟩;cases z:H b with|none=>rfl|some o=>rw[B b o z]at q5;cases q5
theorem Hh{o:Expr}{to:TE}{f g:Pos}(ho:PE X o to)(j:attributeBase o "items" X.env (eval o X.env)=eval o X.env:=by rfl)(l:(f.endLine==g.line)=true:=by rfl):PE X (.Call (.Attribute o "items" f) [] [] g) (fun σ H Q=>to σ H fun x m=>G5 x [] m Q):=by intro i s σ H Q I h;refine wpAny_Call_method0_late j l (bR (ho i s σ H _ I h) fun v s1⟨x,m,I1,r1,q1⟩=>?_);obtain⟨q,u,kvs,rfl,_,y,k⟩:=id q1;cases r1;obtain⟨ho,hz,z,vs,r,n,es,ep,p,t,A⟩:=(show bJ X.prog X.w m s1.heap q (.dj u (.dK (kvs.map sI)))from I1.hok q _ y);refine⟨"dict","dict.items",PySem.F.plainAttrs_dict,PySem.F.slot_dict_items,PySem.F.type_dict_items,⟨n,p,t.1⟩,fun b e=>?_,Calls.callWith_builtin rfl (PySem.evalArgs_none (HQ i s1 σ m (.ref q) [] _ [] Q I1 rfl .nil q1))⟩;cases e;exact⟨n,p,t.2.1⟩
theorem Lw{x:Str}{U f j:Pos}{o:Expr}(W:x="sorted")(hc:X.calm=true)(Y:Gl X x)(Z:X.mg x=none)(p:(f.endLine==j.line)=true)(ha:SX X c o pa)(s:attributeBase o "items" X.env (eval o X.env)=eval o X.env:=by rfl):SX X c (.Call (.Name x U) [.Call (.Attribute o "items" f) [] [] j] [] pos) (.blt .JR [pa]):=by
 subst W;obtain⟨ta,h1,h3⟩:=ha.cC;refine⟨di (dO (Th hc) Y Z boot_sorted (bC (Hh h1 s p) cW)) ?_,fun i h=>by cases h⟩;rintro σ H Q⟨F,ρ,r,C,g,e,k⟩;have e:((cC (isVar pa) (HH.ev c pa) ρ).bind fun x ρ=>lift (blt .JR [x]) ρ)=.ok r C:=e;obtain⟨d,ac,e1,u⟩:=aj e;have zz:=aB u;clear u;obtain⟨u,e3⟩:=zz;subst e3;refine h3 g e1 fun v J y st pv=>?_;obtain⟨kvs,rfl⟩:∃kvs,d=.eO (.k kvs):=by cases d with
  |eO m=>cases m with|k kvs=>exact⟨kvs,rfl⟩|t kvs=>cases u
  |_=>cases u
 obtain⟨so,he⟩:=bz (show(if kvs.length<=16777216/\kvs.Pairwise (fun a b=>a.1<b.1)then some (R.own (kvs.map jw))else none)=some r from u);subst he;obtain⟨q,L,rfl,M⟩:=pv.eO st.gs.sub;refine⟨q,L,kvs,rfl,rfl,M,fun l A=>⟨l,q,L,kvs,rfl,aO,aF.cg A q _ M,so,J,fun b o e=>aF.cg A b o (st.gs.sub b o e),fun w E G B rn=>?_⟩⟩;have sm:aF y (upd y l (.ext (iv l q))):=aF.cg A;have x3:Ext J y E G:=⟨sm.trans B.hs,B.fs,B.sub,fun b n n'=>by
  have:=B.gr b n n';by_cases N:b=l;.subst N;rw[A];rfl
  .rw[aD N]at this;exact this⟩;have I:cj X.K E G y w (.own (kvs.map jw)):=by obtain⟨b,xs,q1,q2,q3,q4,O⟩:=rn;refine⟨b,xs,q1,q2,q3,q4,?_⟩;cases z:y b with|none=>rfl|some o=>rw[sm b o z]at O;cases O
 exact k w E G (st.trans (x3.stp st.gs)) (.later st (I.nj st.gs))
end
end HH
end
section
namespace HH
open PySem L2 PySem.Spec PyProof.Rows
variable{o:Option V}{rows:List (List D)}
section
variable{K:PySem.W.Frag}{F F' F1 H H' H1 F0 H0:Hp}{ρ ρ' ρ1 ρ0:List Sl}{σ σ' σ1 σ0:L2.St}{x:Nat}{q:Addr}{as:List Addr}{rows o4:List (List D)}
noncomputable def Hx:Sl->Bool|.aQ=>true|.hold _=>true|_=>false
theorem gG{s:Sl}{i:Nat}{b:Addr}(g:Hx s=true)(h:aZ (ρ.set x s) (σ.set x o) i b):aZ ρ σ i b/\i≠x:=by
 obtain⟨⟨t,j,e,a⟩,f⟩:=h;by_cases c:x=i
 . subst c;rw[getElem?_set]at e;rw[if_pos rfl]at e;split at e;.cases e;cases s<;>first|(cases a;done)|(cases g;done)
   .cases e
 .rw[getElem?_set_ne c]at e f;exact⟨⟨⟨t,j,e,a⟩,f⟩,fun z=>c z.symm⟩
theorem GS.Bx{s:Sl}(f:Hx s=true)(g:GS K F ρ σ H):GS K F (ρ.set x s) (σ.set x o) H:=by
 refine⟨g.sub,by simp[g.len],fun i b d e=>?_,fun i t k e h=>?_,fun i j a h1 l=>g.dis i j a (gG f h1).1 (gG f l).1⟩
 . by_cases c:x=i
   . subst c;rw[getElem?_set,if_pos rfl]at e;split at e;.cases e;cases f
     .cases e
   .rw[getElem?_set_ne c]at e ⊢;exact g.val i b d e
 . by_cases c:x=i
   . subst c;rw[getElem?_set,if_pos rfl]at e;split at e;.cases e;cases s<;>first|(cases h;done)|(cases f;done)
     .cases e
   .rw[getElem?_set_ne c]at e ⊢;exact g.own i t k e h
theorem aC.Bx{s:Sl}{o:Option V}(a:Hx s=true)(t:aC K F ρ σ H F1 ρ1 σ1 H1)(f:∀s0,ρ[x]?=some s0->tY s0=false):aC K F ρ σ H F1 (ρ1.set x s) (σ1.set x o) H1:=by
 refine⟨t.gs.Bx a,t.bN,t.yh,t.keep,fun b⟨i,h⟩=>t.vW b ⟨i,(gG a h).1⟩,by simp[t.len],fun i g e l=>?_⟩;have c:x≠i:=by rintro rfl;rw[f _ e]at l;cases l
 obtain⟨j,s2,k,m⟩:=t.lk i g e l;exact⟨by rw[getElem?_set_ne c];exact j,s2,by rw[getElem?_set_ne c];exact k,m⟩
theorem aC.free{i:Nat}{s1:Sl}(t:aC K F ρ σ H F1 ρ1 σ1 H1)(h:ρ1[i]?=some s1)(a:tY s1=false):∀s0,ρ[i]?=some s0->tY s0=false:=fun s0 e=>by cases z:tY s0 with|false=>rfl|true=>obtain⟨_,s2,b,c⟩:=t.lk i s0 e z;rw[h]at b;cases b;rw[c.tY z]at a;cases a
structure T4(F:Hp)(ρ:List Sl)(σ:L2.St)(H:Hp)(a:Addr)(xs:List V):Prop where kp:Kp ρ σ H a (.lst xs)fr:F a=none
theorem T4.stp{a:Addr}{xs:List V}(h:T4 F ρ σ H a xs)(s:aC K F ρ σ H F' ρ' σ' H'):T4 F' ρ' σ' H' a xs:=by refine⟨h.kp.stp s,?_⟩;cases z:F' a with|none=>rfl|some o=>
   rcases s.yh a h.fr (by rw[z];simp)with y|y;.exact absurd y h.kp.2
   .rw[h.kp.1]at y;cases y
structure Nw(K:PySem.W.Frag)(x:Nat)(q:Addr)(as:List Addr)(F:Hp)(ρ:List Sl)(σ:L2.St)(H:Hp)(rows:List (List D)):Prop where
 slot:ρ[x]?=some (.hold rows)val:σ[x]?=some (some (.ref q))out:T4 F ρ σ H q (as.map V.ref)nd:(q::as).Nodup
 len:as.length=rows.length
 row:∀(k:Nat)(a:Addr)(ds:List D),as[k]?=some a->rows[k]?=some ds->Wt K F ρ σ H a ds
theorem Nw.stp(w:Nw K x q as F ρ σ H rows)(s:aC K F ρ σ H F' ρ' σ' H'):Nw K x q as F' ρ' σ' H' rows:=by obtain⟨b,s2,c,e⟩:=s.lk x _ w.slot rfl;cases(show s2=.hold rows from e);exact⟨c,b.trans w.val,w.out.stp s,w.nd,w.len,fun k a f h1 g=>(w.row k a f h1 g).stp s⟩
structure NB(K:PySem.W.Frag)(x:Nat)(q:Addr)(as:List Addr)(F0:Hp)(ρ0:List Sl)(σ0:L2.St)(H0:Hp)(F:Hp)(ρ:List Sl)(σ:L2.St)(H:Hp)(rows:List (List D)):Prop where
 stp:aC K F0 ρ0 σ0 H0 F ρ σ H
 fresh:∀b,b∈q::as->Own ρ0 σ0 b\/H0 b=none
 free:∀s0,ρ0[x]?=some s0->tY s0=false
 nw:Nw K x q as F ρ σ H rows
theorem NB.step(b:NB K x q as F0 ρ0 σ0 H0 F ρ σ H rows)(s:aC K F ρ σ H F' ρ' σ' H'):NB K x q as F0 ρ0 σ0 H0 F' ρ' σ' H' rows:=⟨b.stp.trans s,b.fresh,b.free,b.nw.stp s⟩
theorem CZ{s:Sl}{a:Addr}{b:HO}(c:Hx s=true)(h:Kp ρ σ H a b):Kp (ρ.set x s) (σ.set x o) H a b:=⟨h.1,fun⟨i,z⟩=>h.2 ⟨i,(gG c z).1⟩⟩
theorem Nb{s:Sl}{a:Addr}{b:List D}(c:Hx s=true)(h:Wt K F ρ σ H a b):Wt K F (ρ.set x s) (σ.set x o) H a b:=by obtain⟨⟨xs,h1,e⟩,f⟩:=h;exact⟨⟨xs,CZ c h1,e⟩,f⟩
theorem aC.adb{Da:Addr}{o:HO}(s:aC K F ρ σ H F1 ρ1 σ1 H1)(h:Own ρ σ Da\/H Da=none)(j:F1 Da=none)(ho:¬ Own ρ1 σ1 Da):aC K F ρ σ H F1 ρ1 σ1 (upd H1 Da o):=by
 refine⟨⟨fun b u e=>?_,s.gs.len,s.gs.val,fun i t c e f=>?_,s.gs.dis⟩,s.bN,s.yh,fun b u e n=>?_,s.vW,s.len,s.lk⟩
 . have:b≠Da:=by rintro rfl;rw[j]at e;cases e
   rw[aD this];exact s.gs.sub b u e
 . obtain⟨a,xs,g,k,l,m⟩:=s.gs.own i t c e f;have:a≠Da:=by rintro rfl;exact ho ⟨i,⟨t,c,e,f⟩,g⟩
   exact⟨a,xs,g,by rw[aD this];exact k,l,m⟩
 . have:b≠Da:=by
    rintro rfl;rcases h with h|h;.exact n h
    .rw[h]at e;cases e
   rw[aD this];exact s.keep b u e n
theorem NB.mut{r:Nat}{a:Addr}{row e:List D}{ys:List V}(b:NB K x q as F0 ρ0 σ0 H0 F ρ σ H rows)(g:as[r]?=some a)(hr:rows[r]?=some row)(n:aG K F ys e):NB K x q as F0 ρ0 σ0 H0 F (ρ.set x (.hold (rows.set r e))) σ (upd H a (.lst ys)) (rows.set r e):=by
 have w:=b.nw.row r a row g hr;obtain⟨⟨xs,l,r1⟩,f1⟩:=w;have p:x<ρ.length:=(dB b.nw.slot).1;have sx:σ.set x (some (.ref q))=σ:=by have:=b.nw.val;obtain⟨h1,f⟩:=dB this;rw[<-f];simp
 have mem:a∈q::as:=mem_cons_of_mem _ (mem_of_getElem? g);have s1:=(b.stp.adb (o:=.lst ys) (b.fresh a mem) f1 l.2).Bx (x:=x) (s:=.hold (rows.set r e)) (o:=some (.ref q)) rfl b.free;rw[sx]at s1;have t:q≠a:=by have:=(nodup_cons.mp b.nw.nd).1;rintro rfl;exact this (mem_of_getElem? g)
 have own:∀{c:Addr},¬ Own ρ σ c->¬ Own (ρ.set x (.hold (rows.set r e))) σ c:=fun{c}h⟨i,z⟩=>h ⟨i,by have:=gG (x:=x) (s:=.hold (rows.set r e)) (o:=some (.ref q)) (σ:=σ) (ρ:=ρ) rfl (b:=c) (i:=i) (by rw[sx];exact z);exact this.1⟩;refine⟨s1,b.fresh,b.free,⟨getElem?_set_self p,b.nw.val,⟨⟨by rw[aD t];exact b.nw.out.kp.1,own b.nw.out.kp.2⟩,b.nw.out.fr⟩,b.nw.nd,by simp[b.nw.len],fun k c u h1 f=>?_⟩⟩;by_cases j:k=r;.subst j;rw[g]at h1;cases h1;have v:k<rows.length:=(dB hr).1;rw[getElem?_set_self v]at f;cases f;exact⟨⟨ys,⟨aO,own l.2⟩,n⟩,f1⟩
 . rw[getElem?_set_ne (fun z=>j z.symm)]at f;obtain⟨⟨y,m,A⟩,f2⟩:=b.nw.row k c u h1 f;have nc:c≠a:=by rintro rfl;have nd:=(nodup_cons.mp b.nw.nd).2;obtain⟨E,B⟩:=dB h1;obtain⟨l2,C⟩:=dB g;exact j ((List.getElem_inj nd).mp (B.trans C.symm))
   exact⟨⟨y,⟨by rw[aD nc];exact m.1,own m.2⟩,A⟩,f2⟩
noncomputable def Fz(F H:Hp)(bs:List Addr):Hp:=fun b=>if b∈bs then H b else F b
theorem tU{G:Hp}:∀{as:List Addr}{rows:List (List D)},as.length=rows.length->(∀(k:Nat)(a:Addr)(c:List D),as[k]?=some a->rows[k]?=some c->Rep K G (.ref a) (.lst c))->aG K G (as.map V.ref) (rows.map D.lst)|[],[],_,_=>.nil|a::as,c::rows,h,k=>.cons (k 0 a c rfl rfl) (tU (by simpa using h) fun j b es h1 e=>k (j+1) b es (by simpa using h1) (by simpa using e))|[],_::_,h,_=>by simp at h|_::_,[],h,_=>by simp at h
theorem Nw.Pz(w:Nw K x q as F ρ σ H rows){b:Addr}(hb:b∈q::as):F b=none/\¬ Own ρ σ b:=by
 rcases mem_cons.mp hb with rfl|hb;.exact⟨w.out.fr,w.out.kp.2⟩
 . obtain⟨k,a⟩:=List.getElem?_of_mem hb;have c:k<rows.length:=by rw[<-w.len];exact(dB a).1
   obtain⟨⟨xs,e,_⟩,f1⟩:=w.row k b rows[k] a (by simp[c]);exact⟨f1,e.2⟩
theorem Nw.fz(w:Nw K x q as F ρ σ H rows)(sm:aF F H):aF F (Fz F H (q::as))/\aF (Fz F H (q::as)) H/\Rep K (Fz F H (q::as)) (.ref q) (.lst (rows.map D.lst)):=by
 have s1:aF F (Fz F H (q::as)):=fun b o e=>by unfold Fz;rw[if_neg fun c=>by rw[(w.Pz c).1]at e;cases e];exact e
 refine⟨s1,fun b o e=>?_,?_⟩
 . unfold Fz at e;split at e;.exact e
   .exact sm b o e
 .rw[Rep];refine⟨q,as.map V.ref,rfl,eV.of (by unfold Fz;rw[if_pos mem_cons_self];exact w.out.kp.1),tU w.len fun k a f h1 g=>?_⟩;obtain⟨⟨xs,h,r1⟩,f1⟩:=w.row k a f h1 g;rw[Rep];exact⟨a,xs,rfl,eV.of (by unfold Fz;rw[if_pos (mem_cons_of_mem _ (mem_of_getElem? h1))];exact h.1),r1.mono s1⟩
theorem NB.dj(b:NB K x q as F0 ρ0 σ0 H0 F ρ σ H rows):aC K F0 ρ0 σ0 H0 (Fz F H (q::as)) (ρ.set x (.val false (.lst (rows.map D.lst)))) σ H:=by
 obtain⟨s1,s2,w⟩:=b.nw.fz b.stp.gs.sub;have g:=b.stp.gs;have s:x<ρ.length:=(dB b.nw.slot).1;have k:∀{j:Nat}{c:Addr},aZ (ρ.set x (.val false (.lst (rows.map D.lst)))) σ j c->aZ ρ σ j c/\x≠j:=fun{j c}⟨⟨t,r,e,m⟩,e1⟩=>by
  by_cases f:x=j;.subst f;rw[getElem?_set_self s]at e;cases e;cases m
  .rw[getElem?_set_ne f]at e;exact⟨⟨⟨t,r,e,m⟩,e1⟩,f⟩
 refine⟨⟨s2,by simp[g.len],fun i y d e=>?_,fun i t r e m=>?_,fun i j c h1 p=>g.dis i j c (k h1).1 (k p).1⟩,b.stp.bN.trans s1,fun c n u=>?_,b.stp.keep,fun c⟨j,h⟩=>b.stp.vW c ⟨j,(k h).1⟩,by simp[b.stp.len],fun i t e l=>?_⟩
 . by_cases f:x=i;.subst f;rw[getElem?_set_self s]at e;cases e;exact⟨_,b.nw.val,w⟩
   .rw[getElem?_set_ne f]at e;obtain⟨v,h1,p⟩:=g.val i y d e;exact⟨v,h1,p.mono s1⟩
 . by_cases f:x=i;.subst f;rw[getElem?_set_self s]at e;cases e;cases m
   .rw[getElem?_set_ne f]at e;obtain⟨a,o,h1,p,z,A⟩:=g.own i t r e m;refine⟨a,o,h1,p,?_,A.mono s1⟩;unfold Fz;rw[if_neg fun B=>(b.nw.Pz B).2 ⟨i,⟨t,r,e,m⟩,h1⟩];exact z
 . by_cases hc:c∈q::as;.exact(b.fresh c hc).imp id kE
   . have:Fz F H (q::as) c=F c:=by unfold Fz;rw[if_neg hc]
     rw[this]at u;exact b.stp.yh c n u
 . have c:x≠i:=by rintro rfl;rw[b.free _ e]at l;cases l
   obtain⟨C,s3,E,G⟩:=b.stp.lk i t e l;exact⟨C,s3,by rw[getElem?_set_ne c];exact E,G⟩
end
inductive RL(K:PySem.W.Frag)(x:Nat)(f:List Sl->Res Fl)(E:Ends)(σ:L2.St)(H:Hp):Prop where|mk(F0:Hp)(ρ0:List Sl)(σ0:L2.St)(H0 F:Hp)(ρ:List Sl)(q:Addr)(as:List Addr)(rows:List (List D))(fl:Fl)(ρ':List Sl)(b:NB K x q as F0 ρ0 σ0 H0 F ρ σ H rows)(e:f ρ=.ok fl ρ')(k:∀F' σ' H',aC K F0 ρ0 σ0 H0 F' ρ' σ' H'->aF F F'->((∀r,fl≠.ret r)->∃o4,NB K x q as F0 ρ0 σ0 H0 F' ρ' σ' H' o4)->JL K E F' ρ' σ' H' ρ0 σ0 H0 fl)
inductive Xp(K:PySem.W.Frag)(x:Nat)(f:List Sl->Res Fl)(E:Ends)(σ:L2.St)(H:Hp):Prop where|mk(F0:Hp)(ρ0:List Sl)(σ0:L2.St)(H0 F:Hp)(ρ:List Sl)(q:Addr)(as:List Addr)(rows:List (List D))(fl:Fl)(ρ':List Sl)(b:NB K x q as F0 ρ0 σ0 H0 F ρ σ H rows)(e:f ρ=.ok fl ρ')(k:∀F' σ' H',aC K F0 ρ0 σ0 H0 F' ρ' σ' H'->JL K E F' ρ' σ' H' ρ0 σ0 H0 fl)
structure Y7(X:Cx)(c:Call)(n x:Nat)(st:Stmt)(s:S):Prop where p:PS X st (RL X.K x (ex c n s))
structure WW(X:Cx)(c:Call)(n x:Nat)(st:List Stmt)(s:List S):Prop where p:xn X st (RL X.K x (iz c n s))
structure SBT(X:Cx)(c:Call)(n x:Nat)(st:List Stmt)(s:List S):Prop where p:xn X st (Xp X.K x (iz c n s))
section
variable{X:Cx}{c:Call}{n x:Nat}{e a b d tg iter:Expr}{p pa pb pd:P}{pos:Pos}{body:List Stmt}{ss:List S}{st:Stmt}{s:S}{sts:List Stmt}
theorem pN:WW X c n x [] []:=⟨m8 CQ fun D σ H⟨f,ρ0,σ0,H0,F,ρ,q,as,rows,fl,ρ',nb,e,k⟩=>by rw[xs0]at e;cases e;exact k F σ H nb.stp (.refl _) fun _=>⟨rows,nb⟩⟩
theorem qU(h1:Y7 X c n x st s)(w:WW X c n x sts ss):WW X c n x (st::sts) (s::ss):=by refine⟨m8 (lX h1.p w.p) ?_⟩;rintro D σ H⟨h,f,g,i,F,ρ,q,as,rows,fl,t,l,e,k⟩;rw[TX]at e;obtain⟨f1,j,m,e⟩:=aj e;cases f1 with|next=>refine⟨h,f,g,i,F,ρ,q,as,rows,.next,j,l,m,fun F1 y I s1 sm nn=>?_⟩;obtain⟨A,B⟩:=nn (fun r z=>by cases z);exact⟨h,f,g,i,F1,j,q,as,A,fl,t,B,e,fun C u E s2 G v=>k C u E s2 (sm.trans G) v⟩|brk=>cases e;exact⟨h,f,g,i,F,ρ,q,as,rows,.brk,_,l,m,k⟩|cont=>cases e;exact⟨h,f,g,i,F,ρ,q,as,rows,.cont,_,l,m,k⟩|ret r=>cases e;exact⟨h,f,g,i,F,ρ,q,as,rows,.ret r,_,l,m,k⟩
theorem GC(h1:Y7 X c n x st s)(w:SBT X c n x sts ss):SBT X c n x (st::sts) (s::ss):=by refine⟨m8 (lX h1.p w.p) ?_⟩;rintro D σ H⟨j,g,h,l,F,ρ,q,as,rows,fl,v,t,e,k⟩;rw[TX]at e;obtain⟨f1,m,u,e⟩:=aj e;cases f1 with|next=>refine⟨j,g,h,l,F,ρ,q,as,rows,.next,m,t,u,fun F1 f i s1 sm nn=>?_⟩;obtain⟨y,A⟩:=nn (fun r z=>by cases z);exact⟨j,g,h,l,F1,m,q,as,y,fl,v,A,e,k⟩|brk=>cases e;exact⟨j,g,h,l,F,ρ,q,as,rows,.brk,_,t,u,fun F1 f i s1 _ _=>k F1 f i s1⟩|cont=>cases e;exact⟨j,g,h,l,F,ρ,q,as,rows,.cont,_,t,u,fun F1 f i s1 _ _=>k F1 f i s1⟩|ret r=>cases e;exact⟨j,g,h,l,F,ρ,q,as,rows,.ret r,_,t,u,fun F1 f i s1 _ _=>k F1 f i s1⟩
theorem K3(h:SB X c n sts ss):SBT X c n x sts (.dj x::ss):=by refine⟨m8 h ?_⟩;rintro D σ H⟨B,l,m,C,F,ρ,q,as,rows,fl,f,i,e,k⟩;rw[TX]at e;obtain⟨f1,u,j,e⟩:=aj e;rw[HH.X24,i.nw.slot]at j;cases j;have t:=i.dj;refine⟨_,_,fl,f,t.gs,e,fun w g y s=>?_⟩;have z:=k w g y (t.trans s);cases fl with|next=>exact z|brk=>exact z|cont=>exact z|ret r=>exact fun v A=>z v (A.later t)
theorem Q9{r u:List Stmt}{v w:List S}(hc:ST X c e p)(z:WW X c n x r v)(A:WW X c n x u w):Y7 X c n x (.If e r u pos) (.ifs p v w):=by refine⟨dw (Oz hc z.p A.p) ?_⟩;rintro D σ H⟨B,j,l,C,F,ρ,q,as,rows,fl,i,y,e,k⟩;rw[HH.X13]at e;obtain⟨t,g,E,e⟩:=aj e;refine⟨F,ρ,t,g,y.stp.gs,E,fun F1 G s1=>?_⟩;have go:∀{f:List Sl->Res Fl},f g=.ok fl i->RL X.K x f D σ G:=fun{f}h=>⟨B,j,l,C,F1,g,q,as,rows,fl,i,y.step s1,h,fun I m J s2 sm nn=>k I m J s2 (s1.bN.trans sm) nn⟩;cases t with|true=>rw[if_pos rfl]at e;exact go e|false=>rw[if_neg Bool.false_ne_true]at e;exact go e
theorem HW{ρ:List Sl}(h:ji ρ x=some rows):ρ[x]?=some (.hold rows):=by
 unfold ji at h;split at h;.rename_i z;cases h;exact z
 .cases h
def WalkN(K:PySem.W.Frag)(J:It)(i:List D)(F1:Hp):Prop:=∀(k:Nat)(h f:Hp),aF F1 h->aF h f->(∀d,i[k]?=some d->J.go k f/\∀x j,J.JP k f x j->∃g,Ext h f g j/\Rep K g x d)/\(i.length<=k->J.stop k f)
inductive aeT(K:PySem.W.Frag)(f:Ev)(σ:L2.St)(H:Hp)(R:It->Hp->Prop):Prop where|mk(F:Hp)(ρ:List Sl)(r:HH.R)(ρ1:List Sl)(ds:List D)(g:GS K F ρ σ H)(e:f ρ=.ok r ρ1)(e2:items r.d=some ds)(k:∀J F1 H1,aC K F ρ σ H F1 ρ1 σ H1->WalkN K J ds F1->R J H1)
structure SIN(X:Cx)(c:Call)(tg e:Expr)(p:P):Prop where p:PI X tg e (aeT X.K (HH.ev c p))
theorem K9(h:SX X c e p):SIN X c tg e p:=by refine⟨lA (yM h.ev) ?_⟩;rintro σ H R⟨F,ρ,r,m,y,g,e,i,k⟩;refine⟨F,ρ,r,m,g,e,fun v z A s t=>?_⟩;obtain⟨B,s2,_,j⟩:=s.dj t;cases hd:r.d with|tup es=>rw[hd]at j i;cases i;rw[Rep]at j;obtain⟨a,xs,rfl,h1,q⟩:=j;exact⟨a,rfl,.inr ⟨⟨xs,aF.gB s2.gs.sub h1⟩,k _ _ _ s2 fun k u w f l=>Av (aF.gB l (aF.gB f h1)) (q.mono f) l k⟩⟩|lst es=>rw[hd]at j i;cases i;rw[Rep]at j;obtain⟨a,xs,rfl,h1,q⟩:=j;exact⟨a,rfl,.inl ⟨⟨xs,s2.gs.sub.seq h1⟩,k _ _ _ s2 fun k u w f l=>qw (l.seq (f.seq h1)) (q.mono f) l k⟩⟩|_=>rw[hd]at i;cases i
theorem Ej{K:PySem.W.Frag}{F1:Hp}(i j:Int):WalkN K (V4 i (j-i).toNat) ((List.range (j-i).toNat).map fun(k:Nat)=>D.int (i+(k:Int))) F1:=by
 refine fun k g u _ sm=>⟨fun d hd=>?_,fun h=>?_⟩;.rw[getElem?_map]at hd;obtain⟨m,l,q⟩:=map_some hd;obtain⟨h1,f⟩:=dB l;rw[List.getElem_range]at f;subst f;subst q;rw[length_range]at h1;refine⟨h1,?_⟩;rintro x v⟨r,t⟩;subst r;subst t;exact⟨g,.refl sm,bL _⟩
 .rw[length_map,length_range]at h;exact h
theorem Hm{x:Str}{q:Pos}(t:x="range")(u:Gl X x)(w:X.mg x=none)(y:SX X c a pa)(hs:starEach [a] X.env=[(false,eval a X.env)]:=by rfl):SIN X c tg (.Call (.Name x q) [a] [] pos) (.rW (.con (.int 0)) pa):=by
 subst t;obtain⟨O,h1,z⟩:=y.cC;refine⟨lA (tW u w (bC h1 cW hs) hs) ?_⟩;rintro σ H R⟨F,ρ,r,A,Q,g,l,B,k⟩;rw[HH.E21]at l;obtain⟨U,C,E,f⟩:=aj l;have G:=aB f;clear f;obtain⟨f,I⟩:=G;subst I;obtain⟨W,J,L,h⟩:=aj E;cases h;obtain⟨i,f1,f⟩:=bV f;obtain⟨j,f2,f⟩:=bV f;obtain⟨⟨b1,b2,b3,b4⟩,f⟩:=bz f;have f1:i=0:=by cases f1;rfl
 subst f1;subst f;cases B;cases cG f2;refine z g L fun v m M s N=>⟨j,by rw[N.int],by omega,by omega,?_⟩;have:=Ej (K:=X.K) (F1:=m) 0 j;rw[sub_zero]at this;refine k _ m M s ?_;rw[sub_zero];exact this
theorem BW{g:TG}{is:List Nat}{one:Bool}(hp:PassesOwn (model X.prog X.w) X.A X.env X.xe)(hc:X.calm=true)(hi:SIN X c tg iter p)(hg:PG X tg g)(ag:Ii X.K (fun ρ d=>cT ρ is one d) g)(hb:WW X c n x body ss)(hs:∀x,foldedSetIterable iter X.env x=pure x:=by intro _;rfl):Y7 X c n x (.For tg iter body [] pos) (.Fv p is one ss):=by
 refine⟨dw (JH hp hc hi.p hg hb.p hs) ?_⟩;rintro D σ H⟨F0,G,I,H0,F,ρ,q,as,rows,fl,U,nb,e,k⟩;rw[HH.X23]at e;obtain⟨r,W,e1,e⟩:=aj e;obtain⟨j,am,e9,e2⟩:=aj e;have zz:=aB e9;clear e9;obtain⟨e9,ah⟩:=zz;subst ah;refine⟨F,ρ,r,W,j,nb.stp.gs,e1,e9,fun J F1 H1 s1 w=>?_⟩;refine⟨fun i m u Hi=>∃E f Q,NB X.K x q as F0 G I H0 E f u Hi Q/\aF F1 E/\m=j.length-i/\i<=j.length/\iD is one (iz c n ss) (j.drop i) f=.ok fl U,⟨_,F1,W,rows,nb.step s1,.refl _,rfl,vf,e2⟩,?_⟩;rintro i m u Hi⟨E,f,Q,t,L,rfl,ap,l⟩;obtain⟨w1,w2⟩:=w i E Hi L t.stp.gs.sub;by_cases B:i<j.length
 . right;have hd:j[i]?=some j[i]:=by simp[B]
   obtain⟨go,step⟩:=w1 _ hd;refine⟨go,fun Y Z=>∃m',m'<j.length-i/\∃E f Q,NB X.K x q as F0 G I H0 E f Y Z Q/\aF F1 E/\m'=j.length-(i+1)/\i+1<=j.length/\iD is one (iz c n ss) (j.drop (i+1)) f=.ok fl U,fun Y Z z=>z,fun y Z yy=>?_⟩;obtain⟨F2,ext,rx⟩:=step y Z yy;have t2:=ext.stp t.stp.gs;rw[drop_eq_getElem_cons B,iD]at l;cases hbd:cT f is one j[i]with|none=>rw[hbd]at l;cases l|some ac=>rw[hbd]at l;obtain⟨ae,M,eb,l⟩:=aj l;refine ag y _ F2 f ac u Z _ t2.gs rx hbd fun ar sb=>?_;have t3:=t2.trans sb;refine⟨F0,G,I,H0,F2,ac,q,as,Q,ae,M,t.step t3,eb,fun F4 af H4 s4 ai N=>?_⟩;have C:aF F1 F4:=L.trans (ext.fs.trans ai);cases ae with|next=>obtain⟨J3,O⟩:=N (fun r z=>by cases z);exact⟨_,by omega,F4,M,J3,O,C,rfl,B,l⟩|cont=>obtain⟨J3,O⟩:=N (fun r z=>by cases z);exact⟨_,by omega,F4,M,J3,O,C,rfl,B,l⟩|brk=>cases l;exact k F4 af H4 s4 (s1.bN.trans C) fun _=>N (fun r z=>by cases z)|ret r=>cases l;exact fun v rr=>k F4 af H4 s4 (s1.bN.trans C) (fun h=>(h r rfl).elim) v rr
 . left;have al:j.drop i=[]:=by rw[drop_eq_nil_iff];omega
   rw[al,iD]at l;cases l;exact⟨w2 (by omega),k E u Hi t.stp (s1.bN.trans L) fun _=>⟨Q,t⟩⟩
end
section
variable{X:Cx}{c:Call}{n:Nat}{e a b d i j:Expr}{p pa pb pd pi pj:P}{pos:Pos}
theorem M5{ρ f:List Sl}{x:Nat}{o:Option (List (List D))}{fl:Fl}(h:DX ρ x o=.ok fl f):∃rows,o=some rows/\fl=.next/\f=ρ.set x (.hold rows):=by cases o with|none=>cases h|some rows=>cases h;exact⟨rows,rfl,rfl,rfl⟩
section
variable{K:PySem.W.Frag}{F H F0 H0:Hp}{ρ ρ0:List Sl}{σ σ0:L2.St}{x:Nat}{q:Addr}{as:List Addr}{rows o4:List (List D)}
theorem NB.hold(f:NB K x q as F0 ρ0 σ0 H0 F ρ σ H rows)(h:ji ρ x=some o4):o4=rows:=by have:=HW h;rw[f.nw.slot]at this;cases this;rfl
theorem NB.at{k:Int}{r:Nat}{row:List D}(f:NB K x q as F0 ρ0 σ0 H0 F ρ σ H rows)(h1:HH.jM rows.length k=some r)(h:rows[r]?=some row):∃a ys,as[r]?=some a/\Ht (as.map V.ref) k=some (.ref a)/\H a=some (.lst ys)/\aG K F ys row:=by
 have g:r<as.length:=by rw[f.nw.len];exact(dB h).1
 obtain⟨⟨ys,l,r1⟩,_⟩:=f.nw.row r as[r] row (by simp[g]) h;refine⟨as[r],ys,by simp[g],?_,l.1,r1⟩;unfold Ht;rw[length_map,f.nw.len];rw[show L2.jM rows.length k=some r from h1];simp[g]
theorem NB.uI{g:D}{row:List D}(l:NB K x q as F0 ρ0 σ0 H0 F ρ σ H rows)(h:HH.uI ρ x g=some row):∃k a,(∃r:Nat,as[r]?=some a)/\Ht (as.map V.ref) k=some (.ref a)/\g=.int k/\∃ys,H a=some (.lst ys)/\aG K F ys row:=by unfold HH.uI at h;obtain⟨f,h1,h⟩:=bV h;cases l.hold h1;obtain⟨k,m,h⟩:=bV h;obtain⟨r,s,t⟩:=bV h;obtain⟨a,ys,u,v,w,y⟩:=l.at s t;exact⟨k,a,⟨r,u⟩,v,cG m,ys,w,y⟩
end
theorem Fg{l:List (List D)}{k:Int}{f:List D->Option (List D)}(h:jN rows k f=some l):∃r row g,HH.jM rows.length k=some r/\rows[r]?=some row/\f row=some g/\l=rows.set r g:=by unfold jN at h;obtain⟨r,h1,h⟩:=bV h;obtain⟨row,m,h⟩:=bV h;obtain⟨g,q,h⟩:=map_some h;exact⟨r,row,g,h1,m,q,h.symm⟩
theorem Iu{x:Str}{k:Nat}{u f h g:Pos}(hN:X.N[k]?=some x)(hv:vV X.env.scope x)(hi:SX X c i pi)(he:SX X c e p)(I:uM i:=by intro _ _;rfl)(l:(h.endLine==g.line)=true:=by rfl)(hs:starEach [e] X.env=(false,eval e X.env)::starEach [] X.env:=by rfl)(s:attributeBase (.Subscript (.Name x u) i f) "append" X.env (eval (.Subscript (.Name x u) i f) X.env)=eval (.Subscript (.Name x u) i f) X.env:=by rfl)(w:((backTo g (starEach [e] X.env)).all (fun x=>!x.1)&&(backToKw g (keywordEach [] X.env)).all (fun x=>x.1.isSome)&&decide ([e].length+([]:List Keyword).length+(if([]:List Keyword).isEmpty then 0 else 1)<30))=true:=by rfl)(J:swapsWith (.Call (.Attribute (.Subscript (.Name x u) i f) "append" h) [e] [] g) none pos.line X.env=pure false:=by rfl)(hd:(x==("__debug__":Str))=false:=by decide)(L:(x==("__classdict__":Str))=false:=by decide):Y7 X c n k (.Expr (.Call (.Attribute (.Subscript (.Name x u) i f) "append" h) [e] [] g) pos) (.JX k pi p):=by obtain⟨ti,M,O⟩:=hi.cC;refine⟨dw (pW (IW plainAttrs_list PySem.F.slot_list_append PySem.F.type_list_append nQ (PQ De (fC hN hv hd L) M I) (bC he.ev cW hs) s w l hs) J) ?_⟩;rintro E σ H⟨F0,al,am,H0,F,ρ,q,as,rows,fl,ap,Q,e,kk⟩;rw[HH.X22]at e;obtain⟨dk,U,e2,e⟩:=aj e;obtain⟨ah,ai,C,e⟩:=aj e;have zz:=aB C;clear C;obtain⟨C,W⟩:=zz;subst W;obtain⟨r,Y,e3,e⟩:=aj e;obtain⟨rs,y,rfl,rfl⟩:=M5 e;refine⟨.ref q,Q.nw.val,O Q.stp.gs e2 fun vi F1 H1 s1 pi=>?_⟩;have G:=Q.step s1;obtain⟨k0,a,g1,g2,g0,ys,g3,g4⟩:=G.uI C;rw[g0]at pi;refine⟨q,_,k0,_,rfl,pi.int,eV.of G.nw.out.kp.1,g2,.inl ⟨rfl,ys,eV.of g3⟩,F1,U,r,Y,G.stp.gs,e3,fun v F2 H2 s2 rr=>?_⟩;obtain⟨F3,s3,_,rp⟩:=s2.dj rr;have t:=G.step s3;obtain⟨Z,e5,y⟩:=bV y;cases t.hold e5;obtain⟨k1,e6,y⟩:=bV y;obtain⟨m,row,lg,f1,f2,f3,rfl⟩:=Fg y;obtain⟨ac,rfl⟩:=bz f3;have:=cG e6;rw[g0]at this;cases this;obtain⟨a',ae,af,z,ag,A⟩:=t.at f1 f2;rw[g2]at z;cases z;have B:=t.mut af f2 (A.append (.cons rp .nil));exact⟨a,ae,v,rfl,rfl,ag,by rw[A.length];exact ac,kk F3 σ _ B.stp (s1.bN.trans s3.bN) fun _=>⟨_,B⟩⟩
end
section
variable{K:PySem.W.Frag}{F H F1 H1:Hp}{ρ ρ1:List Sl}{σ σ1:L2.St}
theorem aC.since{b:Addr}(s:aC K F ρ σ H F1 ρ1 σ1 H1)(h:H1 b=none):Own ρ σ b\/H b=none:=by
 by_cases ho:Own ρ σ b;.exact .inl ho
 .right;cases e:H b with|none=>rfl|some o=>rw[s.keep b o e ho]at h;cases h
theorem NB.mk'{x:Nat}{q:Addr}{as:List Addr}{s1:Sl}(s:aC K F ρ σ H F1 ρ1 σ1 H1)(e:ρ1[x]?=some s1)(g:tY s1=false)(h:T4 F1 ρ1 σ1 H1 q (as.map V.ref))(nd:(q::as).Nodup)(len:as.length=rows.length)(row:∀(k:Nat)(a:Addr)(c:List D),as[k]?=some a->rows[k]?=some c->Wt K F1 ρ1 σ1 H1 a c)(fr:∀b,b∈q::as->Own ρ σ b\/H b=none):NB K x q as F ρ σ H F1 (ρ1.set x (.hold rows)) (σ1.set x (some (.ref q))) H1 rows:=by
 have hi:x<ρ1.length:=(dB e).1;have f:x<σ1.length:=by rw[<-s.gs.len];exact hi
 exact⟨s.Bx rfl (s.free e g),fr,s.free e g,⟨getElem?_set_self hi,getElem?_set_self f,⟨CZ rfl h.kp,h.fr⟩,nd,len,fun k a c h1 i=>Nb rfl (row k a c h1 i)⟩⟩
end
theorem G9{K:PySem.W.Frag}{F H:Hp}{ρ e l:List Sl}{σ:L2.St}{ul:List Sl->List Sl}{ti:TI}{is:List Nat}{one:Bool}{c:Call}{el:Ev}{g:TG}{Q:VK}{f:List D}{m n:Nat}(hm:σ.length=m)(ay:lz K m is one g)(aE:∀R:It->Hp->Prop,(∀J F1 Y,Walk K F ρ σ H ul J f F1 e Y->R J Y)->ti σ H R)(bo:f.length<=lim)(e2:fU is one el f [] (e++replicate n .aQ)=.ok rows l)(k:∀ q as F' H',aC K F ρ σ H F' (ul (l.take e.length)) σ H'->T4 F' (ul (l.take e.length)) σ H' q (as.map V.ref)->(q::as).Nodup->as.length=rows.length->(∀(k:Nat)(a:Addr)(f:List D),as[k]?=some a->rows[k]?=some f->Wt K F' (ul (l.take e.length)) σ H' a f)->(∀b,b∈q::as->Own ρ σ b\/H b=none)->Q (.ref q) H'):uq n ti g (Ed K (qd c none)) (sr K el) σ H Q:=by
 refine aE _ fun J F1 Y w Da Dk=>?_;have aI:e.length=σ.length:=w.gs.len;have gm:=w.gs.more (n:=n) (τ:=replicate n none) (by simp);have fD:F1 Da=none:=by cases q:F1 Da with|none=>rfl|some o=>rw[w.gs.sub Da o q]at Dk;cases Dk
 have nO:¬ Own (e++replicate n .aQ) (σ++replicate n none) Da:=fun⟨i,⟨t,dt,q1,q2⟩,q3⟩=>by obtain⟨a,ys,z1,z2,_⟩:=gm.own i t dt q1 q2;rw[q3]at z1;cases z1;rw[Dk]at z2;cases z2
 refine⟨fun i mm ys j N=>∃O u B as,aC K F1 (e++replicate n .aQ) (σ++replicate n none) Y O u j N/\j.take m=σ/\ys=as.map V.ref/\N Da=some (.lst ys)/\O Da=none/\¬ Own u j Da/\(Da::as).Nodup/\as.length=B.length/\(∀(k:Nat)(a:Addr)(f:List D),as[k]?=some a->B[k]?=some f->Wt K O u j N a f/\(Own (e++replicate n .aQ) (σ++replicate n none) a\/Y a=none))/\B.length<=i/\mm=f.length-i/\i<=f.length/\fU is one el (f.drop i) B u=.ok rows l,⟨_,F1,_,[],[],(aC.refl gm).Ig Dk fD nO,by rw[List.take_append_of_le_length (by omega),List.take_of_length_le (by omega)],rfl,aO,fD,nO,by simp,rfl,fun k a f h=>by simp at h,vf,rfl,vf,e2⟩,?_⟩;rintro i mm ys j N⟨O,u,B,as,si,ap,ac,hD,hF,hO,ae,C,I,bp,rfl,bq,G⟩;refine⟨hD,?_⟩;have stay:∀{F2 H2:Hp}{af:List Sl}{L:L2.St},aC K O u j N F2 af L H2->H2 Da=some (.lst ys)/\F2 Da=none/\¬ Own af L Da:=fun{F2 H2 af L}s=>by have:=(T4.stp (xs:=ys) ⟨⟨hD,hO⟩,hF⟩ s);exact⟨this.kp.1,this.fr,this.kp.2⟩
 obtain⟨s1,s2⟩:=w.src n i O u j N si;by_cases ag:i<f.length
 . right;have hd:f[i]?=some f[i]:=by simp[ag]
   obtain⟨go,step⟩:=s1 _ hd;refine⟨go,fun x H2 y=>?_⟩;obtain⟨F2,ext,rx⟩:=step x H2 y;have t2:=ext.stp si.gs;rw[drop_eq_getElem_cons ag,fU]at G;cases hbd:cT u is one f[i]with|none=>rw[hbd]at G;cases G|some X=>rw[hbd]at G;obtain⟨re,ah,ee,G⟩:=aj G;cases re with|val _=>cases G|own ai=>
     replace G:fU is one el (f.drop (i+1)) (B++[ai]) ah=.ok rows l:=G;refine ay x _ F2 u X j H2 _ t2.gs rx hbd fun L sb aS=>?_;have t3:=t2.trans sb;refine⟨F2,X,true,X,t3.gs,by rw[qd],fun F4 H4 s4=>?_⟩;have t4:=t3.trans s4;refine(show sr K el L H4 _ from⟨F4,X,.own ai,ah,t4.gs,ee,fun v F5 H5 s5 rr=>?_⟩);have t6:=t4.trans s5;obtain⟨y1,y2,y3⟩:=stay t6;obtain⟨z1,z2,z3⟩:=stay t4;have al:ys.length<sizeLine:=by have U:lim=sizeLine:=rfl;rw[ac,length_map];omega
     obtain⟨A,xs,rfl,a1,a2,a3,a4,a5⟩:=rr;have ar:A≠Da:=by
      rintro rfl;rcases a5 with z|z;.exact z3 z
      .rw[z1]at z;cases z
     have nA:A∉as:=fun hA=>by
      obtain⟨M,E⟩:=List.getElem?_of_mem hA;have am:M<B.length:=by rw[<-C];exact(dB E).1
      obtain⟨⟨zs,Z,_⟩,_⟩:=(I M A B[M] E (by simp[am])).1.stp t4;rcases a5 with z|z;.exact Z.2 z
      .rw[Z.1]at z;cases z
     have fA:Own (e++replicate n .aQ) (σ++replicate n none) A\/Y A=none:=by
      have t:=si.trans t4;rcases a5 with z|z;.exact t.vW A z
      .exact t.since z
     refine⟨y1,al,_,by omega,F5,ah,B++[ai],as++[A],(si.trans t6).Ig Dk y2 y3,aS.trans ap,by rw[ac];simp,aO,y2,y3,?_,by simp[C],fun M a0 aT h1 U=>?_,by simp;omega,rfl,ag,G⟩
     . rw[<-cons_append,nodup_append];refine⟨ae,by simp,fun p hp r hr=>?_⟩;simp at hr;subst hr;rcases mem_cons.mp hp with rfl|hp;.exact fun z=>ar z.symm
       .rintro rfl;exact nA hp
     . by_cases E:M<as.length
       . rw[getElem?_append_left E]at h1;rw[getElem?_append_left (by omega)]at U;obtain⟨w0,f0⟩:=I M a0 aT h1 U;obtain⟨⟨zs,Z,r1⟩,g1⟩:=w0.stp t6;have na:a0≠Da:=by rintro rfl;exact(nodup_cons.mp ae).1 (mem_of_getElem? h1)
         exact⟨⟨⟨zs,⟨by rw[aD na];exact Z.1,Z.2⟩,r1⟩,g1⟩,f0⟩
       . rw[getElem?_append_right (by omega)]at h1;rw[getElem?_append_right (by omega)]at U;have:M-as.length=0:=by have:=(dB h1).1;simp at this;exact this
         rw[this]at h1;rw[<-C,this]at U;cases h1;cases U;exact⟨⟨⟨xs,⟨by rw[aD ar];exact a1,a4⟩,a3⟩,a2⟩,fA⟩
 . left;have a9:f.drop i=[]:=by rw[drop_eq_nil_iff];omega
   rw[a9,fU]at G;cases G;refine⟨s2 (by omega),?_⟩;have hst:j.take e.length=σ:=by rw[aI,hm];exact ap
   obtain⟨l1,l2⟩:=aC.less (m:=e.length) rfl w.gs (by simp) si;rw[hst]at l1;obtain⟨z1,z2⟩:=w.fin _ _ _ _ l1--the outer list:with nothing in it,it is like any new one
   have bi:=si.Ig (o:=.lst []) Dk hF hO;obtain⟨aw,Xd⟩:=aC.less (m:=e.length) rfl w.gs (by simp) bi;rw[hst]at aw;obtain⟨br,bm⟩:=w.fin _ _ _ _ aw;have rr:cM K O l j (upd N Da (.lst [])) (e++replicate n .aQ) (σ++replicate n none) Y (.ref Da) (.own []):=⟨Da,[],rfl,aO,hF,.nil,hO,.inr Dk⟩;have Qq:=Xd _ _ rr;rw[hst]at Qq;obtain⟨_,_,q0,_,q3,_,q5,q6⟩:=bm _ _ Qq;cases q0;have ax:∀(k:Nat)(a:Addr)(f:List D),as[k]?=some a->rows[k]?=some f->Wt K O (ul (l.take e.length)) σ N a f/\(Own ρ σ a\/H a=none):=fun k a f h1 U=>by obtain⟨⟨⟨xs,Z,r1⟩,f1⟩,f2⟩:=I k a f h1 U;have rr:cM K O l j N (e++replicate n .aQ) (σ++replicate n none) Y (.ref a) (.own f):=⟨a,xs,rfl,Z.1,f1,r1,Z.2,f2⟩;have Qq:=l2 _ _ rr;rw[hst]at Qq;obtain⟨a',bn,q0,q2,q3,q4,q5,q6⟩:=z2 _ _ Qq;cases q0;exact⟨⟨⟨bn,⟨q2,q5⟩,q4⟩,q3⟩,q6⟩
   refine k Da as O N z1 ⟨⟨by rw[hD,ac],q5⟩,q3⟩ ae C (fun k a f h1 U=>(ax k a f h1 U).1) fun b hb=>?_;rcases mem_cons.mp hb with rfl|hb;.exact q6
   . obtain⟨M,E⟩:=List.getElem?_of_mem hb;have am:M<rows.length:=by rw[<-C];exact(dB E).1
     exact(ax M b rows[M] E (by simp[am])).2
section
variable{X:Cx}{c:Call}{nn n:Nat}{tg iter elt:Expr}{ps pe:P}{pos:Pos}{sts:List Stmt}{ss:List S}{scope:Scope}{N':List Str}
theorem LR{i:Nat}{x:Str}{b f:Pos}{g:TG}{is:List Nat}{one:Bool}(hc:X.calm=true)(A:X.N.Nodup)(m:X.N[i]?=some x)(B:Loc X.env.scope x)(ok:eY X scope N' n)(hi:SI X c tg iter ps)(E:∀cl C s₀ H₀ ex,PG (oR X scope N' cl C s₀ H₀ ex) tg g)(r:lz X.K X.N.length is one g)(ht:∀cl C s₀ H₀ ex,SQ (oR X scope N' cl C s₀ H₀ ex) c [] none)(he:∀cl C s₀ H₀ ex,SX (oR X scope N' cl C s₀ H₀ ex) c elt pe)(G:SBT X c nn i sts ss)(t:swapsWith (.ListComp elt [⟨tg,iter,[],0⟩] scope pos) (some (.Name x b)) f.line X.env=pure true:=by rfl)(hs:∀x,foldedSetIterable iter X.env x=pure x:=by intro _;rfl)(J:X.fn x=true\/X.env.scope.names.lookup x=some .local:=by first|exact .inl rfl|exact .inr rfl|assumption):SB X c nn (.Assign [.Name x b] (.ListComp elt [⟨tg,iter,[],0⟩] scope pos) f::sts) (.JW i ps n is one pe::ss):=by
 have h0:=uw (tt:=Ed X.K (qd c none)) (te:=sr X.K (HH.ev c pe)) hc A m B ok hi E ht (fun cl C s₀ H₀ ex=>(he cl C s₀ H₀ ex).ev) t hs J;refine fun j s σ H D I q=>lX h0 G.p j s σ H D I ?_;have L:σ.length=X.N.length:=I.len;obtain⟨F,ρ,fl,u,M,e,O⟩:=q;rw[TX]at e;obtain⟨f1,Q,a,e⟩:=aj e;rw[HH.X21]at a;obtain⟨U,w,W,a⟩:=aj a;split at a;.rename_i k;obtain⟨rows,Y,Z,a⟩:=aj a;obtain⟨ac,z,l,a⟩:=aj a;cases a;have zz:=aB l;clear l;obtain⟨l,_⟩:=zz;obtain⟨s1,h1,h2,rfl⟩:=vD l;refine(show uq n (tIt X.K (isVar ps) (HH.ev c ps)) g (Ed X.K (qd c none)) (sr X.K (HH.ev c pe)) σ H (fun v H1=>jD i v σ H1 (Xp X.K i (iz c nn ss) D))from G9 (c:=c) (ul:=aX ρ (isVar ps)) L r (fun R h=>⟨F,ρ,U,w,M,W,h⟩) k Z fun q as F' H' s wq nd len row fr=>?_);exact⟨F,ρ,σ,H,F',_,q,as,rows,fl,u,NB.mk' s h1 h2 wq nd len row fr,e,fun F2 y H2 s2=>O F2 y H2 s2⟩
 .cases a
end
end HH
end
section
namespace HH
open PySem L2 PySem.Spec PyProof.Rows PySem.Calls PySem.W
variable{i:Nat}{x:Str}
section
variable{K:PySem.W.Frag}{F F1 H H1:Hp}{ρ ρ1 ρ2:List Sl}{σ σ1:L2.St}
theorem GS.ac0{x:Nat}{kvs f:List (Int×D)}{a:Addr}{w:HO}(g:GS K F ρ σ H)(e:ρ[x]?=some (.cF kvs))(p:σ[x]?=some (some (.ref a)))(r:lq K F w (.v f)):aC K F ρ σ H F (ρ.set x (.cF f)) σ (upd H a w):=by
 have hi:x<ρ.length:=(dB e).1;have y:aZ ρ σ x a:=⟨⟨_,_,e,rfl⟩,p⟩;obtain⟨L,M,h1,N,z,O⟩:=g.own x _ _ e rfl;rw[p]at h1;cases h1;have h:∀{j:Nat}{c:Addr},aZ (ρ.set x (.cF f)) σ j c->aZ ρ σ j c:=fun{j c}⟨⟨t,dt,m,s⟩,q3⟩=>by
  by_cases b:j=x;.subst b;exact⟨⟨_,_,e,rfl⟩,q3⟩
  .rw[fH b]at m;exact⟨⟨t,dt,m,s⟩,q3⟩
 refine⟨⟨fun c o q=>?_,by simp[g.len],fun j B d q=>?_,fun j t dt q u=>?_,fun j k c m s=>g.dis j k c (h m) (h s)⟩,.refl _,fun c n C=>absurd n C,fun c o q n=>?_,fun c⟨j,q⟩=>.inl ⟨j,h q⟩,by simp,fun j t q l=>⟨rfl,?_⟩⟩
 . have:c≠a:=by rintro rfl;rw[z]at q;cases q
   rw[aD this];exact g.sub c o q
 . by_cases b:j=x;.subst b;rw[getElem?_set_self hi]at q;cases q
   .rw[fH b]at q;exact g.val j B d q
 . by_cases b:j=x;.subst b;rw[getElem?_set_self hi]at q;cases q;cases u;exact⟨a,_,p,aO,z,r⟩
   . rw[fH b]at q;obtain⟨c,E,A,G,I,J⟩:=g.own j t dt q u;have:c≠a:=by rintro rfl;exact b (g.dis j x c ⟨⟨t,dt,q,u⟩,A⟩ y)
     exact⟨c,E,A,by rw[aD this];exact G,I,J⟩
 . have:c≠a:=by rintro rfl;exact n ⟨x,y⟩
   rw[aD this];exact q
 . by_cases b:j=x;.subst b;rw[e]at q;cases q;cases l
   .exact⟨t,by rw[fH b];exact q,.refl t⟩
theorem GS.newV{kvs:List (Int×D)}{a:Addr}{A:HO}{s0:Sl}(g:GS K F ρ σ H)(e:ρ[i]?=some s0)(y:tY s0=false)(r:lq K F A (.v kvs))(s:H a=none):aC K F ρ σ H F (ρ.set i (.cF kvs)) (σ.set i (some (.ref a))) (upd H a A):=by
 have hi:i<ρ.length:=(dB e).1;have u:i<σ.length:=by rw[<-g.len];exact hi
 have B:F a=none:=by cases q:F a with|none=>rfl|some o=>rw[g.sub a o q]at s;cases s
 have f:∀{j:Nat}{c:Addr},j≠i->aZ (ρ.set i (.cF kvs)) (σ.set i (some (.ref a))) j c->aZ ρ σ j c:=fun{j c}b⟨⟨t,ds,e1,e2⟩,e3⟩=>by rw[fH b]at e1 e3;exact⟨⟨t,ds,e1,e2⟩,e3⟩
 have h:∀{c:Addr},aZ (ρ.set i (.cF kvs)) (σ.set i (some (.ref a))) i c->c=a:=fun{c}⟨_,e3⟩=>by rw[getElem?_set_self u]at e3;cases e3;rfl
 have no:∀{j:Nat},¬ aZ ρ σ j a:=fun{j}⟨⟨t,ds,e1,e2⟩,e3⟩=>by obtain⟨c,o,m,p,_⟩:=g.own j t ds e1 e2;rw[e3]at m;cases m;rw[s]at p;cases p
 refine⟨⟨fun c o q=>?_,by simp[g.len],fun j E d q=>?_,fun j t dt q C=>?_,fun j k c m p=>?_⟩,.refl _,fun c n G=>absurd n G,fun c o q n=>?_,fun c⟨j,q⟩=>?_,by simp,fun j t q l=>?_⟩
 . have:c≠a:=by rintro rfl;rw[B]at q;cases q
   rw[aD this];exact g.sub c o q
 . by_cases b:j=i;.subst b;rw[getElem?_set_self hi]at q;cases q
   .rw[fH b]at q ⊢;exact g.val j E d q
 . by_cases b:j=i;.subst b;rw[getElem?_set_self hi]at q;cases q;cases C;exact⟨a,_,getElem?_set_self u,aO,B,r⟩
   . rw[fH b]at q ⊢;obtain⟨c,o,I,z,J,L⟩:=g.own j t dt q C;have:c≠a:=by rintro rfl;rw[s]at z;cases z
     exact⟨c,o,I,by rw[aD this];exact z,J,L⟩
 . by_cases b:j=i
   . by_cases w:k=i;.rw[b,w]
     .subst b;rw[h m]at p;exact absurd (f w p) no
   . by_cases w:k=i;.subst w;rw[h p]at m;exact absurd (f b m) no
     .exact g.dis j k c (f b m) (f w p)
 . have:c≠a:=by rintro rfl;rw[s]at q;cases q
   rw[aD this];exact q
 . by_cases b:j=i;.subst b;rw[h q];exact .inr s
   .exact .inl ⟨j,f b q⟩
 . have b:j≠i:=by rintro rfl;rw[e]at q;cases q;rw[y]at l;cases l
   exact⟨by rw[fH b],t,by rw[fH b];exact q,.refl t⟩
end
section
variable{X:Cx}{c:Call}{n:Nat}{a b e:Expr}{pa pb p:P}{pos:Pos}
theorem Ce{f p2:Pos}(m:X.N.Nodup)(hi:X.N[i]?=some x)(o:Loc X.env.scope x)(hs:swapsWith (.Dict [] [] p2) (some (.Name x f)) pos.line X.env=pure false:=by rfl)(r:X.fn x=true\/X.env.scope.names.lookup x=some .local:=by first|exact .inl rfl|exact .inr rfl|assumption):SS X c n (.Assign [.Name x f] (.Dict [] [] p2) pos) (.Fw i):=by
 refine dw (u6 m hi o wz hs r) ?_;rintro D σ H⟨F,ρ,fl,h,g,e,k⟩;rw[HH.X25]at e;have go:∀s0,ρ[i]?=some s0->tY s0=false->fl=.next->h=ρ.set i (.cF [])->∀a,H a=none->D.nx (σ.set i (some (.ref a))) (upd H a (.dK [])):=fun s0 q s j l a t=>by subst j l;exact k F _ _ (g.newV (kvs:=[]) q s (KR.oc .nil) t)
 split at e;.rename_i q;cases e;exact go _ q rfl rfl rfl
 .rename_i q;cases e;exact go _ q rfl rfl rfl
 .rename_i q;cases e;exact go _ q rfl rfl rfl
 .cases e
theorem pP{w f:Pos}{pk:P}(hu:X.A.units+8<cLine)(C:X.N[i]?=some x)(E:vV X.env.scope x)(G:SX X c a pk)(he:SX X c e p)(hs:swapsWith e (some (.Subscript (.Name x w) a f)) pos.line X.env=pure false:=by rfl)(hd:(x==("__debug__":Str))=false:=by decide)(m:(x==("__classdict__":Str))=false:=by decide):SS X c n (.Assign [.Subscript (.Name x w) a f] e pos) (.fX i pk p):=by
 obtain⟨ta,h1,I⟩:=G.cC;refine dw (Ci (by omega) (fC C E hd m) h1 he.ev hs) ?_;rintro D σ H⟨F,ρ,fl,J,g,e,k⟩;rw[HH.X27]at e;obtain⟨r,o,L,l⟩:=aj e;clear e;refine⟨F,ρ,r,o,g,L,fun v F1 H1 s1 M=>?_⟩;obtain⟨F2,s2,_,O⟩:=s1.dj M;split at l
 . rename_i Q U;obtain⟨kd,W,Y,h⟩:=aj l;clear l;obtain⟨s,o0,t,w2,w3,w4⟩:=s2.gs.own i _ _ U rfl;refine⟨.ref s,t,I s2.gs Y fun y Z H3 s3 py=>?_⟩;split at h
   . rename_i kvs j q;split at h;.rename_i hl;cases h;obtain⟨a1,o1,z,y2,y3,y4⟩:=s3.gs.own i _ _ q rfl;rw[t]at z;cases z;obtain⟨es,rfl,B⟩:=KR.Rv y4;have u:=B.put (k:=j) (O.mono s3.bN);refine⟨s,upd H3 s (.dK (putK es (Sum.inl j:Key) v)),rfl,?_,k Z σ _ ((s2.trans s3).trans (s3.gs.ac0 q t u.oc))⟩;rw[py.int];exact .inl ⟨es,Sum.inl j,y2,rfl,by rw[B.len,sizeLine_eq];exact hl,rfl⟩
     .cases h
   .cases h
 .cases l
theorem zg{y:Pos}{pk:P}(hu:X.A.units+8<cLine)(z:X.N[i]?=some x)(B:vV X.env.scope x)(C:SX X c a pk)(hs:Lh a)(hd:(x==("__debug__":Str))=false:=by decide)(l:(x==("__classdict__":Str))=false:=by decide):SX X c (.Subscript (.Name x y) a pos) (.Qm i pk):=by
 obtain⟨ta,h1,E⟩:=C.cC;refine⟨di (KY (by omega) (fC z B hd l) h1 hs) ?_,fun i h=>by cases h⟩;rintro σ H Q⟨F,ρ,r,G,g,e,k⟩;rw[HH.E26]at e;split at e
 . rename_i I q;obtain⟨kd,J,L,f⟩:=aj e;clear e;obtain⟨m,o0,o,w2,w3,w4⟩:=g.own i _ _ q rfl;refine⟨.ref m,o,E g L fun v F1 M s1 s=>?_⟩;split at f;.rename_i kvs O;obtain⟨t,U⟩:=aB f;clear f;subst U;obtain⟨j,W,Y⟩:=bV t;clear t;obtain⟨d,Z,e6⟩:=map_some Y;subst e6;rw[cG W]at s;obtain⟨a1,o1,u,y2,y3,y4⟩:=s1.gs.own i _ _ O rfl;rw[o]at u;cases u;obtain⟨es,rfl,kr⟩:=KR.Rv y4;obtain⟨w,g1,g2⟩:=kr.get Z;rw[s.int];exact⟨m,w,rfl,.inl ⟨es,Sum.inl j,.inl y2,rfl,g1.symm⟩,k w F1 M s1 (show Rep X.K F1 _ _ from g2)⟩
   .cases f
 .cases e
theorem U8{G:Pos}{pk:P}{neg:Bool}{op:CmpOp}(t:(op=.In/\neg=false)\/(op=.NotIn/\neg=true))(hu:X.A.units+8<cLine)(w:X.N[i]?=some x)(z:vV X.env.scope x)(J:SX X c a pk)(hd:(x==("__debug__":Str))=false:=by decide)(m:(x==("__classdict__":Str))=false:=by decide):PC X op a (.Name x G) (sr X.K (HH.ev c (.Qn i pk neg))):=by
 obtain⟨L,h1,M⟩:=J.cC;have l:∀{σ:L2.St}{H:Hp}{Q:VK},sr X.K (HH.ev c (.Qn i pk neg)) σ H Q->L σ H fun y u=>Rf i σ u fun x B=>∃a o,x=.ref a/\n6 B a y o/\Q (.bl (if neg then !o.isSome else o.isSome)) B:=fun{σ H Q}⟨F,ρ,r,ρ',g,e,k⟩=>by
  rw[HH.E27]at e;obtain⟨kd,O,U,q⟩:=aj e;clear e;refine M g U fun v F1 u s1 C=>?_;split at q;.rename_i kvs W;obtain⟨Y,Z⟩:=aB q;clear q;subst Z;obtain⟨j,e4,e5⟩:=map_some Y;subst e5;rw[cG e4]at C;obtain⟨E,o1,y1,y2,y3,y4⟩:=s1.gs.own i _ _ W rfl;obtain⟨es,rfl,kr⟩:=KR.Rv y4;rw[C.int];refine⟨.ref E,y1,E,_,rfl,.inl ⟨es,Sum.inl j,.inl y2,rfl,rfl⟩,?_⟩;rw[kr.has j];exact k _ F1 u s1 (show Rep X.K F1 _ _ from fu _)
  .cases q
 rcases t with⟨rfl,rfl⟩|⟨rfl,rfl⟩;.exact fun f s σ H Q I h=>T5 (by omega) h1 (fC w z hd m) f s σ H Q I (l h)
 .exact fun f s σ H Q I h=>Ec (by omega) h1 (fC w z hd m) f s σ H Q I (l h)
end
theorem oY{P:Program}{w:World}:∀{ks:List Int}{es:List (Key×V)}{vs:List (Key×Value)}{a:List Value},es.map (·.1)=ks.map (Sum.inl:Int->Key)->KV es vs->a.length=vs.length->(∀(j:Nat)(v:Value),a[j]?=some v->∃(k:Key)(x:Value),vs[j]?=some (k,x)/\(bh P w).is k v=true)->IntsAre a ks
 |[],es,_,a,he,r,h,_=>by cases es with
   |nil=>cases r;cases a with|nil=>exact .nil|cons _ _=>simp at h
   |cons _ _=>simp at he
 |i::ks,es,_,a,he,r,h,k=>by cases es with|nil=>simp at he|cons p es=>cases r with|@cons _ q _ _ r t=>rw[map_cons,map_cons]at he;cases a with|nil=>simp at h|cons v a=>
         obtain⟨f,x,c,g⟩:=k 0 v rfl;simp at c;have l:f=Sum.inl i:=by have z:=r.1;rw[c]at z;rw[<-(List.cons.inj he).1];exact z.symm
         subst l;obtain⟨n,m,b,rfl⟩|⟨_,_,b,_⟩:=bI (show oZ (Sum.inl i) v=true from g);.cases b;exact .cons _ m (oY (List.cons.inj he).2 t (by simpa using h) fun j v e=>k (j+1) v (by simpa using e))
         .cases b
section
variable{X:Cx}{c:Call}{n:Nat}{a b e:Expr}{pa pb p:P}{pos:Pos}
theorem XF(hc:X.calm=true):dI X (.type "list") (Ly X.K fun x=>blt .Xb [x]):=by rintro t s σ H xs us Q I r⟨x,A,F,d,B,sm,C,he,k⟩;cases d with|dv ks ds=>
   obtain⟨E,he⟩:=bz (show(if ks.length<=16777216 then some (R.own (ks.map D.int))else none)=some B from he);subst he;obtain⟨q,G,g,rfl,J,L,M⟩:=C.dv sm;subst A;obtain⟨u,rfl,N⟩:=r.one;cases N;obtain⟨ho,hz,O,vs,y,l⟩:=(show bJ X.prog X.w H s.heap q (.dj G (.dK (ent ks g)))from I.hok q _ J);obtain⟨ep,l⟩:=l.dictAt;have z:=rJ (ks:=ks) (vs:=g) (by rw[L.length];exact M);have m:vs.length=ks.length:=by rw[<-Paired.length y];have:=congrArg List.length z;simpa using this
   refine kdl_call (kdl_dict (knd:=bh X.prog X.w) (kvs:=vs) (ep:=ep) O) (I.ok.hd hc) l (by rw[m,sizeLine_eq];omega) fun h' U h W kp Y f=>?_;have Z:IntsAre h.toList ks:=oY (P:=X.prog) (w:=X.w) z y (by rw[length_toList];exact f.1) fun j v e=>f.2 j v (by rw[<-Array.getElem?_toList];exact e);refine⟨.ref s.heap.objs.size,_,I.laid (t':=U) (o:=.lst (ks.map V.int)) (h':=h') kp (dz) ⟨by rw[length_map,sizeLine_eq];omega,h.toList,W,mX Z,by rw[Array.toArray_toList];exact Y⟩,rfl,?_⟩;exact wW sm (sW ks) (I.hok.fresh (dz)) k|_=>cases he
theorem FW{f:Pos}(g:x="list")(hc:X.calm=true)(j:Gl X x)(k:X.mg x=none)(l:SX X c a pa)(hs:starEach [a] X.env=(false,eval a X.env)::starEach [] X.env:=by rfl):SX X c (.Call (.Name x f) [a] [] pos) (.blt .Xb [pa]):=by subst g;exact oW (fun h=>oA (XF hc) j k (by decide+kernel) h (he:=hs)) l (fun ρ=>rfl) rfl hs
theorem MN{neg:Bool}{op:CmpOp}(f:(op=.In/\neg=false)\/(op=.NotIn/\neg=true))(L:X.A.units+8<cLine):gb X (compareOp op) (rD X.K (wJ neg)):=by rintro m s σ H x y v u Q I h t⟨F,d,e,r,sm,w,z,he,k⟩;cases d with
 |int j=>cases e with|dv ks M=>
     cases he;obtain⟨q,B,vs,rfl,C,E,G⟩:=z.dv sm;have J:=KR.zip E G;rw[w.int]at h;obtain rfl:u=Value.ref q:=t;have g:n6 H q (.int j) (jk (ent ks vs) (Sum.inl j:Key)):=.inl ⟨_,Sum.inl j,.inr ⟨B,C⟩,rfl,rfl⟩;have o:(jk (ent ks vs) (Sum.inl j:Key)).isSome=ks.contains j:=by rw[J.has j];congr 1;rw[List.map_fst_zip (by omega)]
     rcases f with⟨rfl,rfl⟩|⟨rfl,rfl⟩;.refine YK (by omega) I g h fun s3 l=>⟨.bl (jk (ent ks vs) (Sum.inl j:Key)).isSome,H,l,rfl,?_⟩;rw[o];exact cj.cX sm (fu _) k
     .refine Am (by omega) I g h fun s3 l=>⟨.bl (!(jk (ent ks vs) (Sum.inl j:Key)).isSome),H,l,rfl,?_⟩;rw[o];exact cj.cX sm (fu _) k|_=>cases he
 |_=>cases he
end
end HH
end
section
namespace PySem
section
variable{prog:Program}{w:World}{A:Around}{E:Value->Shared->Prop}{s:Shared}
theorem uA{Q:List Value->Shared->Prop}{I l:Addr}{items:Array Value}(u:A.handled=none)(f:s.heap.IsRevIter I l ((items.size:Int)-1))(p:s.heap.IsList l items)(k:l≠I)(g:items.size<=2^24)(x:∀h' m c,(∀b o,b≠I->s.heap.get? b=some o->h'.get? b=some o)->s.heap.objs.size<h'.objs.size->ItemsOf (fun i v=>items[items.size-1-i]?=some v) c items.size->Q c.toList {s with heap:=h',toks:=m}):
 wpAny (model prog w) A (collect (.ref I)) Q E s:=by have h:I<s.heap.objs.size:=let⟨_,ho,_⟩:=f;lt_size ho;have n:l<s.heap.objs.size:=let⟨_,ho,_⟩:=p;lt_size ho;unfold collect;refine wpAny_bind (wpAny_runValue (codeAny_builtin F.entry_proto_collect ?_));rw[Around.under_plainId F.plain_proto_collect _];show wpAny _ A.in1 (newList []>>=fun l=>again (.builtin "list.__iadd__" ⟨[l,.ref I],[]⟩)) _ _ s;refine wpAny_bind (wpAny_newObj_type ?_);refine wpAny_pure ⟨plainId_quiet F.plain_list_iadd _,codeAny_builtin F.entry_list_iadd ?_⟩;rw[Around.under_plainId F.plain_list_iadd _];show wpAny _ A.in1 (listExtendWith (.ref s.heap.objs.size) (.ref I) (.ref s.heap.objs.size)) _ _ _;refine mC (A:=A) (R:=fun r q=>match r with
  |.ok (.ret v)=>wpAny (model prog w) A (match v with
   |.ref a=>do let o<-load a match o.data with|.seq xs _=>pure xs.toList|_=>unsupported "internal:collect"
   |_=>unsupported "internal:collect") Q E q|.ok _=>False|.error e=>E e q) (s:={s with heap:=s.heap.push {cls:=.type "list",data:=.seq #[]}}) u (f.at fun o e=>dG e) (p.at fun o e=>dG e) k g s.heap.objs.size (Ne.symm (ne_of_lt h)) (Ne.symm (ne_of_lt n)) _ 0 (get?_push_size _ rfl) fun h' m c B y t j=>?_;refine wpAny_bind (wpAny_load t ?_);exact wpAny_pure (x h' m c (fun b o z e=>y b o (ne_of_lt (lt_size e)) z (dG e)) (lt_size t) j)
end
theorem jz(I l:Addr)(items:Array Value)(i:l≠I)(hsz:items.size<=2^24):Meets (Builtin.«tuple.__new__» ⟨[.type "tuple",.ref I],[]⟩) (fun A R s=>A.handled=none/\s.heap.IsRevIter I l ((items.size:Int)-1)/\s.heap.IsList l items/\∀(h':Heap)(p:Nat),(∀b o,b≠I->s.heap.get? b=some o->h'.get? b=some o)->s.heap.objs.size<h'.objs.size->∀a:Array Value,a=items.reverse->R (.ok (.ret (.ref h'.objs.size))) {s with heap:=h'.push {cls:=.type "tuple",data:=.seq a},toks:=p}):=.of_wp fun prog w A R s h=>by
  obtain⟨r,f,t,h⟩:=h;have q:=sub_tuple_self;have k:=init_tuple_lookup;have u:=madeHere_tuple;have x:Shared.TypeIs s (.ref I) "list_reverseiterator":=f.typeIs;obtain⟨o,ho,hc,hd⟩:=id f;obtain⟨C,g,d,p,os⟩:=s;wp_walk using AutoSeq1.wpAny_loadPart' ho,wpAny_typeOf x,uA (A:=A.in1) r f t i hsz;intro h' m a y n c;show wpAny _ _ (tupleExact a.toList.toArray>>=fun v=>ret v) _ _ _;have e:a.toList.toArray=a:=by simp
  have z:a=items.reverse:=by refine Array.ext (by rw[c.1,Array.size_reverse]) fun j h1 E=>?_;have:=c.2 j _ (Array.getElem?_eq_getElem h1);rw[Array.getElem_reverse];have B:=Array.getElem?_eq_some_iff.mp this;exact B.2.symm
  rw[e];unfold tupleExact;refine wpAny_bind (wpAny_newObj_type ?_ (by show a.size<=sizeLine;rw[c.1,sizeLine_eq];omega));exact wpAny_pure ⟨_,rfl,h h' m y n a z⟩
section
variable{prog:Program}{w:World}{A:Around}{E:Value->Shared->Prop}{s:Shared}
theorem o9{I l:Addr}{items:Array Value}{Q:Value->Shared->Prop}(i:A.handled=none)(a:s.heap.IsRevIter I l ((items.size:Int)-1))(j:s.heap.IsList l items)(c:l≠I)(hsz:items.size<=2^24)(h:∀(h':Heap)(f:Nat),(∀b o,b≠I->s.heap.get? b=some o->h'.get? b=some o)->s.heap.objs.size<h'.objs.size->Q (.ref h'.objs.size) {s with heap:=h'.push {cls:=.type "tuple",data:=.seq items.reverse},toks:=f}):wpAny (model prog w) A (call (.type "tuple") [.ref I]) Q E s:=callType_new F.called_tuple (by decide) (F.typeCall_tuple_1 _) (F.newCall_tuple_1 _) (fun obj=>F.args_object_init_2 obj _) F.entry_tuple_new (jz I l items c hsz) ⟨i,a,j,fun h' f k g m e=>by subst e;exact⟨⟨_,get?_push_size _ rfl,rfl⟩,h h' f k g⟩⟩
end
end PySem
namespace L2
open PySem PySem.Spec PyProof.Rows
section
variable{X:Cx}{pins:List (Addr×Obj)}{σ:St}{H:Hp}{s:Shared}{E:Value->Shared->Prop}
theorem za{a:Expr}{z:TE}{p pos p2 g:Pos}(hc:X.calm=true)(C:Gl X "tuple")(G:X.mg "tuple"=none)(J:Gl X "reversed")(L:X.mg "reversed"=none)(M:PE X a z)(hs:starEach [a] X.env=[(false,eval a X.env)]:=by rfl)(i:starEach [.Call (.Name "reversed" p) [a] [] pos] X.env=[(false,eval (.Call (.Name "reversed" p) [a] [] pos) X.env)]:=by rfl):PE X (.Call (.Name "tuple" p2) [.Call (.Name "reversed" p) [a] [] pos] [] g) (fun σ H Q=>z σ H fun x f=>∃ad xs,x=.ref ad/\eV X.K f ad xs/\∀l,f l=none->Q (.ref l) (upd f l (.tup xs.reverse))):=by
 intro pins s σ H Q I h;refine Call_ (gn I C G vZ (PyProof.Rows.callWith_type1 ?_ i rfl));rw[i];show wpAny _ _ (spliced ((false,eval (.Call (.Name "reversed" p) [a] [] pos) X.env)::[])) _ _ _;refine Calls.spliced_cons (Call_ (gn I J L qG (PyProof.Rows.callWith_type1 (bR ((bC M cW hs) pos pins s σ H (fun vs f=>match vs with|[x]=>∃ad xs,x=.ref ad/\eV X.K f ad xs/\∀l,f l=none->Q (.ref l) (upd f l (.tup xs.reverse))|_=>False) I h) ?_) hs rfl)));rintro Z s1⟨vs,f,m,r1,n⟩;obtain⟨ad,xs,N,q,t⟩:∃ad xs,eV X.K f ad xs/\(∀l,f l=none->Q (.ref l) (upd f l (.tup xs.reverse)))/\vs=[.ref ad]:=by cases vs with|nil=>cases n|cons x r=>cases r with|nil=>obtain⟨ad,xs,rfl,q,O⟩:=n;exact⟨ad,xs,q,O,rfl⟩|cons _ _=>cases n
 subst t;obtain⟨u,rfl,U⟩:=r1.one;cases U;obtain⟨c,A,v,hz⟩:=m.list N;have hsz:c.toArray.size=xs.length:=by rw[size_toArray,<-A.length]
 refine call_reversed_list v.isList (Calls.spliced_nil ?_);have w:ad≠s1.heap.objs.size:=ne_of_lt (let⟨_,ho,_⟩:=v.isList;lt_size ho);have y:(s1.heap.push (revObj ad ((c.toArray.size:Int)-1))).IsList ad c.toArray:=v.isList.at fun o e=>dG e;refine o9 (m.ok.hd hc) (I:=s1.heap.objs.size) (l:=ad) (items:=c.toArray) ⟨_,get?_push_size _ rfl,rfl,rfl⟩ y w (by rw[hsz];exact le_trans hz (by decide)) fun h' W B j=>?_;have k:(s1.heap.push (revObj ad ((c.toArray.size:Int)-1))).objs.size=s1.heap.objs.size+1:=size_push ..;dsimp only at B j ⊢;rw[k]at j;have Y:c.toArray.reverse=c.reverse.toArray:=by simp
 rw[Y];refine⟨.ref h'.objs.size,_,m.laid (t':=W) (o:=.tup xs.reverse) (h':=h'.push {cls:=.type "tuple",data:=.seq c.reverse.toArray}) (fun b o e=>dG (B b o (ne_of_lt (lt_size e)) (dG e))) (by omega) ?_,rfl,q _ (m.hok.fresh (by omega))⟩;exact⟨by rw[List.length_reverse];exact hz,_,A.reverse,IsTup.new _ _⟩
end
end L2
namespace HH
open PySem L2 PySem.Spec PyProof.Rows
section
variable{X:Cx}{c:Call}{a:Expr}{pa:P}{pos:Pos}
theorem yx{x y:Str}{j n b:Pos}(o:y="tuple")(p:x="reversed")(hc:X.calm=true)(q:Gl X y)(t:X.mg y=none)(u:Gl X x)(w:X.mg x=none)(z:SX X c a pa)(hs:starEach [a] X.env=[(false,eval a X.env)]:=by rfl)(m:starEach [.Call (.Name x j) [a] [] pos] X.env=[(false,eval (.Call (.Name x j) [a] [] pos) X.env)]:=by rfl):SX X c (.Call (.Name y n) [.Call (.Name x j) [a] [] pos] [] b) (.blt .rvT [pa]):=by subst p o;obtain⟨Z,h1,A⟩:=z.cC;refine⟨di (za hc q t u w h1 hs m) ?_,fun i h=>by cases h⟩;rintro σ H Q⟨F,ρ,r,B,g,e,k⟩;rw[HH.E17]at e;obtain⟨d,C,E,f⟩:=aj e;have G:=aB f;clear f;obtain⟨f,I⟩:=G;subst I;cases d with|lst ds=>cases f;refine A g E ?_;rintro v F' H' s J;obtain⟨ad,xs,rfl,L,M⟩:=J.lst s.gs.sub;exact⟨ad,xs,rfl,L,fun l N=>zX s.gs.sub (aG.rev M) N fun v O U W Y=>k v O U (s.trans (W.stp s.gs)) (.later s (Y.nj s.gs))⟩|_=>cases f
end
end HH
end
section
namespace L2
open PySem PySem.Spec PyProof.Rows PySem.Calls
section
variable{X:Cx}
theorem Gg:Yc X (YM X.K):=by
 intro a s σ H x y v u Q I g k h;obtain⟨p,xs,i,z,rfl,rfl,l,he,q⟩:=h;cases g;obtain⟨t,rfl⟩:=k;obtain⟨b,r,e,hz⟩:=I.list l;obtain⟨j,h1,m,C,n,o⟩:=uV he;obtain⟨w,f,A⟩:=r.get m;have B:=r.length;have E:=rM;have fin:EP X a σ Q w s:=⟨z,H,I,A,q⟩;by_cases h0:0<=i
 . have c:i.toNat=j:=by rw[seqIndex_of h0 o]at h1;exact Option.some.inj h1
   exact wpAny_getItem_list e.isList h0 (by omega) (by rw[c];simpa using f) fin
 . have c:(i+(b.toArray.size:Int)).toNat=j:=by rw[seqIndex_neg (by omega) n]at h1;rw[size_toArray,<-B];exact Option.some.inj h1
   exact wpAny_getItem_list_neg e.isList (by omega) (by rw[size_toArray]<;>omega) (by omega) (by rw[c];simpa using f) fin
end
end L2
namespace HH
open PySem L2 PySem.Spec PyProof.Rows PySem.Calls PySem.W
section
variable{X:Cx}{c:Call}{n:Nat}{a b e:Expr}{pa pb p:P}{pos:Pos}
set_option maxHeartbeats 800000 in
theorem Bg{k e:Int}{t1 t2 p1 p2 p3}:SX X c (.Dict [some (.Constant (.int k) t1 p1)] [.Constant (.int e) t2 p2] p3) (.Aa k e):=by
 refine⟨?_,fun i h=>by cases h⟩;intro f s σ H Q I h;obtain⟨F,ρ,r,x,g,m,y⟩:=h;rw[HH.E28]at m;cases m;have A:nG [] [((Sum.inl k:Key),V.int e)]=ent [k] [.int e]:=rfl;have B:=Be (X:=X) (pos:=p3) (wK (qY (i:=k) (j:=t1) (pos:=p1)) (qY (i:=e) (j:=t2) (pos:=p2)) CG) rfl rfl (by simp) (by simp);refine bR (B f s σ H (fun v C=>∃q,v=.ref q/\H q=none/\C=upd H q (BV [k] [.int e])) I ?_) fun u s1⟨v,H1,I1,r1,q,e1,hn,e2⟩=>?_;.intro q E;refine⟨aO,[(Sum.inl k,.int e)],rfl,by simp,q,rfl,E,?_⟩;rw[uF,A];rfl
 subst e1 e2;obtain⟨o,t⟩:=Inv.Jw I1 (a:=q) (kvs:=ent [k] [.int e]) aO;rw[uF]at t;have G:F q=none:=by cases z:F q with|none=>rfl|some o=>rw[g.sub q o z]at hn;cases hn
 have sm:aF F (upd F q (.dj o (BV [k] [.int e]))):=aF.cg G;refine⟨.ref q,_,t,r1,y _ (upd F q (.dj o (BV [k] [.int e]))) _ (Ext.stp g ⟨aF.cg hn,sm,fun b o e=>?_,fun b n w=>?_⟩) ?_⟩
 . by_cases l:b=q;.subst l;rw[aO]at e ⊢;exact e
   .rw[aD l]at e ⊢;exact g.sub b o e
 . by_cases l:b=q;.subst l;exact kE hn
   .rw[aD l]at w;exact absurd n w
 .show Rep X.K _ _ (.dv [k] [.int e]);rw[Rep];exact⟨q,o,[.int e],rfl,aO,.cons (bL _) .nil,rfl⟩
theorem KD{x:Str}{k:Nat}{px o:Pos}{op:Operator}{sub:Bool}(ho:Ou X op (Vz fun i j=>if sub then i-j else i+j))(hN:X.N[k]?=some x)(hv:vV X.env.scope x)(hi:SX X c b pb)(he:SX X c e p)(ha:∀A iv f,augStore b A iv f=(do holding [f,A,iv] (setItem A iv f);release [f,A,iv] [];pure .next):=by intros;rfl)(hd:(x==("__debug__":Str))=false:=by decide)(E:(x==("__classdict__":Str))=false:=by decide):SS X c n (.AugAssign (.Subscript (.Name x px) b o) op e pos) (.JS k pb sub p):=by
 obtain⟨ti,G,I⟩:=hi.cC;obtain⟨te,J,L⟩:=he.cC;refine dw (Mz (fC hN hv hd E) G Gg J ho set_list ha) ?_;rintro D σ H⟨F,ρ,fl,ac,g,e,kk⟩;rw[HH.X17]at e;obtain⟨x0,ae,r,Z⟩:=aj e;clear e;obtain⟨e0,Ab⟩:=aB r;clear r;subst Ab;obtain⟨dk,M,e1,eB⟩:=aj Z;clear Z;obtain⟨l,af,h,eC⟩:=aj eB;clear eB;obtain⟨B,O⟩:=aB h;clear h;subst O;obtain⟨ra,ag,s,eD⟩:=aj eC;clear eC;obtain⟨e3,Q⟩:=aB s;clear s;subst Q;obtain⟨db,ah,e4,t⟩:=aj eD;clear eD;obtain⟨U,TX,m,_⟩:=vd g e0;refine⟨.ref U,m,I g e1 fun vi F1 H1 s1 pi=>?_⟩;split at t
 . rename_i u v bb ds kz q;split at t
   . rename_i j hj;cases t;obtain⟨C,f3,f5⟩:=bV e3;have W:C=kz:=by cases f3;rfl
     subst W;have h:pk M k=some (.lst l):=by
      unfold yH at B;split at B;.rename_i z;cases B;exact z
      .cases B
     obtain⟨o',y,po⟩:=s1.gs.pk h;rw[m]at y;cases y;obtain⟨ad,xs,hr,hL,rs⟩:=po.lst s1.gs.sub;cases hr;obtain⟨j0,h1,h2⟩:=HS f5;obtain⟨w,h3,h4⟩:=rs.get h2;have Y:Ht xs C=some w:=by unfold Ht;rw[rs.length,h1];exact h3
     have hw:w=.int u:=by rw[Rep]at h4;exact h4
     subst hw;refine⟨U,xs,C,.int u,rfl,pi.int,hL,Y,L s1.gs e4 fun vb F2 H2 s2 pb=>⟨u,v,rfl,pb.int,?_⟩⟩;obtain⟨ai,zs,z1,z2,z3,z4⟩:=s2.gs.lG k _ ds q rfl;rw[m]at z1;cases z1;refine⟨U,zs,C,j,rfl,pi.int,z2,by rw[z4.length];exact hj,?_⟩;exact kk F2 σ _ ((s1.trans s2).trans (s2.gs.mut q m (z4.set (bL _) j)))
   .cases t
 .cases t
end
section
variable{X:Cx}{c:Call}{n:Nat}{a b e:Expr}{pa pb p:P}{pos:Pos}
theorem Ku{neg:Bool}{o:Op}{op:CmpOp}(h:(op=.In/\neg=false)\/(op=.NotIn/\neg=true))(j:rZ o=wJ neg)(l:X.A.units+8<cLine)(m:SX X c a pa)(y:SX X c b pb)(B:behindInMarks op b=false):ST X c (.Compare a [op] [b] pos) (.bin o pa pb):=by obtain⟨C,E,h1,G,I⟩:=m.iI y;refine wA (Bk (MN h l) h1 G B) fun σ H Q q=>lN (t:=S9 (rD X.K (wJ neg)) C E) (fun Q z=>?_) q;obtain⟨F,ρ,r,J,g,e,k⟩:=z;rw[HH.E4]at e;obtain⟨i,L,M,f⟩:=aj e;have N:=aB f;clear f;obtain⟨f,O⟩:=N;subst O;rw[j]at f;refine I g M fun v u U H' s W Y=>⟨U,i.1,i.2,r,s.gs.sub,W,Y,f,fun w Z H2 x rn=>?_⟩;exact k w Z H2 (s.trans (x.stp s.gs)) (.later s (rn.nj s.gs))
theorem R7(f:X.A.units+8<cLine)(g:SX X c a pa)(h:SX X c b pb)(i:behindInMarks .In b=false):ST X c (.Compare a [.In] [b] pos) (.bin .din pa pb):=Ku (.inl ⟨rfl,rfl⟩) rfl f g h i
theorem Va{i:Nat}{x:Str}{h:Pos}{pk:P}{neg:Bool}{op:CmpOp}(f:(op=.In/\neg=false)\/(op=.NotIn/\neg=true))(j:X.A.units+8<cLine)(k:X.N[i]?=some x)(l:vV X.env.scope x)(m:SX X c a pk)(o:behindInMarks op (.Name x h)=false)(hd:(x==("__debug__":Str))=false:=by decide)(g:(x==("__classdict__":Str))=false:=by decide):ST X c (.Compare a [op] [.Name x h] pos) (.Qn i pk neg):=wA (Ug (U8 f j k l m hd g) o) fun σ H Q q=>lN (fun _ z=>z) q
end
end HH
end
section
namespace HH
open PySem L2 PySem.Spec PyProof.Rows
section
variable{X:Cx}{c:Call}{n:Nat}{pos:Pos}
def aeI(k e:Int):TE:=fun _ H Q=>∀p,H p=none->Q (.ref p) (upd H p (.dK [(Sum.inl k,.int e)]))
theorem RM{k e:Int}{t1 t2 p1 p2 p3}:PE X (.Dict [some (.Constant (.int k) t1 p1)] [.Constant (.int e) t2 p2] p3) (aeI k e):=by refine di (Be (X:=X) (pos:=p3) (wK (qY (i:=k) (j:=t1) (pos:=p1)) (qY (i:=e) (j:=t2) (pos:=p2)) CG) rfl rfl (by simp) (by simp)) ?_;intro σ H Q h q a;refine⟨aO,[(Sum.inl k,.int e)],rfl,by simp,?_⟩;rw[uF];exact h q a
set_option maxHeartbeats 1000000 in
theorem Ng{i:Nat}{x:Str}{k e:Int}{t1 t2 p1 p2 p3}{b:Pos}(m:X.N.Nodup)(hi:X.N[i]?=some x)(o:Loc X.env.scope x)(hs:swapsWith (.Dict [some (.Constant (.int k) t1 p1)] [.Constant (.int e) t2 p2] p3) (some (.Name x b)) pos.line X.env=pure false:=by rfl)(p:X.fn x=true\/X.env.scope.names.lookup x=some .local:=by first|exact .inl rfl|exact .inr rfl|assumption):SS X c n (.Assign [.Name x b] (.Dict [some (.Constant (.int k) t1 p1)] [.Constant (.int e) t2 p2] p3) pos) (.JZ i k e):=by
 have h0:=u6 m hi o (RM (X:=X) (k:=k) (e:=e) (t1:=t1) (t2:=t2) (p1:=p1) (p2:=p2) (p3:=p3)) hs p;show PS X _ _;refine dw h0 ?_;rintro D σ H⟨F,ρ,fl,h,g,f,r⟩;rw[HH.X26]at f;have go:∀s0,ρ[i]?=some s0->tY s0=false->fl=.next->h=ρ.set i (.cF [(k,.int e)])->∀a,H a=none->D.nx (σ.set i (some (.ref a))) (upd H a (.dK [(Sum.inl k,.int e)])):=fun s0 q s j l a t=>by subst j l;exact r F _ _ (g.newV (kvs:=[(k,.int e)]) q s (KR.oc (.cons (bL _) .nil)) t)
 split at f;.rename_i q;cases f;exact go _ q rfl rfl rfl
 .rename_i q;cases f;exact go _ q rfl rfl rfl
 .rename_i q;cases f;exact go _ q rfl rfl rfl
 .cases f
end
end HH
end
noncomputable section
set_option maxHeartbeats 4000000
namespace T
open PySem L2 PySem.Spec PyProof.Rows HH
local macro_rules|`(term|⇑$n)=>`(P.con (.int $n))
local macro_rules|`(term|↑$n)=>`(P.var $n)
local macro_rules|`(tactic|ac_rfl)=>`(tactic|first|exact Or.inl rfl|exact Or.inr (Or.inl rfl))
set_option hygiene false
local macro_rules|`(term|↥($a,$b,$d))=>`(nH Pg w K mg base Hu (k+1) f fd $a (Kr K $b (fun args=>enter c n $d args)))
local macro_rules|`(term|↥($a,$b,$d,0))=>`(aR Pg w K mg base k c $a $b $d)
set_option hygiene true
local macro_rules|`(term|⇑($x))=>`(fun _ _ _ _ _=>$x)
local macro_rules|`(term|nofun)=>`(⟨rfl,rfl,rfl,by decide+kernel,rfl,by decide+kernel,by decide+kernel⟩)
local macro_rules|`(tactic|exists$e)=>`(tactic|with_reducible refine$e)
local macro_rules|`(tactic|lia)=>`(tactic|with_reducible refine aM ?_ ?_)
set_option hygiene false
local macro_rules|`(tactic|exists$i,$e)=>`(tactic|((with_reducible refine nD (i:=$i) ?_ ?_ ?_ ?_ ?_ ?_);exact nd;exact rfl;exact oi;rotate_left;rfl;exact oi;exact$e))
local macro_rules|`(tactic|exists$i,$e,0)=>`(tactic|((with_reducible refine BX (i:=$i) ?_ ?_ ?_ ?_ ?_ ?_ ?_ ?_ ?_);exact PassesOwn.never;exact hc;exact nd;exact rfl;exact oi;exact$e;rotate_left;(· intro _;rfl);exact oi))
local macro_rules|`(tactic|exists$a,$b,0,0)=>`(tactic|(refine Zg $a $b rfl rfl fun cdv A outer s H E hr=>?_;have nd:=($b).nd))
local macro_rules|`(tactic|exists(),$e)=>`(tactic|((with_reducible refine Uz ?_);exact$e))
set_option hygiene true
local macro_rules|`(term|‹$l›)=>`((show(($l):List Str).Nodup by decide+kernel))
theorem hc:true=true:=rfl
theorem oi{b:Type}{a:b}{p:Prop}:a=a\/p:=.inl rfl
theorem aP{X:Cx}{c:Call}{a:Expr}{es:List Expr}{b:P}{ps:List P}(e:SX X c a b)(hr:SG X c es ps)(h:nst a=true):SG X c (a::es) (b::ps):=Ky e hr (iV h)
theorem dZ{X:Cx}{c:Call}{a:Expr}{es:List Expr}{b:P}{ps:List P}(e:SX X c a b)(hr:SA X c es ps)(h:nst a=true):SA X c (a::es) (b::ps):=pQ e hr (iV h)
variable{Pg:Program}{w:World}{K:PySem.W.Frag}{mg:Str->Option Value}{base:Heap}{f:Addr}{fd:FuncData}{k n:Nat}{c:Call}{cl:Nat->Addr}
noncomputable def top(i:Nat):Stmt:=PySem.Challenge.pw_hourhaul_k88_whole_no_lanes_bring_more.main.body.getD i (.Pass ⟨0,0,0,0⟩)
abbrev s0:Stmt:=top 6
noncomputable def b0:List S:=[.asg 2 (.idx (.idx ↑0 ⇑1) (.idx ↑1 ⇑0)),.ret (.Ql (.idx ↑1 ⇑1) (.tup [.idx ↑2 ⇑0,.idx ↑2 ⇑1]) (.tup [.idx ↑2 ⇑1,.idx ↑2 ⇑0]))]
def f0:Fd:=⟨2,3,b0⟩
theorem sc0:aH ["net","step","way"] ["net","step"] (aA s0):=nofun
include cl in
theorem d0(a:gh K "step_places" "step_places" s0 f fd):↥(["net","step"],2,f0):=by
 exists a,sc0,0,0;refine aM ?_ ?_;.exists 2,au (au (sv 0) aa) (au (sv 1) aa)
 lia;.exists(),vA (gC (au (sv 1) aa)) (cH (dZ (au (sv 2) aa) (dZ (au (sv 2) aa) aU rfl) rfl)) (cH (dZ (au (sv 2) aa) (dZ (au (sv 2) aa) aU rfl) rfl))
 exact ao
abbrev s1:Stmt:=top 7
noncomputable def b1:List S:=[.asg 2 (.idx (.idx (.idx ↑0 ⇑1) (.idx ↑1 ⇑0)) ⇑3),.ret (.Ql (.idx ↑1 ⇑1) ↑2 (.neg ↑2))]
def f1:Fd:=⟨2,3,b1⟩
theorem sc1:aH ["net","step","hours"] ["net","step"] (aA s1):=nofun
include cl in
theorem d1(a:gh K "step_hours" "step_hours" s1 f fd):↥(["net","step"],2,f1):=by
 exists a,sc1,0,0;refine aM ?_ ?_;.exists 2,au (au (au (sv 0) aa) (au (sv 1) aa)) aa
 lia;.exists(),vA (gC (au (sv 1) aa)) (sv 2) (JF (sv 2))
 exact ao
abbrev s2:Stmt:=top 8
noncomputable def b2:List S:=[.asg 3 (.idx ↑1 (.idx ↑2 ⇑0)),.ret (.Ql (.idx ↑2 ⇑1) (.bin .sub (.idx (.idx (.idx ↑0 ⇑1) (.idx ↑2 ⇑0)) ⇑2) ↑3) ↑3)]
def f2:Fd:=⟨3,4,b2⟩
theorem sc2:aH ["net","stream","step","loads"] ["net","stream","step"] (aA s2):=nofun
include cl in
theorem d2(a:gh K "step_room" "step_room" s2 f fd):↥(["net","stream","step"],3,f2):=by
 exists a,sc2,0,0;refine aM ?_ ?_;.exists 3,au (sv 1) (au (sv 2) aa)
 lia;.exists(),vA (gC (au (sv 2) aa)) (aq dW (au (au (au (sv 0) aa) (au (sv 2) aa)) aa) (sv 3)) (sv 3)
 exact ao
abbrev s3:Stmt:=top 9
noncomputable def b3:List S:=[.ret (.blt .sum [.comp ↑1 1 [2] true none (.call 1 [↑0,↑2])])]
def f3:Fd:=⟨2,2,b3⟩
theorem sc3:aH ["net","steps"] ["net","steps"] (aA s3):=nofun
include cl in
theorem d3(a:gh K "steps_hours" "steps_hours" s3 f fd)(jj:mg "sum"=none)(b:↥(1,"step_hours",2,0)):↥(["net","steps"],2,f3):=by
 exists a,sc3,0,0;refine aM ?_ ?_;.exists(),uU rfl hc (by rfl) jj (fL (N':=["net","steps","step"]) hc (wY rfl (by rfl)) (dM (sv 1)) ⇑(aL (i:=2) ‹["net","steps","step"]› rfl (Or.inl rfl) (Or.inr rfl)) (dR (dz)) ⇑(cO) ⇑((cJ b hr (aP (sv 0) (aP (sv 2) az rfl) rfl))))
 exact ao
abbrev s4:Stmt:=top 10
noncomputable def b4:List S:=[.JW 2 (.rW ⇑0 (.idx ↑0 ⇑0)) 1 [5] true (.lst []),.Fv (.rW ⇑0 (.blt .len [.idx ↑0 ⇑1])) [3] true [.Fv (.tup [.tup [↑3,.con (.bl true)],.tup [↑3,.con (.bl false)]]) [4] true [.ifs (.cmp .gt (.call 2 [↑0,↑1,↑4]) ⇑0) [.JX 2 (.idx (.call 0 [↑0,↑4]) ⇑0) ↑4] []]],.dj 2,.ret ↑2]
def f4:Fd:=⟨2,5,b4⟩
theorem sc4:aH ["net","stream","steps","number","step"] ["net","stream"] (aA s4):=nofun
include cl in
theorem d4(a:gh K "open_steps" "open_steps" s4 f fd)(aY:mg "len"=none)(bj:mg "range"=none)(b:↥(0,"step_places",2,0))(e:↥(2,"step_room",3,0)):↥(["net","stream"],2,f4):=by exists a,sc4,0,0;exact(by(refine LR (i:=2) (N':=["net","stream","steps","number","step","place"]) (g:=jD 5) ?_ ?_ ?_ ?_ ?_ ?_ ?_ ?_ ?_ ?_ ?_ ?_ ?_ ?_);exact hc;exact nd;exact rfl;exact oi;exact wY rfl (by rfl);exact gZ rfl (by rfl) bj (au (sv 0) aa);exact ⇑(aL (i:=5) ‹["net","stream","steps","number","step","place"]› rfl (Or.inl rfl) (Or.inr rfl));exact dR (dz);exact ⇑(cO);exact ⇑((cP aU));(· exists GC ?_ ?_;(· exists BW (g:=jD 3) ?_ ?_ ?_ ?_ ?_ ?_ ?_;exact PassesOwn.never;exact hc;(· exists Hm ?_ ?_ ?_ ?_ ?_;exact rfl;rfl;exact bj;exact cN rfl (by rfl) aY (au (sv 0) aa);rfl);exact aL (i:=3) nd rfl oi oi;(· rw[nC];exact vg 3);(· exists qU ?_ ?_;(· exists BW (g:=jD 4) ?_ ?_ ?_ ?_ ?_ ?_ ?_;exact PassesOwn.never;exact hc;exact K9 (cH (dZ (cH (dZ (sv 3) (dZ mj aU rfl) rfl)) (dZ (cH (dZ (sv 3) (dZ mj aU rfl) rfl)) aU rfl) rfl));exact aL (i:=4) nd rfl oi oi;(· rw[nC];exact vg 4);(· exists qU ?_ ?_;(· exists Q9 ?_ ?_ ?_;exact bW jF (cJ e hr (aP (sv 0) (aP (sv 1) (aP (sv 4) az rfl) rfl) rfl)) aa (bA _);(· exists qU ?_ ?_;(· exists Iu (k:=2) ?_ ?_ ?_ ?_ ?_ ?_ ?_ ?_ ?_ ?_ ?_ ?_;exact rfl;(· first|exact Or.inl rfl|exact Or.inr (Or.inl rfl));exact au (cJ b hr (aP (sv 0) (aP (sv 4) az rfl) rfl)) aa;exact sv 4;(· intro _ _;rfl);rfl;rfl;rfl;rfl;rfl;rfl;rfl);exact pN);exact pN);exact pN);(· intro _;rfl));exact pN);(· intro _;rfl));(· exists K3 ?_;(· lia;(· exists(),sv 2);exact ao)));rfl;(· intro _;rfl);exact oi)
abbrev s5:Stmt:=top 11
noncomputable def b5:List S:=[.asg 3 (.call 4 [↑0,↑1]),.Fw 4,.iM (.blt .keys [↑2]) [5] true [.fX 4 ↑5 (.tup [.bin .zZ ↑2 ↑5,⇑0,.con .non])],.asg 6 (.blt .Xb [↑2]),.whl (.cmp .gt (.blt .len [↑6]) ⇑0) [.Fw 7,.iM ↑6 [5] true [.iM (.idx ↑3 ↑5) [8] true [.asg 9 (.idx (.call 0 [↑0,↑8]) ⇑1),.asg 10 (.tup [.bin .add (.idx (.Qm 4 ↑5) ⇑0) (.call 1 [↑0,↑8]),.bin .add (.idx (.Qm 4 ↑5) ⇑1) ⇑1]),.ifs (.or (.Qn 4 ↑9 true) (.cmp .lt ↑10 (.slice (.Qm 4 ↑9) (.con .non) ⇑2))) [.fX 4 ↑9 (.bin .add ↑10 (.tup [↑8])),.fX 7 ↑9 (.con (.bl true))] []]],.asg 6 (.blt .Xb [.vw 7])],.ret ↑4]
def f5:Fd:=⟨3,11,b5⟩
theorem sc5:aH ["net","stream","begun","steps","come","place","row","changed","step","to","found"] ["net","stream","begun"] (aA s5):=nofun
include cl in
theorem d5(a:gh K "shortest_come" "shortest_come" s5 f fd)(aY:mg "len"=none)(fK:mg "list"=none)(b:↥(4,"open_steps",2,0))(e:↥(1,"step_hours",2,0))(g:↥(0,"step_places",2,0)):↥(["net","stream","begun"],3,f5):=by
 exists a,sc5,0,0;refine aM ?_ ?_;.exists 3,cJ b hr (aP (sv 0) (aP (sv 1) az rfl) rfl)
 lia;.exact(Ce (i:=4) nd rfl oi (by rfl) (Or.inl rfl))
 lia;.exists 5,Ny (sv 2),0;(· lia;exact pP (i:=4) (bu hr) rfl (by ac_rfl) (sv 5) (cH (dZ (pR (bu hr) (sv 2) (sv 5) (fun _ _=>rfl)) (dZ aa (dZ GK aU rfl) rfl) rfl)) (by rfl);exact ao)
 lia;.exists 6,FW rfl hc (by rfl) fK (sv 2)
 lia;.exact(zb PassesOwn.never (bW jF (cN rfl (by rfl) aY (sv 6)) aa (bA _)) (by lia;exact Ce (i:=7) nd rfl oi (by rfl) (Or.inl rfl);(· lia;(· exists 5,dM (sv 6),0;(· lia;(· exists 8,dM (au (sv 3) (sv 5)),0;(· lia;(· exists 9,au (cJ g hr (aP (sv 0) (aP (sv 8) az rfl) rfl)) aa);(· lia;(· exists 10,cH (dZ (aq aK (au (zg (i:=4) (bu hr) rfl (by ac_rfl) (sv 5) (fun _ _=>rfl)) aa) (cJ e hr (aP (sv 0) (aP (sv 8) az rfl) rfl))) (dZ (aq aK (au (zg (i:=4) (bu hr) rfl (by ac_rfl) (sv 5) (fun _ _=>rfl)) aa) aa) aU rfl) rfl));(· lia;(· exists eG ?_ ?_ ?_;exact SW.st (Ga (Va (i:=4) (Or.inr ⟨rfl,rfl⟩) (bu hr) rfl (by ac_rfl) (sv 9) (by with_unfolding_all rfl)) (yu (bW (uD (bu hr)) (sv 10) (qg (zg (i:=4) (bu hr) rfl (by ac_rfl) (sv 9) (fun _ _=>rfl)) vq (uR aa)) (bA _))));(· lia;exact pP (i:=4) (bu hr) rfl (by ac_rfl) (sv 9) (aq aK (sv 10) (cH (dZ (sv 8) aU rfl))) (by rfl);(· lia;exact pP (i:=7) (bu hr) rfl (by ac_rfl) (sv 9) mj (by rfl);exact ao));exact ao);exact ao))));exact ao));(· lia;(· exists 6,FW rfl hc (by rfl) fK (xu (i:=7) rfl (by ac_rfl)));exact ao))))
 lia;.exists(),sv 4
 exact ao
abbrev s6:Stmt:=top 12
noncomputable def b6:List S:=[.asg 3 (.lst []),.asg 4 ↑2,.whl (.cmp .N8 (.idx (.bin .zZ ↑1 ↑4) ⇑2) (.con .non)) [.asg 5 (.idx (.bin .zZ ↑1 ↑4) ⇑2),.app 3 ↑5,.asg 4 (.idx (.call 0 [↑0,↑5]) ⇑0)],.ret (.blt .rvT [↑3])]
def f6:Fd:=⟨3,6,b6⟩
theorem sc6:aH ["net","come","place","steps","here","step"] ["net","come","place"] (aA s6):=nofun
include cl in
theorem d6(a:gh K "steps_to" "steps_to" s6 f fd)(lQ:mg "reversed"=none)(bT:mg "tuple"=none)(b:↥(0,"step_places",2,0)):↥(["net","come","place"],3,f6):=by
 exists a,sc6,0,0;refine aM ?_ ?_;.exists 3,cP aU
 lia;.exists 4,sv 2
 lia;.exact(zb PassesOwn.never (bW Mm (au (pR (bu hr) (sv 1) (sv 4) (fun _ _=>rfl)) aa) GK (bA _)) (by lia;(· exists 5,au (pR (bu hr) (sv 1) (sv 4) (fun _ _=>rfl)) aa);(· lia;exact dm (k:=3) rfl (by ac_rfl) (sv 5);(· lia;(· exists 4,au (cJ b hr (aP (sv 0) (aP (sv 5) az rfl) rfl)) aa);exact ao))))
 lia;.exists(),yx rfl rfl hc (by rfl) bT (by rfl) lQ (sv 3)
 exact ao
abbrev s7:Stmt:=top 13
noncomputable def b7:List S:=[.asg 3 (.blt .list [↑0]),.iM ↑1 [4,5] false [.JS 3 ↑4 false (.Ql ↑5 ↑2 (.neg ↑2))],.ret ↑3]
def f7:Fd:=⟨3,6,b7⟩
theorem sc7:aH ["stream","steps","loads","changed","number","forth"] ["stream","steps","loads"] (aA s7):=nofun
include cl in
theorem d7(a:gh K "stream_with" "stream_with" s7 f fd)(fK:mg "list"=none):↥(["stream","steps","loads"],3,f7):=by
 exists a,sc7,0,0;refine aM ?_ ?_;.exists 3,Lq rfl (by rfl) fK (sv 0)
 lia;.exact(oF PassesOwn.never hc (dM (sv 1)) (fJ hc (aV (aL (i:=4) nd rfl oi oi) (aV (aL (i:=5) nd rfl oi oi) dF))) (nF rfl (cY _ _ (cY _ _ kI 5) 4)) (by lia;exact KD (k:=3) (sub:=false) NZ rfl (by ac_rfl) (sv 4) (vA (gC (sv 5)) (sv 2) (JF (sv 2)));exact ao))
 lia;.exists(),sv 3
 exact ao
abbrev s8:Stmt:=top 14
noncomputable def b8:List S:=[.asg 1 (.bin .sub (.idx ↑0 ⇑0) ⇑1),.asg 2 (.bin .mul (.lst [⇑0]) (.blt .len [.idx ↑0 ⇑1])),.asg 3 (.lst []),.asg 4 (.call 5 [↑0,↑2,.Aa 0 0]),.whl (.bin .din ↑1 ↑4) [.asg 5 (.call 6 [↑0,↑4,↑1]),.asg 6 (.blt .JQ [.comp ↑5 1 [7] true none (.call 2 [↑0,↑2,↑7])]),.app 3 (.tup [↑5,↑6]),.asg 2 (.call 7 [↑2,↑5,↑6]),.asg 4 (.call 5 [↑0,↑2,.Aa 0 0])],.ret ↑3]
def f8:Fd:=⟨1,7,b8⟩
theorem sc8:aH ["net","end","stream","chains","come","steps","loads"] ["net"] (aA s8):=nofun
include cl in
theorem d8(b:gh K "chains_to_end" "chains_to_end" s8 f fd)(aY:mg "len"=none)(m6:mg "min"=none)(a:↥(5,"shortest_come",3,0))(e:↥(2,"step_room",3,0))(g:↥(6,"steps_to",3,0))(h:↥(7,"stream_with",3,0)):↥(["net"],1,f8):=by
 exists b,sc8,0,0;refine aM ?_ ?_;.exists 1,aq dW (au (sv 0) aa) aa
 lia;.exists nD (i:=2) ?_ ?_ ?_ ?_ ?_ ?_;exact nd;exact rfl;exact Or.inr rfl;rotate_left;rfl;exact oi;exact aq dh (cP (dZ aa aU rfl)) (cN rfl (by rfl) aY (au (sv 0) aa))
 lia;.exists 3,cP aU
 lia;.exists 4,cJ a hr (aP (sv 0) (aP (sv 2) (aP Bg az rfl) rfl) rfl)
 lia;.exact(zb PassesOwn.never (R7 (bu hr) (sv 1) (sv 4) (by with_unfolding_all rfl)) (by lia;(· exists 5,cJ g hr (aP (sv 0) (aP (sv 4) (aP (sv 1) az rfl) rfl) rfl));(· lia;(· exists 6,Nm rfl hc (by rfl) m6 (fL (N':=["net","end","stream","chains","come","steps","loads","step"]) hc (wY rfl (by rfl)) (dM (sv 5)) ⇑(aL (i:=7) ‹["net","end","stream","chains","come","steps","loads","step"]› rfl (Or.inl rfl) (Or.inr rfl)) (dR (dz)) ⇑(cO) ⇑((cJ e hr (aP (sv 0) (aP (sv 2) (aP (sv 7) az rfl) rfl) rfl)))));(· lia;exact dm (k:=3) rfl (by ac_rfl) (cH (dZ (sv 5) (dZ (sv 6) aU rfl) rfl));(· lia;(· exists nD (i:=2) ?_ ?_ ?_ ?_ ?_ ?_;exact nd;exact rfl;exact Or.inr rfl;rotate_left;rfl;exact oi;exact cJ h hr (aP (sv 2) (aP (sv 5) (aP (sv 6) az rfl) rfl) rfl));(· lia;(· exists 4,cJ a hr (aP (sv 0) (aP (sv 2) (aP Bg az rfl) rfl) rfl));exact ao))))))
 lia;.exists(),sv 3
 exact ao
abbrev s9:Stmt:=top 15
noncomputable def b9:List S:=[.asg 2 (.lst []),.asg 3 ↑1,.iM ↑0 [4,5] false [.asg 6 (.blt .min2 [↑3,↑5]),.app 2 (.tup [↑4,↑6]),.aug 3 true ↑6],.ifs (.cmp .gt ↑3 ⇑0) [.bad] [],.ret ↑2]
def f9:Fd:=⟨2,7,b9⟩
theorem sc9:aH ["pairs","rate","cut","left","first","loads","taken"] ["pairs","rate"] (aA s9):=nofun
include cl in
theorem d9(a:gh K "cut_to_rate" "cut_to_rate" s9 f fd)(m6:mg "min"=none):↥(["pairs","rate"],2,f9):=by
 exists a,sc9,0,0;refine aM ?_ ?_;.exists 2,cP aU
 lia;.exists 3,sv 1
 lia;.exact(oF PassesOwn.never hc (dM (sv 0)) (fJ hc (aV (aL (i:=4) nd rfl oi oi) (aV (aL (i:=5) nd rfl oi oi) dF))) (nF rfl (cY _ _ (cY _ _ kI 5) 4)) (by lia;(· exists 6,CN rfl hc (by rfl) m6 (dZ (sv 3) (dZ (sv 5) aU rfl) rfl));(· lia;exact dm (k:=2) rfl (by ac_rfl) (cH (dZ (sv 4) (dZ (sv 6) aU rfl) rfl));(· lia;exact Uv (i:=3) (sub:=true) Np nd rfl oi (sv 6) (Or.inl rfl);exact ao))))
 lia;.exists eG ?_ ?_ ?_;exact bW jF (sv 3) aa (bA _);(· lia;exact oh;exact ao);exact ao
 lia;.exists(),sv 2
 exact ao
abbrev nJ:Stmt:=top 17
noncomputable def b10:List S:=[.JV 1 false,.iM (.call 8 [↑0]) [2,3] false [.asg 4 (.call 3 [↑0,↑2]),.dput 1 ↑4 (.bin .add (.Xc 1 ↑4 ⇑0) ↑3)],.ret (.blt .JR [.vw 1])]
def f10:Fd:=⟨1,5,b10⟩
theorem aeX:aH ["net","bends","steps","loads","length"] ["net"] (aA nJ):=nofun
include cl in
theorem d10(a:gh K "bends_of" "bends_of" nJ f fd)(rN:mg "sorted"=none)(b:↥(8,"chains_to_end",1,0))(e:↥(3,"steps_hours",2,0)):↥(["net"],1,f10):=by
 exists a,aeX,0,0;refine aM ?_ ?_;.exact(LC (i:=1) nd rfl oi (by rfl) (Or.inl rfl))
 lia;.exact(oF PassesOwn.never hc (dM (cJ b hr (aP (sv 0) az rfl))) (fJ hc (aV (aL (i:=2) nd rfl oi oi) (aV (aL (i:=3) nd rfl oi oi) dF))) (nF rfl (cY _ _ (cY _ _ kI 3) 2)) (by lia;(· exists 4,cJ e hr (aP (sv 0) (aP (sv 2) az rfl) rfl));(· lia;exact KH (i:=1) (bu hr) rfl (by ac_rfl) (sv 4) (aq aK (Tq (i:=1) (bu hr) rfl (by ac_rfl) (sv 4) aa ⟨rfl,rfl,rfl,rfl⟩) (sv 3)) (by rfl);exact ao)))
 lia;.exists(),Lw rfl hc (by rfl) rN rfl (xu (i:=1) rfl (by ac_rfl))
 exact ao
abbrev Kc:Stmt:=top 19
noncomputable def b11:List S:=[.ret (.and (.inst [.int] ↑0) (.not (.inst [.bool] ↑0)))]
def f11:Fd:=⟨1,1,b11⟩
theorem afd:aH ["thing"] ["thing"] (aA Kc):=nofun
include cl in
theorem d11(a:gh K "is_whole" "is_whole" Kc f fd)(Ah:mg "bool"=none)(J4:mg "int"=none)(cQ:mg "isinstance"=none):↥(["thing"],1,f11):=by
 exists a,afd,0,0;refine aM ?_ ?_;.exists(),il (ye .int rfl (by rfl) cQ (sv 0) (by rfl) J4 (by kernel_rfl) (by decide) (by rfl)) (j6 (Ri (ye .bool rfl (by rfl) cQ (sv 0) (by rfl) Ah (by kernel_rfl) (by decide) (by rfl))))
 exact ao
abbrev s12:Stmt:=top 20
noncomputable def b12:List S:=[.ret (.and (.call 11 [↑0]) (.chain .le .le ↑1 ↑0 ↑2))]
def f12:Fd:=⟨3,3,b12⟩
theorem aeW:aH ["thing","least","most"] ["thing","least","most"] (aA s12):=nofun
include cl in
theorem d12(a:gh K "whole_within" "whole_within" s12 f fd)(b:↥(11,"is_whole",1,0)):↥(["thing","least","most"],3,f12):=by
 exists a,aeW,0,0;refine aM ?_ ?_;.exists(),il (cJ b hr (aP (sv 0) az rfl)) (j6 (yc lL lL (sv 1) (sv 0) (sv 2)))
 exact ao
abbrev s13:Stmt:=top 21
noncomputable def b13:List S:=[.ret (.inst [.list,.tuple] ↑0)]
def V3:Fd:=⟨1,1,b13⟩
theorem aeh:aH ["thing"] ["thing"] (aA s13):=nofun
include cl in
theorem d13(a:gh K "is_row" "is_row" s13 f fd)(cQ:mg "isinstance"=none)(fK:mg "list"=none)(bT:mg "tuple"=none):↥(["thing"],1,V3):=by
 exists a,aeh,0,0;refine aM ?_ ?_;.exists(),Jk rfl (by rfl) cQ (sv 0) (v9 .list (by rfl) fK (by kernel_rfl) (v9 .tuple (by rfl) bT (by kernel_rfl) Nv (by decide) (by rfl)) (by decide) (by rfl))
 exact ao
abbrev s14:Stmt:=top 28
noncomputable def b14:List S:=[.ret (.and (.call 13 [↑1]) (.and (.cmp .eq (.blt .len [↑1]) ⇑4) (.and (.call 12 [.idx ↑1 ⇑0,⇑0,.bin .sub ↑0 ⇑1]) (.and (.call 12 [.idx ↑1 ⇑1,⇑0,.bin .sub ↑0 ⇑1]) (.and (.cmp .ne (.idx ↑1 ⇑0) (.idx ↑1 ⇑1)) (.and (.call 12 [.idx ↑1 ⇑2,⇑0,.glob "MOST_ROOM" (.int 1000000000)]) (.call 12 [.idx ↑1 ⇑3,⇑1,.glob "MOST_HOURS" (.int 1000000)])))))))]
def f14:Fd:=⟨2,2,b14⟩
theorem adV:aH ["many","thing"] ["many","thing"] (aA s14):=nofun
include cl in
theorem d14(b:gh K "is_way" "is_way" s14 f fd)(aY:mg "len"=none)(jf:∃t,mg "MOST_HOURS"=some (Value.int 1000000 t))(jT:∃t,mg "MOST_ROOM"=some (Value.int 1000000000 t))(e:↥(13,"is_row",1,0))(a:↥(12,"whole_within",3,0)):↥(["many","thing"],2,f14):=by
 exists b,adV,0,0;refine aM ?_ ?_;.exists(),il (cJ e hr (aP (sv 1) az rfl)) (il (jo (gH (bu hr)) (cN rfl (by rfl) aY (sv 1)) aa (bA _)) (il (cJ a hr (aP (au (sv 1) aa) (aP aa (aP (aq dW (sv 0) aa) az rfl) rfl) rfl)) (il (cJ a hr (aP (au (sv 1) aa) (aP aa (aP (aq dW (sv 0) aa) az rfl) rfl) rfl)) (il (jo (Jq (bu hr)) (au (sv 1) aa) (au (sv 1) aa) (bA _)) (il (cJ a hr (aP (au (sv 1) aa) (aP aa (aP (iB (by rfl) jT.choose_spec (by rfl)) az rfl) rfl) rfl)) (j6 (cJ a hr (aP (au (sv 1) aa) (aP aa (aP (iB (by rfl) jf.choose_spec (by rfl)) az rfl) rfl) rfl)))).ev).ev).ev).ev).ev
 exact ao
abbrev s15:Stmt:=top 29
noncomputable def b15:List S:=[.ifs (.or (.not (.call 12 [↑0,.glob "LEAST_PLACES" (.int 2),.glob "MOST_PLACES" (.int 6)])) (.not (.call 13 [↑1]))) [.bad] [],.iM (.Z6 ↑1) [2,3] false [.ifs (.not (.call 14 [↑0,↑3])) [.bad] []],.ifs (.cmp .gt (.blt .len [↑1]) (.glob "MOST_WAYS" (.int 12))) [.bad] [],.ret (.tup [↑0,.blt .tuple [.comp ↑1 1 [4] true none (.blt .tuple [↑4])]])]
def f15:Fd:=⟨2,4,b15⟩
theorem aeJ:aH ["many","ways","at","thing"] ["many","ways"] (aA s15):=nofun
include cl in
theorem d15(a:gh K "made_net" "made_net" s15 f fd)(jU:mg "enumerate"=none)(aY:mg "len"=none)(bT:mg "tuple"=none)(gJ:∃t,mg "LEAST_PLACES"=some (Value.int 2 t))(iw:∃t,mg "MOST_PLACES"=some (Value.int 6 t))(jV:∃t,mg "MOST_WAYS"=some (Value.int 12 t))(b:↥(13,"is_row",1,0))(e:↥(14,"is_way",2,0))(g:↥(12,"whole_within",3,0)):↥(["many","ways"],2,f15):=by
 exists a,aeJ,0,0;refine aM ?_ ?_;.exists eG ?_ ?_ ?_;exact SW.st (Ga (m9 (gC (cJ g hr (aP (sv 0) (aP (iB (by rfl) gJ.choose_spec (by rfl)) (aP (iB (by rfl) iw.choose_spec (by rfl)) az rfl) rfl) rfl)))) (yu (m9 (gC (cJ b hr (aP (sv 1) az rfl))))));(· lia;exact oh;exact ao);exact ao
 lia;.exact(oF PassesOwn.never hc (Us rfl (by rfl) jU (sv 1)) (fJ hc (aV (aL (i:=2) nd rfl oi oi) (aV (aL (i:=3) nd rfl oi oi) dF))) (nF rfl (cY _ _ (cY _ _ kI 3) 2)) (by lia;(· exists eG ?_ ?_ ?_;exact m9 (gC (cJ e hr (aP (sv 0) (aP (sv 3) az rfl) rfl)));(· lia;exact oh;exact ao);exact ao);exact ao))
 lia;.exists eG ?_ ?_ ?_;exact bW jF (cN rfl (by rfl) aY (sv 1)) (iB (by rfl) jV.choose_spec (by rfl)) (bA _);(· lia;exact oh;exact ao);exact ao
 lia;.exists(),cH (dZ (sv 0) (dZ (jE rfl (by rfl) bT (fL (N':=["many","ways","at","thing","way"]) hc (wY rfl (by rfl)) (dM (sv 1)) ⇑(aL (i:=4) ‹["many","ways","at","thing","way"]› rfl (Or.inl rfl) (Or.inr rfl)) (dR (dz)) ⇑(cO) ⇑((jE rfl (by rfl) bT (sv 4))))) aU rfl) rfl)
 exact ao
abbrev s16:Stmt:=top 31
noncomputable def b16:List S:=[.ret (.blt .all [.comp (.zip ↑1 (.idx ↑0 ⇑1)) 2 [2,3] false none (.chain .le .le ⇑0 ↑2 (.idx ↑3 ⇑2))])]
def f16:Fd:=⟨2,2,b16⟩
theorem adf:aH ["net","stream"] ["net","stream"] (aA s16):=nofun
include cl in
theorem d16(a:gh K "within_rooms" "within_rooms" s16 f fd)(J6:mg "all"=none)(gK:mg "zip"=none):↥(["net","stream"],2,f16):=by
 exists a,adf,0,0;refine aM ?_ ?_;.exists(),Ul rfl hc (by rfl) J6 (fL (N':=["net","stream","loads","way"]) hc (wY rfl (by rfl)) (Uu rfl (by rfl) gK (sv 1) (au (sv 0) aa)) ⇑(fJ hc (aV (aL (i:=2) ‹["net","stream","loads","way"]› rfl (Or.inl rfl) (Or.inr rfl)) (aV (aL (i:=3) ‹["net","stream","loads","way"]› rfl (Or.inl rfl) (Or.inr rfl)) dF))) (jd rfl (cz (show 2<=2 by decide) (cz (show 2<=3 by decide) iU))) ⇑(cO) ⇑((yc lL lL aa (sv 2) (au (sv 3) aa))))
 exact ao
abbrev s17:Stmt:=top 32
noncomputable def b17:List S:=[.asg 2 (.lC 1 (.idx ↑0 ⇑1) 2 [3,4] false none (.tup [.idx ↑3 ⇑0,.idx ↑3 ⇑1,↑4,.idx ↑3 ⇑3])),.ret (.tup [.idx ↑0 ⇑0,.blt .tuple [↑2]])]
def f17:Fd:=⟨2,3,b17⟩
theorem adk:aH ["net","rooms","ways"] ["net","rooms"] (aA s17):=nofun
include cl in
theorem d17(a:gh K "with_rooms" "with_rooms" s17 f fd)(bT:mg "tuple"=none)(gK:mg "zip"=none):↥(["net","rooms"],2,f17):=by
 exists a,adk,0,0;refine aM ?_ ?_;.exact(Bo (i:=2) (N':=["net","rooms","ways","way","room"]) hc nd rfl oi (wY rfl (by rfl)) (pU (i:=1) rfl (by rfl) gK rfl (au (sv 0) aa) (sv 1)) ⇑(fJ hc (aV (aL (i:=3) ‹["net","rooms","ways","way","room"]› rfl (Or.inl rfl) (Or.inr rfl)) (aV (aL (i:=4) ‹["net","rooms","ways","way","room"]› rfl (Or.inl rfl) (Or.inr rfl)) dF))) (jd rfl (cz (show 3<=3 by decide) (cz (show 3<=4 by decide) iU))) ⇑(cO) ⇑((cH (dZ (au (sv 3) aa) (dZ (au (sv 3) aa) (dZ (sv 4) (dZ (au (sv 3) aa) aU rfl) rfl) rfl) rfl))) (by rfl) (by intro _;rfl) (Or.inl rfl))
 lia;.exists(),cH (dZ (au (sv 0) aa) (dZ (jE rfl (by rfl) bT (sv 2)) aU rfl) rfl)
 exact ao
abbrev s18:Stmt:=top 34
noncomputable def b18:List S:=[.asg 2 (.blt .sum [.comp (.idx ↑0 ⇑1) 1 [6] true none (.idx ↑6 ⇑3)]),.JZ 3 0 0,.iM (.rW ⇑1 (.idx ↑0 ⇑0)) [4] true [.fX 3 ↑4 ↑2],.asg 5 (.call 5 [↑0,↑1,.vw 3]),.ret (.comp (.rW ⇑0 (.idx ↑0 ⇑0)) 1 [6] true none (.idx (.bin .zZ ↑5 ↑6) ⇑0))]
def f18:Fd:=⟨2,6,b18⟩
theorem acH:aH ["net","stream","late","begun","place","come"] ["net","stream"] (aA s18):=nofun
include cl in
theorem d18(a:gh K "found_clocks" "found_clocks" s18 f fd)(bj:mg "range"=none)(jj:mg "sum"=none)(b:↥(5,"shortest_come",3,0)):↥(["net","stream"],2,f18):=by
 exists a,acH,0,0;refine aM ?_ ?_;.exists 2,uU rfl hc (by rfl) jj (fL (N':=["net","stream","late","begun","place","come","way"]) hc (wY rfl (by rfl)) (dM (au (sv 0) aa)) ⇑(aL (i:=6) ‹["net","stream","late","begun","place","come","way"]› rfl (Or.inl rfl) (Or.inr rfl)) (dR (dz)) ⇑(cO) ⇑((au (sv 6) aa)))
 lia;.exact(Ng (i:=3) nd rfl oi (by rfl) (Or.inl rfl))
 lia;.exists 4,M3 rfl (by rfl) bj aa (au (sv 0) aa),0;(· lia;exact pP (i:=3) (bu hr) rfl (by ac_rfl) (sv 4) (sv 2) (by rfl);exact ao)
 lia;.exists nD (i:=5) ?_ ?_ ?_ ?_ ?_ ?_;exact nd;exact rfl;exact Or.inr rfl;rotate_left;rfl;exact oi;exact cJ b hr (aP (sv 0) (aP (sv 1) (aP (xu (i:=3) rfl (by ac_rfl)) az rfl) rfl) rfl)
 lia;.exists(),fL (N':=["net","stream","late","begun","place#4","come","place"]) hc (wY rfl (by rfl)) (gZ rfl (by rfl) bj (au (sv 0) aa)) ⇑(aL (i:=6) ‹["net","stream","late","begun","place#4","come","place"]› rfl (Or.inl rfl) (Or.inr rfl)) (dR (dz)) ⇑(cO) ⇑((au (pR (bu hr) (sv 5) (sv 6) (fun _ _=>rfl)) aa))
 exact ao
abbrev s19:Stmt:=top 35
noncomputable def b19:List S:=[.asg 2 (.bin .mul (.lst [⇑0]) (.blt .len [.idx ↑0 ⇑1])),.iM (.call 9 [.call 8 [↑0],↑1]) [3,4] false [.asg 2 (.call 7 [↑2,↑3,↑4])],.ret (.tup [↑2,.call 18 [↑0,↑2]])]
def f19:Fd:=⟨2,5,b19⟩
theorem ael:aH ["net","rate","stream","steps","loads"] ["net","rate"] (aA s19):=nofun
include cl in
theorem d19(a:gh K "light_stream" "light_stream" s19 f fd)(aY:mg "len"=none)(b:↥(8,"chains_to_end",1,0))(e:↥(9,"cut_to_rate",2,0))(g:↥(18,"found_clocks",2,0))(h:↥(7,"stream_with",3,0)):↥(["net","rate"],2,f19):=by
 exists a,ael,0,0;refine aM ?_ ?_;.exists 2,aq dh (cP (dZ aa aU rfl)) (cN rfl (by rfl) aY (au (sv 0) aa))
 lia;.exact(oF PassesOwn.never hc (dM (cJ e hr (aP (cJ b hr (aP (sv 0) az rfl)) (aP (sv 1) az rfl) rfl))) (fJ hc (aV (aL (i:=3) nd rfl oi oi) (aV (aL (i:=4) nd rfl oi oi) dF))) (nF rfl (cY _ _ (cY _ _ kI 4) 3)) (by lia;(· exists 2,cJ h hr (aP (sv 2) (aP (sv 3) (aP (sv 4) az rfl) rfl) rfl));exact ao))
 lia;.exists(),cH (dZ (sv 2) (dZ (cJ g hr (aP (sv 0) (aP (sv 2) az rfl) rfl)) aU rfl) rfl)
 exact ao
abbrev s20:Stmt:=top 37
noncomputable def b20:List S:=[.ret (.comp (.call 10 [↑0]) 1 [2] true (some (.cmp .le (.idx ↑2 ⇑0) ↑1)) ↑2)]
def f20:Fd:=⟨2,2,b20⟩
theorem aeN:aH ["net","last"] ["net","last"] (aA s20):=nofun
include cl in
theorem d20(a:gh K "bends_by" "bends_by" s20 f fd)(b:↥(10,"bends_of",1,0)):↥(["net","last"],2,f20):=by
 exists a,aeN,0,0;refine aM ?_ ?_;.exists(),fL (N':=["net","last","bend"]) hc (wY rfl (by rfl)) (dM (cJ b hr (aP (sv 0) az rfl))) ⇑(aL (i:=2) ‹["net","last","bend"]› rfl (Or.inl rfl) (Or.inr rfl)) (dR (dz)) ⇑(CW (bW lL (au (sv 2) aa) (sv 1) (bA _))) ⇑((sv 2))
 exact ao
abbrev s21:Stmt:=top 38
noncomputable def b21:List S:=[.ret (.blt .sum [.comp ↑0 2 [2,3] false (some (.cmp .le ↑2 ↑1)) (.bin .mul ↑3 (.bin .add (.bin .sub ↑1 ↑2) ⇑1))])]
def f21:Fd:=⟨2,2,b21⟩
theorem adn:aH ["bends","last"] ["bends","last"] (aA s21):=nofun
include cl in
theorem d21(a:gh K "most_of" "most_of" s21 f fd)(jj:mg "sum"=none):↥(["bends","last"],2,f21):=by
 exists a,adn,0,0;refine aM ?_ ?_;.exists(),uU rfl hc (by rfl) jj (fL (N':=["bends","last","length","loads"]) hc (wY rfl (by rfl)) (dM (sv 0)) ⇑(fJ hc (aV (aL (i:=2) ‹["bends","last","length","loads"]› rfl (Or.inl rfl) (Or.inr rfl)) (aV (aL (i:=3) ‹["bends","last","length","loads"]› rfl (Or.inl rfl) (Or.inr rfl)) dF))) (jd rfl (cz (show 2<=2 by decide) (cz (show 2<=3 by decide) iU))) ⇑(CW (bW lL (sv 2) (sv 1) (bA _))) ⇑((aq dh (sv 3) (aq aK (aq dW (sv 1) (sv 2)) aa))))
 exact ao
abbrev s22:Stmt:=top 39
noncomputable def b22:List S:=[.ret (.call 21 [.call 10 [↑0],↑1])]
def f22:Fd:=⟨2,2,b22⟩
theorem aft:aH ["net","last"] ["net","last"] (aA s22):=nofun
include cl in
theorem d22(a:gh K "most_by" "most_by" s22 f fd)(b:↥(10,"bends_of",1,0))(e:↥(21,"most_of",2,0)):↥(["net","last"],2,f22):=by
 exists a,aft,0,0;refine aM ?_ ?_;.exists(),cJ e hr (aP (cJ b hr (aP (sv 0) az rfl)) (aP (sv 1) az rfl) rfl)
 exact ao
abbrev s23:Stmt:=top 40
noncomputable def b23:List S:=[.ret (.blt .sum [.comp (.call 20 [↑0,↑1]) 2 [2,3] false none ↑3])]
def f23:Fd:=⟨2,2,b23⟩
theorem adl:aH ["net","last"] ["net","last"] (aA s23):=nofun
include cl in
theorem d23(a:gh K "rate_by" "rate_by" s23 f fd)(jj:mg "sum"=none)(b:↥(20,"bends_by",2,0)):↥(["net","last"],2,f23):=by
 exists a,adl,0,0;refine aM ?_ ?_;.exists(),uU rfl hc (by rfl) jj (fL (N':=["net","last","length","loads"]) hc (wY rfl (by rfl)) (dM (cJ b hr (aP (sv 0) (aP (sv 1) az rfl) rfl))) ⇑(fJ hc (aV (aL (i:=2) ‹["net","last","length","loads"]› rfl (Or.inl rfl) (Or.inr rfl)) (aV (aL (i:=3) ‹["net","last","length","loads"]› rfl (Or.inl rfl) (Or.inr rfl)) dF))) (jd rfl (cz (show 2<=2 by decide) (cz (show 2<=3 by decide) iU))) ⇑(cO) ⇑((sv 3)))
 exact ao
abbrev s24:Stmt:=top 41
noncomputable def b24:List S:=[.ret (.idx (.call 19 [↑0,.call 23 [↑0,↑1]]) ⇑0)]
def f24:Fd:=⟨2,2,b24⟩
theorem acR:aH ["net","last"] ["net","last"] (aA s24):=nofun
include cl in
theorem d24(a:gh K "stream_by" "stream_by" s24 f fd)(b:↥(19,"light_stream",2,0))(e:↥(23,"rate_by",2,0)):↥(["net","last"],2,f24):=by
 exists a,acR,0,0;refine aM ?_ ?_;.exists(),au (cJ b hr (aP (sv 0) (aP (cJ e hr (aP (sv 0) (aP (sv 1) az rfl) rfl)) az rfl) rfl)) aa
 exact ao
abbrev s25:Stmt:=top 44
noncomputable def b25:List S:=[.ifs (.cmp .gt (.blt .len [.idx ↑0 ⇑1]) (.glob "MOST_LANED" (.int 6))) [.bad] []]
def f25:Fd:=⟨1,1,b25⟩
theorem afa:aH ["net"] ["net"] (aA s25):=nofun
include cl in
theorem d25(a:gh K "few_enough" "few_enough" s25 f fd)(aY:mg "len"=none)(jg:∃t,mg "MOST_LANED"=some (Value.int 6 t)):↥(["net"],1,f25):=by
 exists a,afa,0,0;refine aM ?_ ?_;.exists eG ?_ ?_ ?_;exact bW jF (cN rfl (by rfl) aY (au (sv 0) aa)) (iB (by rfl) jg.choose_spec (by rfl)) (bA _);(· lia;exact oh;exact ao);exact ao
 exact ao
abbrev s26:Stmt:=top 45
noncomputable def b26:List S:=[.asg 3 (.lC 2 (.idx ↑0 ⇑1) 2 [4,5] false none (.tup [.idx ↑4 ⇑1,.idx ↑4 ⇑0,↑5,.idx ↑4 ⇑3])),.ret (.tup [.idx ↑0 ⇑0,.bin .add (.idx (.call 17 [↑0,↑1]) ⇑1) (.blt .tuple [↑3])])]
def f26:Fd:=⟨3,4,b26⟩
theorem adS:aH ["net","forth","back","turned"] ["net","forth","back"] (aA s26):=nofun
include cl in
theorem d26(a:gh K "lanes_net" "lanes_net" s26 f fd)(bT:mg "tuple"=none)(gK:mg "zip"=none)(b:↥(17,"with_rooms",2,0)):↥(["net","forth","back"],3,f26):=by
 exists a,adS,0,0;refine aM ?_ ?_;.exact(Bo (i:=3) (N':=["net","forth","back","turned","way","room"]) hc nd rfl oi (wY rfl (by rfl)) (pU (i:=2) rfl (by rfl) gK rfl (au (sv 0) aa) (sv 2)) ⇑(fJ hc (aV (aL (i:=4) ‹["net","forth","back","turned","way","room"]› rfl (Or.inl rfl) (Or.inr rfl)) (aV (aL (i:=5) ‹["net","forth","back","turned","way","room"]› rfl (Or.inl rfl) (Or.inr rfl)) dF))) (jd rfl (cz (show 4<=4 by decide) (cz (show 4<=5 by decide) iU))) ⇑(cO) ⇑((cH (dZ (au (sv 4) aa) (dZ (au (sv 4) aa) (dZ (sv 5) (dZ (au (sv 4) aa) aU rfl) rfl) rfl) rfl))) (by rfl) (by intro _;rfl) (Or.inl rfl))
 lia;.exists(),cH (dZ (au (sv 0) aa) (dZ (aq aK (au (cJ b hr (aP (sv 0) (aP (sv 1) az rfl) rfl)) aa) (jE rfl (by rfl) bT (sv 3))) aU rfl) rfl)
 exact ao
abbrev s27:Stmt:=top 46
noncomputable def b27:List S:=[.expr (.call 25 [↑0]),.asg 1 (.comp (.idx ↑0 ⇑1) 1 [2] true none (.idx ↑2 ⇑2)),.ret (.call 26 [↑0,.vw 1,.vw 1])]
def f27:Fd:=⟨1,2,b27⟩
theorem afp:aH ["net","rooms"] ["net"] (aA s27):=nofun
include cl in
theorem d27(a:gh K "open_net" "open_net" s27 f fd)(b:↥(25,"few_enough",1,0))(e:↥(26,"lanes_net",3,0)):↥(["net"],1,f27):=by
 exists a,afp,0,0;refine aM ?_ ?_;.exact(Bu (cJ b hr (aP (sv 0) az rfl)))
 lia;.exact(Ba (i:=1) (N':=["net","rooms","way"]) hc nd rfl oi (wY rfl (by rfl)) (dM (au (sv 0) aa)) ⇑(aL (i:=2) ‹["net","rooms","way"]› rfl (Or.inl rfl) (Or.inr rfl)) (dR (dz)) ⇑(cO) ⇑((au (sv 2) aa)) (by rfl) (by intro _;rfl) (Or.inl rfl))
 lia;.exists(),cJ e hr (aP (sv 0) (aP (xu (i:=1) rfl (by ac_rfl)) (aP (xu (i:=1) rfl (by ac_rfl)) az rfl) rfl) rfl)
 exact ao
abbrev s28:Stmt:=top 47
noncomputable def b28:List S:=[.ret (.and (.cmp .eq (.blt .len [↑1]) (.blt .len [.idx ↑0 ⇑1])) (.call 16 [↑0,↑1]))]
def f28:Fd:=⟨2,2,b28⟩
theorem afb:aH ["net","forth"] ["net","forth"] (aA s28):=nofun
include cl in
theorem d28(a:gh K "is_forth" "is_forth" s28 f fd)(aY:mg "len"=none)(b:↥(16,"within_rooms",2,0)):↥(["net","forth"],2,f28):=by
 exists a,afb,0,0;refine aM ?_ ?_;.exists(),il (jo (gH (bu hr)) (cN rfl (by rfl) aY (sv 1)) (cN rfl (by rfl) aY (au (sv 0) aa)) (bA _)) (j6 (cJ b hr (aP (sv 0) (aP (sv 1) az rfl) rfl)))
 exact ao
abbrev s29:Stmt:=top 48
noncomputable def b29:List S:=[.expr (.call 25 [↑0]),.ifs (.not (.call 28 [↑0,↑1])) [.bad] [],.ret (.call 26 [↑0,↑1,.lC 1 (.idx ↑0 ⇑1) 2 [2,3] false none (.bin .sub (.idx ↑2 ⇑2) ↑3)])]
def f29:Fd:=⟨2,2,b29⟩
theorem aew:aH ["net","forth"] ["net","forth"] (aA s29):=nofun
include cl in
theorem d29(a:gh K "laned_net" "laned_net" s29 f fd)(gK:mg "zip"=none)(b:↥(25,"few_enough",1,0))(e:↥(28,"is_forth",2,0))(g:↥(26,"lanes_net",3,0)):↥(["net","forth"],2,f29):=by
 exists a,aew,0,0;refine aM ?_ ?_;.exact(Bu (cJ b hr (aP (sv 0) az rfl)))
 lia;.exists eG ?_ ?_ ?_;exact m9 (gC (cJ e hr (aP (sv 0) (aP (sv 1) az rfl) rfl)));(· lia;exact oh;exact ao);exact ao
 lia;.exists(),cJ g hr (aP (sv 0) (aP (sv 1) (aP (wQ (N':=["net","forth","way","room"]) hc (wY rfl (by rfl)) (pU (i:=1) rfl (by rfl) gK rfl (au (sv 0) aa) (sv 1)) ⇑(fJ hc (aV (aL (i:=2) ‹["net","forth","way","room"]› rfl (Or.inl rfl) (Or.inr rfl)) (aV (aL (i:=3) ‹["net","forth","way","room"]› rfl (Or.inl rfl) (Or.inr rfl)) dF))) (jd rfl (cz (show 2<=2 by decide) (cz (show 2<=3 by decide) iU))) ⇑(cO) ⇑((aq dW (au (sv 2) aa) (sv 3)))) az rfl) rfl) rfl)
 exact ao
abbrev s30:Stmt:=top 49
noncomputable def b30:List S:=[.asg 2 (.slice (.call 24 [.call 27 [↑0],↑1]) (.blt .len [.idx ↑0 ⇑1]) (.con .non)),.ret (.blt .tuple [.lC 2 (.idx ↑0 ⇑1) 2 [3,4] false none (.bin .sub (.idx ↑3 ⇑2) ↑4)])]
def f30:Fd:=⟨2,3,b30⟩
theorem aey:aH ["net","last","back"] ["net","last"] (aA s30):=nofun
include cl in
theorem d30(a:gh K "best_forth" "best_forth" s30 f fd)(aY:mg "len"=none)(bT:mg "tuple"=none)(gK:mg "zip"=none)(b:↥(27,"open_net",1,0))(e:↥(24,"stream_by",2,0)):↥(["net","last"],2,f30):=by
 exists a,aey,0,0;refine aM ?_ ?_;.exists 2,qg (cJ e hr (aP (cJ b hr (aP (sv 0) az rfl)) (aP (sv 1) az rfl) rfl)) (uR (cN rfl (by rfl) aY (au (sv 0) aa))) vq
 lia;.exists(),jE rfl (by rfl) bT (wQ (N':=["net","last","back","way","loads"]) hc (wY rfl (by rfl)) (pU (i:=2) rfl (by rfl) gK rfl (au (sv 0) aa) (sv 2)) ⇑(fJ hc (aV (aL (i:=3) ‹["net","last","back","way","loads"]› rfl (Or.inl rfl) (Or.inr rfl)) (aV (aL (i:=4) ‹["net","last","back","way","loads"]› rfl (Or.inl rfl) (Or.inr rfl)) dF))) (jd rfl (cz (show 3<=3 by decide) (cz (show 3<=4 by decide) iU))) ⇑(cO) ⇑((aq dW (au (sv 3) aa) (sv 4))))
 exact ao
abbrev s31:Stmt:=top 50
noncomputable def b31:List S:=[.asg 3 (.call 22 [.call 27 [↑0],↑1]),.ret (.and (.call 28 [↑0,↑2]) (.cmp .eq (.call 22 [.call 29 [↑0,↑2],↑1]) ↑3))]
def V8:Fd:=⟨3,4,b31⟩
theorem aeq:aH ["net","last","forth","most"] ["net","last","forth"] (aA s31):=nofun
include cl in
theorem d31(b:gh K "forth_right" "forth_right" s31 f fd)(e:↥(28,"is_forth",2,0))(g:↥(29,"laned_net",2,0))(a:↥(22,"most_by",2,0))(h:↥(27,"open_net",1,0)):↥(["net","last","forth"],3,V8):=by
 exists b,aeq,0,0;refine aM ?_ ?_;.exists 3,cJ a hr (aP (cJ h hr (aP (sv 0) az rfl)) (aP (sv 1) az rfl) rfl)
 lia;.exists(),il (cJ e hr (aP (sv 0) (aP (sv 2) az rfl) rfl)) (j6 (jo (gH (bu hr)) (cJ a hr (aP (cJ g hr (aP (sv 0) (aP (sv 2) az rfl) rfl)) (aP (sv 1) az rfl) rfl)) (sv 3) (bA _)))
 exact ao
abbrev s32:Stmt:=top 52
noncomputable def b32:List S:=[.asg 2 (.slice ↑0 (.con .non) ⇑63),.ifs (.cmp .eq ↑2 (.lst [])) [.asg 2 (.lst [⇑0])] [],.asg 3 (.comp ↑2 1 [9] true none (.blt .abs [↑9])),.asg 4 (.lst []),.iM (.rW ⇑0 ↑1) [5] true [.asg 6 (.bin .mod ↑5 (.blt .len [↑2])),.ifs (.and (.cmp .ge (.blt .abs [.idx ↑2 ↑6]) (.bin .pow ⇑10 ⇑18)) (.cmp .gt (.idx ↑3 ↑6) ⇑0)) [.app 4 (.bin .mod (.idx ↑3 ↑6) (.bin .pow ⇑10 ⇑6)),.Oa 3 ↑6 (.bin .fdiv (.idx ↑3 ↑6) (.bin .pow ⇑10 ⇑6))] [.asg 7 (.bin .add (.bin .add (.bin .mul (.bin .mul ⇑977 ↑5) ↑5) (.bin .mul ⇑131 ↑5)) ⇑1),.asg 8 (.bin .mod (.bin .add (.bin .mul (.bin .mod (.idx ↑2 ↑6) ⇑1000000007) ⇑48271) ↑7) ⇑2147483647),.asg 8 (.bin .mod (.bin .mul ↑8 ↑8) ⇑2147483647),.app 4 (.bin .mod (.bin .fdiv (.bin .mod (.bin .mul (.bin .add ↑8 (.bin .mul ⇑40692 (.bin .add ↑5 ⇑3))) ⇑69621) ⇑2147483629) ⇑8) (.bin .pow ⇑10 ⇑6))]],.ret ↑4]
def f32:Fd:=⟨2,9,b32⟩
theorem acZ:aH ["script","many","cells","left","found","k","at","step","mixed"] ["script","many"] (aA s32):=nofun
include cl in
theorem d32(a:gh K "_law_all" "_law_all" s32 f fd)(Dl:mg "abs"=none)(aY:mg "len"=none)(bj:mg "range"=none):↥(["script","many"],2,f32):=by
 exists a,acZ,0,0;refine aM ?_ ?_;.exists 2,qg (sv 0) vq (uR aa)
 lia;.exists eG ?_ ?_ ?_;exact bW (gH (bu hr)) (sv 2) (cP aU) (bA _);(· lia;(· exists 2,cP (dZ aa aU rfl));exact ao);exact ao
 lia;.exact(Ba (i:=3) (N':=["script","many","cells","left","found","k","at","step","mixed","cell"]) hc nd rfl oi (wY rfl (by rfl)) (dM (sv 2)) ⇑(aL (i:=9) ‹["script","many","cells","left","found","k","at","step","mixed","cell"]› rfl (Or.inl rfl) (Or.inr rfl)) (dR (dz)) ⇑(cO) ⇑((Gf rfl (by rfl) Dl (sv 9))) (by rfl) (by intro _;rfl) (Or.inl rfl))
 lia;.exists 4,cP aU
 lia;.exists 5,gZ rfl (by rfl) bj (sv 1),0;(· lia;(· exists 6,aq cZ (sv 5) (cN rfl (by rfl) aY (sv 2)));(· lia;(· exists eG ?_ ?_ ?_;exact SW.st (zc (bW Q3 (Gf rfl (by rfl) Dl (au (sv 2) (sv 6))) (aq dX aa aa) (bA _)) (uH (bW jF (au (sv 3) (sv 6)) aa (bA _))));(· lia;exact dm (k:=4) rfl (by ac_rfl) (aq cZ (au (sv 3) (sv 6)) (aq dX aa aa));(· lia;exact KC (k:=3) rfl (by ac_rfl) (sv 6) (aq wX (au (sv 3) (sv 6)) (aq dX aa aa));exact ao));(· lia;(· exists 7,aq aK (aq aK (aq dh (aq dh aa (sv 5)) (sv 5)) (aq dh aa (sv 5))) aa);(· lia;(· exists 8,aq cZ (aq aK (aq dh (aq cZ (au (sv 2) (sv 6)) aa) aa) (sv 7)) aa);(· lia;(· exists 8,aq cZ (aq dh (sv 8) (sv 8)) aa);(· lia;exact dm (k:=4) rfl (by ac_rfl) (aq cZ (aq wX (aq cZ (aq dh (aq aK (sv 8) (aq dh aa (aq aK (sv 5) aa))) aa) aa) aa) (aq dX aa aa));exact ao)))));exact ao))
 lia;.exists(),sv 4
 exact ao
abbrev s33:Stmt:=top 53
noncomputable def b33:List S:=[.ret (.bin .mod (.idx ↑0 (.bin .mod ↑1 (.blt .len [↑0]))) ↑2)]
def f33:Fd:=⟨3,3,b33⟩
theorem ac3:aH ["draws","at","many"] ["draws","at","many"] (aA s33):=nofun
include cl in
theorem d33(a:gh K "_law_draw" "_law_draw" s33 f fd)(aY:mg "len"=none):↥(["draws","at","many"],3,f33):=by
 exists a,ac3,0,0;refine aM ?_ ?_;.exists(),aq cZ (au (sv 0) (aq cZ (sv 1) (cN rfl (by rfl) aY (sv 0)))) (sv 2)
 exact ao
abbrev s34:Stmt:=top 54
noncomputable def b34:List S:=[.asg 3 (.bin .mul (.idx ↑0 (.bin .mod ↑1 (.blt .len [↑0]))) (.bin .pow ⇑10 ⇑6)),.ret (.bin .mod (.bin .add ↑3 (.idx ↑0 (.bin .mod (.bin .add ↑1 ⇑1) (.blt .len [↑0])))) ↑2)]
def f34:Fd:=⟨3,4,b34⟩
theorem acM:aH ["draws","at","many","far"] ["draws","at","many"] (aA s34):=nofun
include cl in
theorem d34(a:gh K "_law_wide" "_law_wide" s34 f fd)(aY:mg "len"=none):↥(["draws","at","many"],3,f34):=by
 exists a,acM,0,0;refine aM ?_ ?_;.exists 3,aq dh (au (sv 0) (aq cZ (sv 1) (cN rfl (by rfl) aY (sv 0)))) (aq dX aa aa)
 lia;.exists(),aq cZ (aq aK (sv 3) (au (sv 0) (aq cZ (aq aK (sv 1) aa) (cN rfl (by rfl) aY (sv 0))))) (sv 2)
 exact ao
abbrev s35:Stmt:=top 55
noncomputable def b35:List S:=[.asg 4 (.bin .add ⇑2 (.call 33 [↑0,↑1,.bin .sub ↑2 ⇑1])),.asg 5 (.cmp .eq (.call 33 [↑0,.bin .add ↑1 ⇑1,⇑4]) ⇑0),.asg 6 (.lst []),.iM (.rW ⇑0 (.call 33 [↑0,.bin .add ↑1 ⇑2,.bin .add ↑3 ⇑1])) [7] true [.asg 8 (.bin .add (.bin .add ↑1 ⇑10) (.bin .mul ⇑10 ↑7)),.asg 9 (.call 33 [↑0,↑8,↑4]),.asg 10 (.bin .mod (.bin .add (.bin .add ↑9 ⇑1) (.call 33 [↑0,.bin .add ↑8 ⇑1,.bin .sub ↑4 ⇑1])) ↑4),.ifs (.cmp .eq (.call 33 [↑0,.bin .add ↑8 ⇑2,⇑2]) ⇑0) [.par 9 10 (.blt .min2 [↑9,↑10]) (.blt .max2 [↑9,↑10])] [],.asg 11 (.idx (.lst [⇑0,⇑1,⇑2,⇑3,⇑4,⇑1,⇑2,⇑7]) (.call 33 [↑0,.bin .add ↑8 ⇑3,⇑8])),.asg 12 (.bin .add ⇑1 (.call 33 [↑0,.bin .add ↑8 ⇑4,⇑4])),.ifs ↑5 [.asg 11 (.idx (.lst [↑11,.bin .sub (.bin .pow ⇑10 ⇑9) ↑11,.call 34 [↑0,.bin .add ↑8 ⇑5,.bin .add (.bin .pow ⇑10 ⇑9) ⇑1]]) (.call 33 [↑0,.bin .add ↑8 ⇑7,⇑3])),.asg 12 (.idx (.lst [↑12,.bin .sub (.bin .pow ⇑10 ⇑6) ↑12,.bin .add ⇑1 (.call 33 [↑0,.bin .add ↑8 ⇑8,.bin .pow ⇑10 ⇑6])]) (.call 33 [↑0,.bin .add ↑8 ⇑9,⇑3]))] [],.app 6 (.tup [↑9,↑10,↑11,↑12])],.ret (.call 15 [↑4,↑6])]
def f35:Fd:=⟨4,13,b35⟩
theorem aeY:aH ["draws","at","places","most","many","wide","ways","k","spot","one","other","room","hours"] ["draws","at","places","most"] (aA s35):=nofun
include cl in
theorem d35(b:gh K "_law_net" "_law_net" s35 f fd)(J7:mg "max"=none)(m6:mg "min"=none)(bj:mg "range"=none)(a:↥(33,"_law_draw",3,0))(e:↥(34,"_law_wide",3,0))(g:↥(15,"made_net",2,0)):↥(["draws","at","places","most"],4,f35):=by
 exists b,aeY,0,0;refine aM ?_ ?_;.exists 4,aq aK aa (cJ a hr (aP (sv 0) (aP (sv 1) (aP (aq dW (sv 2) aa) az rfl) rfl) rfl))
 lia;.exists 5,jo (gH (bu hr)) (cJ a hr (aP (sv 0) (aP (aq aK (sv 1) aa) (aP aa az rfl) rfl) rfl)) aa (bA _)
 lia;.exists 6,cP aU
 lia;.exists 7,gZ rfl (by rfl) bj (cJ a hr (aP (sv 0) (aP (aq aK (sv 1) aa) (aP (aq aK (sv 3) aa) az rfl) rfl) rfl)),0;(· lia;(· exists 8,aq aK (aq aK (sv 1) aa) (aq dh aa (sv 7)));(· lia;(· exists 9,cJ a hr (aP (sv 0) (aP (sv 8) (aP (sv 4) az rfl) rfl) rfl));(· lia;(· exists 10,aq cZ (aq aK (aq aK (sv 9) aa) (cJ a hr (aP (sv 0) (aP (aq aK (sv 8) aa) (aP (aq dW (sv 4) aa) az rfl) rfl) rfl))) (sv 4));(· lia;(· exists eG ?_ ?_ ?_;exact bW (gH (bu hr)) (cJ a hr (aP (sv 0) (aP (aq aK (sv 8) aa) (aP aa az rfl) rfl) rfl)) aa (bA _);(· lia;exact QZ (i:=9) (j:=10) hc nd rfl rfl (by decide) rfl rfl (CN rfl hc (by rfl) m6 (dZ (sv 9) (dZ (sv 10) aU rfl) rfl)) (Mg rfl hc (by rfl) J7 (dZ (sv 9) (dZ (sv 10) aU rfl) rfl));exact ao);exact ao);(· lia;(· exists 11,au (cP (pJ [0,1,2,3,4,1,2,7] rfl aU)) (cJ a hr (aP (sv 0) (aP (aq aK (sv 8) aa) (aP aa az rfl) rfl) rfl)));(· lia;(· exists 12,aq aK aa (cJ a hr (aP (sv 0) (aP (aq aK (sv 8) aa) (aP aa az rfl) rfl) rfl)));(· lia;(· exists eG ?_ ?_ ?_;exact gC (sv 5);(· lia;(· exists 11,au (cP (dZ (sv 11) (dZ (aq dW (aq dX aa aa) (sv 11)) (dZ (cJ e hr (aP (sv 0) (aP (aq aK (sv 8) aa) (aP (aq aK (aq dX aa aa) aa) az rfl) rfl) rfl)) aU rfl) rfl) rfl)) (cJ a hr (aP (sv 0) (aP (aq aK (sv 8) aa) (aP aa az rfl) rfl) rfl)));(· lia;(· exists 12,au (cP (dZ (sv 12) (dZ (aq dW (aq dX aa aa) (sv 12)) (dZ (aq aK aa (cJ a hr (aP (sv 0) (aP (aq aK (sv 8) aa) (aP (aq dX aa aa) az rfl) rfl) rfl))) aU rfl) rfl) rfl)) (cJ a hr (aP (sv 0) (aP (aq aK (sv 8) aa) (aP aa az rfl) rfl) rfl)));exact ao));exact ao);(· lia;exact dm (k:=6) rfl (by ac_rfl) (cH (dZ (sv 9) (dZ (sv 10) (dZ (sv 11) (dZ (sv 12) aU rfl) rfl) rfl) rfl));exact ao))))))))
 lia;.exists(),cJ g hr (aP (sv 4) (aP (sv 6) az rfl) rfl)
 exact ao
abbrev s36:Stmt:=top 56
noncomputable def b36:List S:=[.asg 2 (.call 33 [↑0,↑1,⇑5]),.ifs (.cmp .lt ↑2 ⇑3) [.ret (.call 33 [↑0,.bin .add ↑1 ⇑1,⇑16])] [],.ifs (.cmp .eq ↑2 ⇑3) [.ret (.call 34 [↑0,.bin .add ↑1 ⇑1,.bin .pow ⇑10 ⇑8])] [],.ret (.bin .sub (.bin .pow ⇑10 ⇑18) (.call 34 [↑0,.bin .add ↑1 ⇑1,.bin .pow ⇑10 ⇑12]))]
def f36:Fd:=⟨2,3,b36⟩
theorem acD:aH ["draws","at","way"] ["draws","at"] (aA s36):=nofun
include cl in
theorem d36(e:gh K "_law_last" "_law_last" s36 f fd)(a:↥(33,"_law_draw",3,0))(b:↥(34,"_law_wide",3,0)):↥(["draws","at"],2,f36):=by
 exists e,acD,0,0;refine aM ?_ ?_;.exists 2,cJ a hr (aP (sv 0) (aP (sv 1) (aP aa az rfl) rfl) rfl)
 lia;.exists eG ?_ ?_ ?_;exact bW (uD (bu hr)) (sv 2) aa (bA _);(· lia;(· exists(),cJ a hr (aP (sv 0) (aP (aq aK (sv 1) aa) (aP aa az rfl) rfl) rfl));exact ao);exact ao
 lia;.exists eG ?_ ?_ ?_;exact bW (gH (bu hr)) (sv 2) aa (bA _);(· lia;(· exists(),cJ b hr (aP (sv 0) (aP (aq aK (sv 1) aa) (aP (aq dX aa aa) az rfl) rfl) rfl));exact ao);exact ao
 lia;.exists(),aq dW (aq dX aa aa) (cJ b hr (aP (sv 0) (aP (aq aK (sv 1) aa) (aP (aq dX aa aa) az rfl) rfl) rfl))
 exact ao
abbrev s37:Stmt:=top 57
noncomputable def b37:List S:=[.asg 2 (.lst []),.iM (.rW ⇑0 (.blt .len [.idx ↑1 ⇑1])) [3] true [.unp [4,5,6,7] (.idx (.idx ↑1 ⇑1) ↑3),.ifs (.cmp .lt ↑3 ⇑3) [.asg 6 (.call 33 [↑0,.bin .add ⇑100 ↑3,.idx (.lst [⇑3,⇑3,⇑2]) ↑3])] [],.app 2 (.tup [↑4,↑5,↑6,↑7])],.ret (.call 15 [.idx ↑1 ⇑0,↑2])]
def f37:Fd:=⟨2,8,b37⟩
theorem acN:aH ["draws","net","ways","k","one","other","room","hours"] ["draws","net"] (aA s37):=nofun
include cl in
theorem d37(a:gh K "_law_small" "_law_small" s37 f fd)(aY:mg "len"=none)(bj:mg "range"=none)(b:↥(33,"_law_draw",3,0))(e:↥(15,"made_net",2,0)):↥(["draws","net"],2,f37):=by
 exists a,acN,0,0;refine aM ?_ ?_;.exists 2,cP aU
 lia;.exists 3,gZ rfl (by rfl) bj (cN rfl (by rfl) aY (au (sv 1) aa)),0;(· lia;exact Ro (au (au (sv 1) aa) (sv 3)) (fJ hc (aV (aL (i:=4) nd rfl oi oi) (aV (aL (i:=5) nd rfl oi oi) (aV (aL (i:=6) nd rfl oi oi) (aV (aL (i:=7) nd rfl oi oi) dF))))) (nF rfl (cY _ _ (cY _ _ (cY _ _ (cY _ _ kI 7) 6) 5) 4));(· lia;(· exists eG ?_ ?_ ?_;exact bW (uD (bu hr)) (sv 3) aa (bA _);(· lia;(· exists 6,cJ b hr (aP (sv 0) (aP (aq aK aa (sv 3)) (aP (au (cP (pJ [3,3,2] rfl aU)) (sv 3)) az rfl) rfl) rfl));exact ao);exact ao);(· lia;exact dm (k:=2) rfl (by ac_rfl) (cH (dZ (sv 4) (dZ (sv 5) (dZ (sv 6) (dZ (sv 7) aU rfl) rfl) rfl) rfl));exact ao)))
 lia;.exists(),cJ e hr (aP (au (sv 1) aa) (aP (sv 2) az rfl) rfl)
 exact ao
abbrev s38:Stmt:=top 58
noncomputable def b38:List S:=[.asg 2 (.lst [.tup []]),.iM (.rW ⇑0 (.blt .len [.idx ↑1 ⇑1])) [3] true [.asg 4 (.idx (.idx (.idx ↑1 ⇑1) ↑3) ⇑2),.asg 5 (.lst []),.iM (.rW ⇑0 (.blt .len [↑2])) [6] true [.asg 7 (.lst [.call 34 [↑0,.bin .add (.bin .add ⇑110 (.bin .mul ⇑2 ↑3)) (.bin .mul ⇑7 ↑6),.bin .add ↑4 ⇑1]]),.ifs (.cmp .lt ↑3 ⇑3) [.asg 7 (.blt .Dj [.rW ⇑0 (.bin .add ↑4 ⇑1)])] [],.JT 5 (.comp ↑7 1 [8] true none (.bin .add (.idx ↑2 ↑6) (.tup [↑8])))],.asg 2 ↑5],.ret ↑2]
def f38:Fd:=⟨2,8,b38⟩
theorem afm:aH ["draws","net","found","k","room","wider","at","some"] ["draws","net"] (aA s38):=nofun
include cl in
theorem d38(a:gh K "_law_all_forth" "_law_all_forth" s38 f fd)(aY:mg "len"=none)(fK:mg "list"=none)(bj:mg "range"=none)(b:↥(34,"_law_wide",3,0)):↥(["draws","net"],2,f38):=by
 exists a,afm,0,0;refine aM ?_ ?_;.exists nD (i:=2) ?_ ?_ ?_ ?_ ?_ ?_;exact nd;exact rfl;exact Or.inr rfl;rotate_left;rfl;exact oi;exact cP (dZ (cH aU) aU rfl)
 lia;.exists 3,gZ rfl (by rfl) bj (cN rfl (by rfl) aY (au (sv 1) aa)),0;(· lia;(· exists 4,au (au (au (sv 1) aa) (sv 3)) aa);(· lia;(· exists 5,cP aU);(· lia;(· exists BX (i:=6) ?_ ?_ ?_ ?_ ?_ ?_ ?_ ?_ ?_;exact PassesOwn.never;exact hc;exact nd;exact rfl;exact Or.inr rfl;exact gZ rfl (by rfl) bj (cN rfl (by rfl) aY (sv 2));(· lia;(· exists 7,cP (dZ (cJ b hr (aP (sv 0) (aP (aq aK (aq aK aa (aq dh aa (sv 3))) (aq dh aa (sv 6))) (aP (aq aK (sv 4) aa) az rfl) rfl) rfl)) aU rfl));(· lia;(· exists eG ?_ ?_ ?_;exact bW (uD (bu hr)) (sv 3) aa (bA _);(· lia;(· exists 7,Ff rfl rfl hc (by rfl) fK (by rfl) bj (aq aK (sv 4) aa));exact ao);exact ao);(· lia;exact QB (k:=5) rfl (by ac_rfl) (fL (N':=["draws","net","found","k","room","wider","at","some","part"]) hc (wY rfl (by rfl)) (dM (sv 7)) ⇑(aL (i:=8) ‹["draws","net","found","k","room","wider","at","some","part"]› rfl (Or.inl rfl) (Or.inr rfl)) (dR (dz)) ⇑(cO) ⇑((aq aK (au (sv 2) (sv 6)) (cH (dZ (sv 8) aU rfl)))));exact ao)));(· intro _;rfl);exact oi);(· lia;(· exists nD (i:=2) ?_ ?_ ?_ ?_ ?_ ?_;exact nd;exact rfl;exact Or.inr rfl;rotate_left;rfl;exact oi;exact sv 5);exact ao))))
 lia;.exists(),sv 2
 exact ao
abbrev s39:Stmt:=top 59
noncomputable def b39:List S:=[.asg 1 (.call 32 [↑0,⇑400]),.asg 2 (.call 37 [↑1,.call 35 [↑1,⇑0,⇑6,.idx (.lst [⇑3,⇑2,⇑3,⇑6]) (.call 33 [↑1,⇑90,⇑4])]]),.asg 3 (.call 36 [↑1,⇑91]),.asg 4 (.call 22 [.call 27 [↑2],↑3]),.ifs (.cmp .gt (.call 22 [↑2,↑3]) ↑4) [.ret (.con (.bl false))] [],.asg 5 (.con (.bl false)),.asg 6 (.call 38 [↑1,↑2]),.iM (.rW ⇑0 (.blt .len [↑6])) [7] true [.asg 8 (.call 22 [.call 29 [↑2,.idx ↑6 ↑7],↑3]),.ifs (.cmp .gt ↑8 ↑4) [.ret (.con (.bl false))] [],.ifs (.or (.cmp .eq (.bin .mod ↑7 ⇑4) ⇑0) (.and (.cmp .eq ↑8 ↑4) (.not ↑5))) [.ifs (.cmp .ne (.call 31 [↑2,↑3,.idx ↑6 ↑7]) (.cmp .eq ↑8 ↑4)) [.ret (.con (.bl false))] []] [],.asg 5 (.or ↑5 (.cmp .eq ↑8 ↑4))],.ifs (.and (.cmp .le (.blt .len [.idx ↑2 ⇑1]) ⇑3) (.not ↑5)) [.ret (.con (.bl false))] [],.ret (.cmp .isT (.call 31 [↑2,↑3,.call 30 [↑2,↑3]]) (.con (.bl true)))]
def f39:Fd:=⟨1,9,b39⟩
theorem ac2:aH ["script","draws","net","last","most","reached","every","at","here"] ["script"] (aA s39):=nofun
include cl in
theorem d39(e:gh K "law" "law" s39 f fd)(aY:mg "len"=none)(bj:mg "range"=none)(g:↥(32,"_law_all",2,0))(h:↥(38,"_law_all_forth",2,0))(i:↥(33,"_law_draw",3,0))(j:↥(36,"_law_last",2,0))(l:↥(35,"_law_net",4,0))(m:↥(37,"_law_small",2,0))(o:↥(30,"best_forth",2,0))(b:↥(31,"forth_right",3,0))(p:↥(29,"laned_net",2,0))(a:↥(22,"most_by",2,0))(q:↥(27,"open_net",1,0)):↥(["script"],1,f39):=by
 exists e,ac2,0,0;refine aM ?_ ?_;.exists 1,cJ g hr (aP (sv 0) (aP aa az rfl) rfl)
 lia;.exists 2,cJ m hr (aP (sv 1) (aP (cJ l hr (aP (sv 1) (aP aa (aP aa (aP (au (cP (pJ [3,2,3,6] rfl aU)) (cJ i hr (aP (sv 1) (aP aa (aP aa az rfl) rfl) rfl))) az rfl) rfl) rfl) rfl)) az rfl) rfl)
 lia;.exists 3,cJ j hr (aP (sv 1) (aP aa az rfl) rfl)
 lia;.exists 4,cJ a hr (aP (cJ q hr (aP (sv 2) az rfl)) (aP (sv 3) az rfl) rfl)
 lia;.exists eG ?_ ?_ ?_;exact bW jF (cJ a hr (aP (sv 2) (aP (sv 3) az rfl) rfl)) (sv 4) (bA _);(· lia;(· exists(),mj);exact ao);exact ao
 lia;.exists 5,mj
 lia;.exists 6,cJ h hr (aP (sv 1) (aP (sv 2) az rfl) rfl)
 lia;.exists 7,gZ rfl (by rfl) bj (cN rfl (by rfl) aY (sv 6)),0;(· lia;(· exists 8,cJ a hr (aP (cJ p hr (aP (sv 2) (aP (au (sv 6) (sv 7)) az rfl) rfl)) (aP (sv 3) az rfl) rfl));(· lia;(· exists eG ?_ ?_ ?_;exact bW jF (sv 8) (sv 4) (bA _);(· lia;(· exists(),mj);exact ao);exact ao);(· lia;(· exists eG ?_ ?_ ?_;exact SW.st (Ga (bW (gH (bu hr)) (aq cZ (sv 7) aa) aa (bA _)) (yu (SW.st (zc (bW (gH (bu hr)) (sv 8) (sv 4) (bA _)) (uH (m9 (gC (sv 5))))))));(· lia;(· exists eG ?_ ?_ ?_;exact bW (Jq (bu hr)) (cJ b hr (aP (sv 2) (aP (sv 3) (aP (au (sv 6) (sv 7)) az rfl) rfl) rfl)) (jo (gH (bu hr)) (sv 8) (sv 4) (bA _)) (bA _);(· lia;(· exists(),mj);exact ao);exact ao);exact ao);exact ao);(· lia;(· exists 5,Yr (sv 5) (j6 (jo (gH (bu hr)) (sv 8) (sv 4) (bA _))));exact ao))))
 lia;.exists eG ?_ ?_ ?_;exact SW.st (zc (bW lL (cN rfl (by rfl) aY (au (sv 2) aa)) aa (bA _)) (uH (m9 (gC (sv 5)))));(· lia;(· exists(),mj);exact ao);exact ao
 lia;.exists(),jo Lj (cJ b hr (aP (sv 2) (aP (sv 3) (aP (cJ o hr (aP (sv 2) (aP (sv 3) az rfl) rfl)) az rfl) rfl) rfl)) mj (bA _)
 exact ao
end T
end
noncomputable section
namespace T
open PySem L2 PySem.Spec PyProof.Rows HH
def Γ:Tab:=fun i=>[f0,f1,f2,f3,f4,f5,f6,f7,f8,f9,f10,f11,f12,V3,f14,f15,f16,f17,f18,f19,f20,f21,f22,f23,f24,f25,f26,f27,f28,f29,f30,V8,f32,f33,f34,f35,f36,f37,f38,f39][i]?
end T
end
noncomputable section
namespace T
open HH
variable{a b m i g p k v2:Int}{n j w N l:Nat}{ls ds ch fo ba:List Int}{Q:R->List Sl->Prop}{f:Bool}{F q:Int->Int}{ρ:List Sl}{kvs r:List (Int×Int)}
local macro_rules|`(tactic|symm)=>`(tactic|first|apply ak|apply Eu)
structure Wy where(s t r h:Int)
variable{v:Wy}{ws:List Wy}
def Wy.d(w:Wy):D:=.tup [.int w.s,.int w.t,.int w.r,.int w.h]
structure Wy.Ok(m:Int)(w:Wy):Prop where
 s0:0<=w.s
 s1:w.s<m
 t0:0<=w.t
 t1:w.t<m
 ne:w.s≠w.t
 r0:0<=w.r
 r1:w.r<=1000000000
 h0:1<=w.h
 h1:w.h<=1000000
theorem other(h1:0<=a)(c:a<m)(o:0<=b)(s:b<m-1):0<=(a+1+b)%m/\(a+1+b)%m<m/\(a+1+b)%m≠a:=by
 by_cases h:a+1+b<m;.rw[Int.emod_eq_of_lt (by omega) h];omega
 . have e:(a+1+b)%m=a+1+b-m:=by rw[<-Int.sub_emod_right,Int.emod_eq_of_lt (by omega) (by omega)]
   rw[e];omega
def aN(m:Int)(ws:List Wy):D:=.tup [.int m,.tup (ws.map Wy.d)]
structure dg(m:Int)(ws:List Wy):Prop where
 m0:2<=m
 m1:m<=6
 len:ws.length<=12
 ok:∀w∈ws,w.Ok m
@[simp]theorem ago{m:Int}{ws:List Wy}:NQ (aN m ws) (.int 0)=some (.val (.int m)):=rfl
@[simp]theorem agv{m:Int}{ws:List Wy}:NQ (aN m ws) (.int 1)=some (.val (.tup (ws.map Wy.d))):=rfl
def ab(i:Int):Int:=if i<0 then-i else i
theorem CJ:blt .abs [.int i]=some (.val (.int (ab i))):=rfl
def Yi(d:D):D:=.int (ab (ou d))
inductive FAl(a0 a1 a2 a3 a4 a5 a6 a7 a8:Sl)(ρ:List Sl):Prop where|mk(s:Sl)(q0:ρ=[a0,a1,a2,a3,a4,a5,a6,a7,a8,s])(q1:fr s=true)
def Dr(ds:List Int):Prop:=∀d∈ds,0<=d/\d<1000000
inductive JAl(N:Nat)(a0 a1:Sl)(i:Nat)(ρ:List Sl):Prop where|mk(cs ls fd:List Int)(s5 s6 s7 s8:Sl)(q0:ρ=[a0,a1,.own false (cs.map D.int),.own false (ls.map D.int),.own false (fd.map D.int),s5,s6,s7,s8])(q1:A4 (fr s5=true) (fr s6=true) (fr s7=true) (fr s8=true))(q2:cs.length=N)(q3:ls.length=N)(q4:fd.length=i)(q5:Dr fd)
theorem o6(a:Int)(h:0<b):0<=a%b/\a%b<b:=⟨Int.emod_nonneg _ (by omega),Int.emod_lt_of_pos _ h⟩
theorem Bf{cs:List Int}{a b:Option Int}:cut (cs.map D.int) a b=(cut cs a b).map D.int:=by unfold cut;simp
theorem adp{ds:List D}:Mx (.lst ds) (part (.con .non) .non) (part (.con (.int i)) (.int i))=some (.own (cut ds none (some i))):=rfl
theorem Tp{c:Call}{A B:List S}{h o s t s7 s8:Sl}{cs:List Int}{c0 x:Int}{Q:Fl->List Sl->Prop}(y:at' (cs.map D.int) (j:Int)=some (.int c0))(z:at' (ls.map D.int) (j:Int)=some (.int x))(h1:(iz c n A [h,o,.own false (cs.map D.int),.own false (ls.map D.int),s,t,.val false (.int j),s7,s8]).sat Q)(u:(iz c n B [h,o,.own false (cs.map D.int),.own false (ls.map D.int),s,t,.val false (.int j),s7,s8]).sat Q):(ex c n (.ifs (.and (.cmp .ge (.blt .abs [.idx (.var 2) (.var 6)]) (.bin .pow (.con (.int 10)) (.con (.int 18)))) (.cmp .gt (.idx (.var 3) (.var 6)) (.con (.int 0)))) A B) [h,o,.own false (cs.map D.int),.own false (ls.map D.int),s,t,.val false (.int j),s7,s8]).sat Q:=by have e:=CJ (i:=c0);generalize ab c0=C at e;simp[y,z,e];exact⟨fun _=>⟨fun _=>h1,fun _=>u⟩,fun _=>u⟩
set_option maxHeartbeats 400000 in
theorem Mh{M:Nat}{ns:List Int}(hn:ns.length<=63)(hM:M<=1000)(k:∀ds:List Int,ds.length=M->Dr ds->Q (.own (ds.map D.int)) [.val false (.lst (ns.map D.int)),.val false (.int M)]):(run Γ w (n+1) 32 [.val false (.lst (ns.map D.int)),.val false (.int M)]).sat Q:=by
 refine aJ (d:=f32) rfl rfl (by decide) ?_;refine bK (fun ρ=>∃cs:List Int,ρ=[.val false (.lst (ns.map D.int)),.val false (.int M),.own false (cs.map D.int),.aQ,.aQ,.aQ,.aQ,.aQ,.aQ]/\cs.length<=63) ?_ ?_;.simp[f32,adp,Bf];refine⟨_,rfl,?_⟩;unfold cut;simp;omega
 rintro _⟨cs,rfl,hc⟩;refine bK (fun ρ=>∃cs:List Int,ρ=[.val false (.lst (ns.map D.int)),.val false (.int M),.own false (cs.map D.int),.aQ,.aQ,.aQ,.aQ,.aQ,.aQ]/\cs.length<=63/\0<cs.length) ?_ ?_;.simp[LQ];cases cs with|nil=>simp;apply ak;simp;exact⟨[0],rfl,by simp,by simp⟩|cons c cs=>simp;exact⟨c::cs,rfl,by simpa using hc,by simp⟩
 rintro _⟨cs,rfl,hc,Y⟩;symm;simp[show cs.length<=16777216 by omega];refine bQ (FAl _ _ _ _ _ _ _ _ _) Yi ⟨.aQ,rfl,rfl⟩ ?_ ?_;.rintro d hd _⟨s,rfl,hs⟩;obtain⟨c,_,rfl⟩:=mem_map.mp hd;simp[hs,CJ];exact⟨rfl,_,rfl,rfl⟩
 rintro _⟨s,rfl,hs⟩;have e:(cs.map D.int).map Yi=(cs.map ab).map D.int:=by rw[map_map,map_map];rfl
 rw[e];have y:(cs.map ab).length=cs.length:=length_map _;generalize(cs.map ab)=ls at*;simp;apply ak;simp;apply ak;simp[show(M:Int)<=1000000000 by omega];refine fc (JAl cs.length _ _) ?_ ?_ ⟨cs,ls,[],.aQ,.aQ,.aQ,.aQ,rfl,⟨rfl,rfl,rfl,rfl⟩,rfl,y,rfl,fun d hd=>by cases hd⟩
 . rintro i _ hi⟨h,ls,fd,s5,s6,s7,s8,rfl,⟨Z,h6,L,O⟩,h1,z,U,A⟩;obtain⟨j,hj,j0⟩:∃j:Nat,(i:Int)%(h.length:Int)=(j:Int)/\j<h.length:=⟨i%h.length,by omega,Nat.mod_lt _ (by omega)⟩;have W:at' (h.map D.int) (j:Int)=some (.int h[j]):=dN (by simp[j0]);have X:j<ls.length:=by omega
   have B:at' (ls.map D.int) (j:Int)=some (.int ls[j]):=dN (by simp[X]);have hx:jM ls.length (j:Int)=some j:=RT X;generalize h[j]=c0 at*;generalize ls[j]=C at*;have E:0<h.length:=by omega
   have G:∃o:Int,o=(i:Int):=⟨_,rfl⟩;obtain⟨o,H⟩:=G;have snoc:∀{x:Int},0<=x->x<1000000->Dr (fd++[x]):=fun{x}x0 x1 d hd=>by
    rcases mem_append.mp hd with hd|hd;.exact A d hd
    .rw[mem_singleton.mp hd];exact⟨x0,x1⟩
   simp[Z];apply ak;simp[h6,E,hj];apply ak;refine Tp W B ?_ ?_;.symm;have u:=o6 C (b:=1000000) (by decide);simp[B,show fd.length<16777216 by omega];apply ak;simp[B,hx];exact⟨h,ls.set j (C/1000000),fd++[C%1000000],.val false (.int i),.val false (.int j),s7,s8,by simp[map_set],⟨rfl,rfl,L,O⟩,h1,by simpa using z,by simp;omega,snoc u.1 u.2⟩
   . have i1:-18446744073709551616<977*o/\977*o<18446744073709551616:=by omega
     rw[<-H];symm;simp[i1,L];generalize 977*o*o+131*o+1=st;symm;simp[W,O];generalize hm:(c0%1000000007*48271+st)%2147483647=t;have m0:=o6 (c0%1000000007*48271+st) (b:=2147483647) (by decide);rw[hm]at m0;have m1:-18446744073709551616<t/\t<18446744073709551616:=by omega
     symm;simp[m1];generalize I:t*t%2147483647=J;have n0:=o6 (t*t) (b:=2147483647) (by decide);rw[I]at n0;symm;simp[show fd.length<16777216 by omega];have u:=o6 ((J+40692*(o+3))*69621%2147483629/8) (b:=1000000) (by decide);exact⟨h,ls,fd++[(J+40692*(o+3))*69621%2147483629/8%1000000],.val false (.int o),.val false (.int j),.val false (.int st),.val false (.int J),by simp,⟨rfl,rfl,rfl,rfl⟩,h1,z,by simp;omega,snoc u.1 u.2⟩
 .rintro _⟨h,ls,fd,s5,s6,s7,s8,rfl,_,h1,z,U,A⟩;symm;simp;exact k fd U A
theorem bY{c:Int}(hd:0<ds.length)(t:0<=c)(m0:0<m)(m1:m<=1000000000000000000000)(k:∀d,0<=d->d<m->Q (.val (.int d)) [.own true (ds.map D.int),.val false (.int c),.val false (.int m)]):(run Γ w (n+1) 33 [.own true (ds.map D.int),.val false (.int c),.val false (.int m)]).sat Q:=by
 have e:m<1606938044258990275541962092341162602522202993782792835301376:=by omega
 obtain⟨j,h,o⟩:∃j:Nat,c%(ds.length:Int)=(j:Int)/\j<ds.length:=⟨(c%(ds.length:Int)).toNat,by have:=o6 c (b:=(ds.length:Int)) (by omega);omega,by have:=o6 c (b:=(ds.length:Int)) (by omega);omega⟩;have s:at' (ds.map D.int) (j:Int)=some (.int ds[j]):=dN (by simp[o]);generalize ds[j]=d0 at*;refine aJ (d:=f33) rfl rfl (by decide) ?_;symm;simp[f33,hd,h,s,m0,e];exact k _ (o6 d0 m0).1 (o6 d0 m0).2
theorem mH{c:Int}(x:Dr ds)(hd:0<ds.length)(y:0<=c)(m0:0<m)(m1:m<=1000000000000000000000)(k:∀d,0<=d->d<m->Q (.val (.int d)) [.own true (ds.map D.int),.val false (.int c),.val false (.int m)]):(run Γ w (n+1) 34 [.own true (ds.map D.int),.val false (.int c),.val false (.int m)]).sat Q:=by
 have e:m<1606938044258990275541962092341162602522202993782792835301376:=by omega
 have get:∀a:Int,∃j:Nat,a%(ds.length:Int)=(j:Int)/\j<ds.length:=fun a=>⟨(a%(ds.length:Int)).toNat,by have:=o6 a (b:=(ds.length:Int)) (by omega);omega,by have:=o6 a (b:=(ds.length:Int)) (by omega);omega⟩;obtain⟨j,h,o⟩:=get c;obtain⟨i,hi,s⟩:=get (c+1);have t:at' (ds.map D.int) (j:Int)=some (.int ds[j]):=dN (by simp[o]);have u:at' (ds.map D.int) (i:Int)=some (.int ds[i]):=dN (by simp[s]);generalize ds[j]=d0 at*;generalize ds[i]=d1 at*;refine aJ (d:=f34) rfl rfl (by decide) ?_;symm;simp[f34,hd,h,t];apply ak;simp[hd,hi,u,m0,e];exact k _ (o6 _ m0).1 (o6 _ m0).2
theorem DP(k:Q (.val (.bl true)) [.val false (.int i)]):(run Γ w (n+1) 11 [.val false (.int i)]).sat Q:=by refine aJ (d:=f11) rfl rfl (by decide) ?_;symm;simp[f11];exact k
theorem gq(h1:a<=i)(c:i<=b)(k:Q (.val (.bl true)) [.val false (.int i),.val false (.int a),.val false (.int b)]):(run Γ w (n+2) 12 [.val false (.int i),.val false (.int a),.val false (.int b)]).sat Q:=by refine aJ (d:=f12) rfl rfl (by decide) ?_;symm;simp[f12];refine DP ?_;simp[h1,c];exact k
theorem Ip{ds:List D}(k:Q (.val (.bl true)) [.val false (.tup ds)]):(run Γ w (n+1) 13 [.val false (.tup ds)]).sat Q:=by refine aJ (d:=V3) rfl rfl (by decide) ?_;symm;simp[V3];exact k
theorem Hz{b:Bool}{ds:List D}(k:Q (.val (.bl true)) [.own b ds]):(run Γ w (n+1) 13 [.own b ds]).sat Q:=by refine aJ (d:=V3) rfl rfl (by decide) ?_;symm;simp[V3];exact k
theorem Du(h:v.Ok m)(k:Q (.val (.bl true)) [.val false (.int m),.val false v.d]):(run Γ w (n+3) 14 [.val false (.int m),.val false v.d]).sat Q:=by obtain⟨s,t,r,c⟩:=v;obtain⟨s0,s1,t0,t1,ne,r0,r1,h0,h1⟩:=h;simp only at s0 s1 t0 t1 ne r0 r1 h0 h1;refine aJ (d:=f14) rfl rfl (by decide) ?_;symm;simp[f14,Wy.d];refine Ip ?_;simp;refine gq s0 (by omega) ?_;simp;refine gq t0 (by omega) ?_;simp[ne];refine gq r0 r1 ?_;simp;refine gq h0 h1 ?_;simp;exact k
inductive JMd(m:Int)(ws:List Wy)(a0 a1:Sl)(r:List D)(ρ:List Sl):Prop where|mk(s2:Sl)(s3:Sl)(q0:ρ=[a0,a1,s2,s3])(q1:(fr s2=true/\fr s3=true))(q2:∀d∈r,∃(i:Nat)(v:Wy),d=.tup [.int i,v.d]/\v.Ok m)
inductive F4m(a0 a1 a2 a3:Sl)(ρ:List Sl):Prop where|mk(s:Sl)(q0:ρ=[a0,a1,a2,a3,s])(q1:fr s=true)
theorem xV(h:dg m ws)(k:Q (.val (aN m ws)) [.val false (.int m),.val true (.lst (ws.map Wy.d))]):(run Γ w (n+4) 15 [.val false (.int m),.own true (ws.map Wy.d)]).sat Q:=by
 have m0:=h.m0;have m1:=h.m1;have u:=h.len;refine aJ (d:=f15) rfl rfl (by decide) ?_;symm;simp[f15];refine gq m0 m1 ?_;simp;refine Hz ?_;simp;apply ak;simp;refine cU (JMd m ws _ _) ?_ ?_ ⟨.aQ,.aQ,rfl,⟨rfl,rfl⟩,fun d hd=>?_⟩;.rintro d r _⟨s2,s3,rfl,⟨e,o⟩,hd⟩;obtain⟨i,v,rfl,t⟩:=hd d (by simp);simp[e,o];apply ak;simp;refine Du t ?_;simp;exact⟨_,_,rfl,⟨rfl,rfl⟩,fun d h=>hd d (mem_cons_of_mem _ h)⟩
 . rintro _⟨s2,s3,rfl,⟨e,o⟩,_⟩;simp;apply ak;simp[show ¬(12:Int)<(ws.length:Int)by omega,show ¬ 12<ws.length by omega];apply ak;simp[show ws.length<=16777216 by omega];refine bQ (F4m _ _ _ _) (fun d=>d) ⟨.aQ,rfl,rfl⟩ ?_ ?_;.rintro d hd _⟨s,rfl,hs⟩;obtain⟨v,_,rfl⟩:=mem_map.mp hd;simp[hs,Wy.d];exact⟨_,rfl,rfl⟩
   .rintro _⟨s,rfl,hs⟩;simp;exact k
 . rw[List.mem_mapIdx]at hd;obtain⟨i,hi,rfl⟩:=hd;have c:i<ws.length:=by simpa using hi
   exact⟨i,ws[i],by simp,h.ok _ (getElem_mem c)⟩
theorem qO{ns:List Int}{lo hi:Int}(h0:0<=i)(h1:i<(ns.length:Int))(k:∀x∈ns,lo<=x/\x<=hi):∃r,at' (ns.map D.int) i=some (.int r)/\lo<=r/\r<=hi:=by
 have c:i.toNat<ns.length:=by omega
 refine⟨ns[i.toNat],?_,k _ (getElem_mem c)⟩;rw[yJ h0 (by simpa using h1)];simp[c]
inductive JNt(m:Int)(wd:Bool)(a0 a1 a2 a3:Sl)(i:Nat)(ρ:List Sl):Prop where|mk(ws:List Wy)(s7 s8 s9 nJ Kc s12:Sl)(q0:ρ=[a0,a1,a2,a3,.val false (.int m),.val false (.bl wd),.own false (ws.map Wy.d),s7,s8,s9,nJ,Kc,s12])(q1:A6 (fr s7=true) (fr s8=true) (fr s9=true) (fr nJ=true) (fr Kc=true) (fr s12=true))(q2:(∀v∈ws,v.Ok m))(q3:ws.length=i)
theorem Jf{o u:Int}(J:Dr ds)(hd:0<ds.length)(p0:2<=o)(p1:o<=6)(o0:0<=u)(o1:u<=12)(k:∀m ws,dg m ws->m<=o->(ws.length:Int)<=u->Q (.val (aN m ws)) [.own true (ds.map D.int),.val false (.int 0),.val false (.int o),.val false (.int u)]):(run Γ w (n+5) 35 [.own true (ds.map D.int),.val false (.int 0),.val false (.int o),.val false (.int u)]).sat Q:=by
 refine aJ (d:=f35) rfl rfl (by decide) ?_;symm;simp[f35];refine bY hd (by omega) (by omega) (by omega) fun d d0 d1=>?_;simp;generalize hm:2+d=m;have m0:2<=m:=by omega
 have m1:m<=o:=by omega
 symm;simp;refine bY hd (by omega) (by omega) (by omega) fun d2 _ _=>?_;simp;generalize(d2==0)=z;symm;simp;apply ak;simp;refine bY hd (by omega) (by omega) (by omega) fun N n0 n1=>?_;simp[show N<=1000000000 by omega];refine⟨by omega,?_⟩;refine fc (JNt m z _ _ _ _) ?_ ?_ ⟨[],.aQ,.aQ,.aQ,.aQ,.aQ,.aQ,rfl,⟨rfl,rfl,rfl,rfl,rfl,rfl⟩,by simp,rfl⟩
 . rintro i _ hi⟨ws,s7,s8,s9,nJ,Kc,s12,rfl,⟨L,M,O,A,B,C⟩,hok,U⟩;simp[L];apply ak;simp[M];generalize hsp:(10:Int)+10*(i:Int)=sp;have W:0<=sp:=by omega
   symm;simp;refine bY hd (by omega) (by omega) (by omega) fun a E G=>?_;simp[O];apply ak;simp;refine bY hd (by omega) (by omega) (by omega) fun b b0 b1=>?_;obtain⟨t0,t1,X⟩:=other E G b0 (by omega);simp[show 0<m by omega,A,show m<1606938044258990275541962092341162602522202993782792835301376 by omega];generalize(a+1+b)%m=t at*;refine bK (fun ρ=>∃s t:Int,ρ=[.own true (ds.map D.int),.val false (.int 0),.val false (.int o),.val false (.int u),.val false (.int m),.val false (.bl z),.own false (ws.map Wy.d),.val false (.int i),.val false (.int sp),.val false (.int s),.val false (.int t),Kc,s12]/\(0<=s/\s<m)/\(0<=t/\t<m)/\s≠t) ?_ ?_
   . simp;refine bY hd (by omega) (by omega) (by omega) fun c _ _=>?_;simp;refine⟨fun _=>?_,fun _=>?_⟩;.symm;simp;refine⟨_,_,⟨rfl,rfl⟩,?_⟩;split<;>split<;>omega
     .exact⟨_,_,⟨rfl,rfl⟩,⟨E,G⟩,⟨t0,t1⟩,fun e=>X e.symm⟩
   rintro _⟨s,t,rfl,⟨s0,s1⟩,⟨t0,t1⟩,ne⟩;symm;simp;refine bY hd (by omega) (by omega) (by omega) fun c c0 c1=>?_;obtain⟨r,H,r0,r1⟩:=qO (ns:=[0,1,2,3,4,1,2,7]) (lo:=0) (hi:=7) c0 (by simpa using c1) (by simp);simp only[map_cons,map_nil]at H;simp[H,B];apply ak;simp;refine bY hd (by omega) (by omega) (by omega) fun c c0 c1=>?_;simp[C];generalize hh:1+c=hr;refine bK (fun ρ=>∃r h:Int,ρ=[.own true (ds.map D.int),.val false (.int 0),.val false (.int o),.val false (.int u),.val false (.int m),.val false (.bl z),.own false (ws.map Wy.d),.val false (.int i),.val false (.int sp),.val false (.int s),.val false (.int t),.val false (.int r),.val false (.int h)]/\(0<=r/\r<=1000000000)/\(1<=h/\h<=1000000)) ?_ ?_;.cases z with|false=>simp;exact⟨_,_,⟨rfl,rfl⟩,by omega⟩|true=>simp;apply ak;simp;refine mH J hd (by omega) (by omega) (by omega) fun e Y Z=>?_;simp;refine bY hd (by omega) (by omega) (by omega) fun c c0 c1=>?_;obtain⟨r',x,ac,ae⟩:=qO (ns:=[r,1000000000-r,e]) (lo:=0) (hi:=1000000000) c0 (by simpa using c1) (by simp;omega);simp only[map_cons,map_nil]at x;simp[x];apply ak;simp;refine bY hd (by omega) (by omega) (by omega) fun e Y Z=>?_;simp;refine bY hd (by omega) (by omega) (by omega) fun c c0 c1=>?_;obtain⟨h',y,af,ag⟩:=qO (ns:=[hr,1000000-hr,1+e]) (lo:=1) (hi:=1000000) c0 (by simpa using c1) (by simp;omega);simp only[map_cons,map_nil]at y;simp[y];exact⟨_,_,⟨rfl,rfl⟩,by omega⟩
   rintro _⟨r,h,rfl,⟨r0,r1⟩,⟨h0,h1⟩⟩;symm;simp[show ws.length<16777216 by omega];refine⟨ws++[⟨s,t,r,h⟩],.val false (.int i),.val false (.int sp),.val false (.int s),.val false (.int t),.val false (.int r),.val false (.int h),by simp[Wy.d],⟨rfl,rfl,rfl,rfl,rfl,rfl⟩,fun v hv=>?_,by simp;omega⟩;rcases mem_append.mp hv with hv|hv;.exact hok v hv
   .rw[mem_singleton.mp hv];exact⟨s0,s1,t0,t1,ne,r0,r1,h0,h1⟩
 .rintro _⟨ws,s7,s8,s9,nJ,Kc,s12,rfl,_,hok,U⟩;have I:dg m ws:=⟨m0,by omega,by omega,hok⟩;symm;simp;refine xV I ?_;simp;exact k m ws I m1 (by omega)
def fO(j:Nat)(f:Bool):D:=.tup [.int j,.bl f]
def frm(v:Wy)(f:Bool):Int:=if f then v.s else v.t
def too(v:Wy)(f:Bool):Int:=if f then v.t else v.s
theorem lH(e:ws[j]?=some v)(k:Q (.val (.tup [.int (frm v f),.int (too v f)])) [.val false (aN m ws),.val false (fO j f)]):(run Γ w (n+1) 0 [.val false (aN m ws),.val false (fO j f)]).sat Q:=by refine aJ (d:=f0) rfl rfl (by decide) ?_;symm;simp[f0,fO,dN e];apply ak;cases f with|true=>simp[Wy.d];exact k|false=>simp[Wy.d];exact k
def hsp(v:Wy)(f:Bool):Int:=if f then v.h else-v.h
theorem ud(e:ws[j]?=some v)(k:Q (.val (.int (hsp v f))) [.val false (aN m ws),.val false (fO j f)]):(run Γ w (n+1) 1 [.val false (aN m ws),.val false (fO j f)]).sat Q:=by refine aJ (d:=f1) rfl rfl (by decide) ?_;symm;simp[f1,fO,dN e,Wy.d];apply ak;cases f with|true=>simp;exact k|false=>simp;exact k
def Q6(s:Sl)(fs:List Int):Prop:=s=.val false (.lst (fs.map D.int))\/∃b,s=.own b (fs.map D.int)
def nT(v:Wy)(g:Int)(f:Bool):Int:=if f then v.r-g else g
theorem um{s:Sl}{fs:List Int}(hs:Q6 s fs)(e:ws[j]?=some v)(c:fs[j]?=some g)(k:Q (.val (.int (nT v g f))) [.val false (aN m ws),s,.val false (fO j f)]):(run Γ w (n+1) 2 [.val false (aN m ws),s,.val false (fO j f)]).sat Q:=by refine aJ (d:=f2) rfl rfl (by decide) ?_;symm;rcases hs with rfl|⟨b,rfl⟩;all_goals simp[f2,fO,dN c];apply ak;cases f with|true=>simp[dN e,Wy.d];exact k|false=>simp;exact k
@[simp]theorem abS{c:Call}{n x k:Nat}{src o:P}{is:List Nat}{one:Bool}{ρ:List Sl}:ex c n (.JW x src k is one o) ρ=(srcOf (isVar src) (ev c src) ρ).bind fun ds e=>if ds.length<=lim then(fU is one (ev c o) ds [] (e++replicate k .aQ)).bind fun s h=>(lift (put (aX ρ (isVar src) (h.take e.length)) x (.hold s)) ρ).bind fun t _=>.ok .next t else .stuck:=(rfl)
@[simp]theorem abd{c:Call}{n:Nat}{src:P}{is:List Nat}{one:Bool}{body:List S}{ρ:List Sl}:ex c n (.Fv src is one body) ρ=(ev c src ρ).bind fun r e=>(lift (items r.d) e).bind fun ds e=>iD is one (iz c n body) ds e:=(rfl)
@[simp]theorem ac5{c:Call}{n x:Nat}{ρ:List Sl}:ex c n (.dj x) ρ=match ρ[x]?with|some (.hold e)=>.ok .next (ρ.set x (.val false (.lst (e.map D.lst))))|_=>.stuck:=(rfl)
@[simp]theorem aaY{c:Call}{n x:Nat}{i e:P}{ρ:List Sl}:ex c n (.JX x i e) ρ=(cC (isVar i) (ev c i) ρ).bind fun k ρ=>(lift (uI ρ x k) ρ).bind fun _ ρ=>(ev c e ρ).bind fun r ρ=>DX ρ x ((ji ρ x).bind fun h=>(iZ k).bind fun k=>jN h k fun row=>if row.length<lim then some (row++[r.d])else none):=(rfl)
@[simp]theorem aaU{a:Sl}{l:List Sl}{x:Nat}:ji (a::l) x=match(a::l)[x]?with|some (.hold c)=>some c|_=>none:=rfl
@[simp]theorem Ws{ρ:List Sl}{x:Nat}{c:List (List D)}:DX ρ x (some c)=.ok .next (ρ.set x (.hold c)):=rfl
@[simp]theorem afr{a:Sl}{l:List Sl}{x:Nat}{k:Int}:uI (a::l) x (.int k)=match(a::l)[x]?with|some (.hold c)=>rowAt c k|_=>none:=by unfold uI ji;cases h:(a::l)[x]?with|none=>rfl|some s=>cases s<;>rfl
theorem rB{is:List Nat}{one:Bool}{s:Ev}(J:List Sl->Prop)(g:D->List D){Q:List (List D)->List Sl->Prop}:∀{ds:List D}{c:List (List D)}{ρ:List Sl},J ρ->(∀d,d∈ds->∀ρ,J ρ->∃o,cT ρ is one d=some o/\(s o).sat fun r t=>r=.own (g d)/\J t)->(∀ρ,J ρ->Q (c++ds.map g) ρ)->(fU is one s ds c ρ).sat Q|[],c,ρ,j,h,k=>by rw[fU];simpa using k ρ j|d::r,c,ρ,j,h,k=>by obtain⟨o,e,h1⟩:=h d (by simp) ρ j;rw[fU,e];show((s o).bind _).sat Q;rw[cu];refine h1.imp fun x t⟨z,j3⟩=>?_;subst z;exact rB J g j3 (fun d' u=>h d' (by simp[u])) fun y A=>by simpa using k y A
@[simp]theorem adR{c:Call}{x:Nat}{k:P}{ρ:List Sl}:ev c (.Qm x k) ρ=match ρ[x]?with
 |some (.cF _)=>(cC (isVar k) (ev c k) ρ).bind fun e ρ=>match ρ[x]?with|some (.cF kvs)=>lift ((iZ e).bind fun k=>(lM kvs k).map .val) ρ|_=>.stuck
 |_=>.stuck:=(rfl)
def o5(kvs:List (Int×D))(k:Int):Bool:=(kvs.map (·.1)).contains k
def DY(kvs:List (Int×D)):List Int:=kvs.map (·.1)
def dsV(kvs:List (Int×D)):List D:=kvs.map (·.2)
@[simp]theorem ae8{c:Call}{x:Nat}{k:P}{neg:Bool}{ρ:List Sl}:ev c (.Qn x k neg) ρ=(cC (isVar k) (ev c k) ρ).bind fun e ρ=>match ρ[x]?with|some (.cF kvs)=>lift ((iZ e).map fun k=>.val (.bl (if neg then !o5 kvs k else o5 kvs k))) ρ|_=>.stuck:=(rfl)
@[simp]theorem abq{c:Call}{k e:Int}{ρ:List Sl}:ev c (.Aa k e) ρ=.ok (.val (.dv [k] [.int e])) ρ:=(rfl)
@[simp]theorem agy{c:Call}{x:Nat}{ρ:List Sl}:ev c (.vw x) ρ=match ρ[x]?with|some (.gQ m)=>.ok (.val (.eO m)) (ρ.set x (.val false (.eO m)))|some (.cF kvs)=>.ok (.val (.dv (DY kvs) (dsV kvs))) (ρ.set x (.val false (.dv (DY kvs) (dsV kvs))))|some (.own b ds)=>.ok (.val (.lst ds)) (ρ.set x (.val b (.lst ds)))|some (.val _ d)=>.ok (.val d) ρ|_=>.stuck:=(rfl)
@[simp]theorem abz{c:Call}{n x:Nat}{ρ:List Sl}:ex c n (.Fw x) ρ=match ρ[x]?with|some .aQ=>.ok .next (ρ.set x (.cF []))|some (.cF _)=>.ok .next (ρ.set x (.cF []))|some (.val false _)=>.ok .next (ρ.set x (.cF []))|_=>.stuck:=(rfl)
@[simp]theorem abJ{c:Call}{n x:Nat}{k e:P}{ρ:List Sl}:ex c n (.fX x k e) ρ=(ev c e ρ).bind fun r ρ=>match ρ[x]?with
 |some (.cF _)=>(cC (isVar k) (ev c k) ρ).bind fun h ρ=>match ρ[x]?,h with|some (.cF kvs),.int k=>if kvs.length<lim then .ok .next (ρ.set x (.cF (fX kvs k r.d)))else .stuck|_,_=>.stuck
 |_=>.stuck:=(rfl)
@[simp]theorem abQ{c:Call}{n x:Nat}{i e:P}{sub:Bool}{ρ:List Sl}:ex c n (.JS x i sub e) ρ=(lift (yH ρ x) ρ).bind fun _ ρ=>(cC (isVar i) (ev c i) ρ).bind fun k ρ=>(lift (yH ρ x) ρ).bind fun l ρ=>(lift ((iZ k).bind fun i=>at' l i) ρ).bind fun a ρ=>(cC (isVar e) (ev c e) ρ).bind fun b ρ=>match a,b,ρ[x]?,k with
 |.int u,.int v,some (.own h ds),.int k=>match jM ds.length k with|some j=>.ok .next (ρ.set x (.own h (ds.set j (.int (if sub then u-v else u+v)))))|none=>.stuck
 |_,_,_,_=>.stuck:=(rfl)
@[simp]theorem V0{x:Nat}{k:P}:isVar (.Qm x k)=none:=rfl
@[simp]theorem WY{x:Nat}{k:P}{b:Bool}:isVar (.Qn x k b)=none:=rfl
@[simp]theorem YT{x:Nat}:isVar (.vw x)=none:=rfl
@[simp]theorem Uq{k e:Int}:isVar (.Aa k e)=none:=rfl
@[simp]theorem aex{kvs:List (Int×D)}:fr (.cF kvs)=false:=rfl
@[simp]theorem ab1{r:List (List D)}:fr (.hold r)=false:=rfl
@[simp]theorem XH:rZ .zZ=Dd:=rfl
@[simp]theorem abE:rZ .din=wJ false:=rfl
@[simp]theorem Yk{ks:List Int}{ds:List D}{k:Int}:Dd (.dv ks ds) (.int k)=(lM (ks.zip ds) k).map .val:=rfl
@[simp]theorem aax{ks:List Int}{ds:List D}{k:Int}:wJ false (.int k) (.dv ks ds)=some (.val (.bl (ks.contains k))):=rfl
@[simp]theorem Wo{ks:List Int}{ds:List D}:blt .keys [.dv ks ds]=some (.val (.tup (ks.map D.int))):=rfl
@[simp]theorem aaT{ks:List Int}{ds:List D}:blt .Xb [.dv ks ds]=if ks.length<=16777216 then some (.own (ks.map D.int))else none:=rfl
@[simp]theorem aaP{ds:List D}:blt .rvT [.lst ds]=some (.val (.tup ds.reverse)):=rfl
@[simp]theorem VR{kvs:List (Int×D)}{x:Option Sl}:fB (.cF kvs) x=.cF kvs:=by cases x<;>rfl
@[simp]theorem SM{r:List (List D)}{x:Option Sl}:fB (.hold r) x=.hold r:=by cases x<;>rfl
structure HN(m:Int)(ws:List Wy):Prop where
 m0:2<=m
 m1:m<=6
 len:ws.length<=12
 ok:∀w∈ws,(0<=w.s/\w.s<m)/\(0<=w.t/\w.t<m)/\0<=w.h
theorem HN.of(h:dg m ws):HN m ws:=⟨h.m0,h.m1,h.len,fun w c=>by have:=h.ok w c;exact⟨⟨this.s0,this.s1⟩,⟨this.t0,this.t1⟩,by have:=this.h0;omega⟩⟩
abbrev aC:=Nat×Bool
variable{s:aC}{x:Nat×(Option aC×Int)}{o:Option aC×Int}{c:List aC}{cs:List (List aC×Int)}
def sD(s:aC):D:=fO s.1 s.2
def jY(ws:List Wy)(fs:List Int)(p:Int)(s:aC):Bool:=match ws[s.1]?,fs[s.1]?with|some v,some g=>decide (frm v s.2=p)&&decide (0<nT v g s.2)|_,_=>false
theorem jr{fs:List Int}(e:ws[s.1]?=some v)(h:fs[s.1]?=some g):jY ws fs p s=(decide (frm v s.2=p)&&decide (0<nT v g s.2)):=by unfold jY;rw[e,h]
def jl(ws:List Wy)(fs:List Int)(M:Nat)(l:List aC):List (List aC):=(List.range M).map fun(p:Nat)=>l.filter (jY ws fs (p:Int))
def rD(l:List (List aC)):List (List D):=l.map fun r=>r.map sD
def ik(N:Nat):List aC:=(List.range N).flatMap fun j=>[(j,true),(j,false)]
theorem sX:ik (N+1)=(ik N++[(N,true)])++[(N,false)]:=by simp[ik,List.range_succ]
theorem xK:(ik N).length=2*N:=by induction N with|zero=>rfl|succ N e=>rw[sX];simp[e];omega
theorem QS(h:HN m ws)(e:ws[j]?=some v)(f:Bool):0<=frm v f/\frm v f<m:=by have:=h.ok v (mem_of_getElem? e);cases f<;>simp only[frm]<;>simp<;>omega
theorem GR(h:HN m ws)(e:ws[j]?=some v)(f:Bool):0<=too v f/\too v f<m:=by have:=h.ok v (mem_of_getElem? e);cases f<;>simp only[too]<;>simp<;>omega
theorem Gy{fs:List Int}{M:Nat}{l:List aC}(e:ws[s.1]?=some v)(t:fs[s.1]?=some g)(h:¬ 0<nT v g s.2):jl ws fs M (l++[s])=jl ws fs M l:=by unfold jl;refine map_congr_left fun p _=>?_;rw[List.filter_append];simp[jr e t,h]
theorem Ms{fs:List Int}{l:List aC}(e:ws[s.1]?=some v)(u:fs[s.1]?=some g)(h:0<nT v g s.2)(y:0<=frm v s.2/\frm v s.2<m)(C:l.length<1000):(∃row,rowAt (rD (jl ws fs m.toNat l)) (frm v s.2)=some row)/\jN (rD (jl ws fs m.toNat l)) (frm v s.2) (fun row=>if row.length<lim then some (row++[sD s])else none)=some (rD (jl ws fs m.toNat (l++[s]))):=by
 have t:(rD (jl ws fs m.toNat l)).length=m.toNat:=by simp[rD,jl]
 have z:jM (rD (jl ws fs m.toNat l)).length (frm v s.2)=some (frm v s.2).toNat:=by unfold jM;rw[t,if_pos y.1,if_pos (by omega)]
 have A:(rD (jl ws fs m.toNat l))[(frm v s.2).toNat]?=some ((l.filter (jY ws fs (frm v s.2))).map sD):=by simp[rD,jl,show(frm v s.2).toNat<m.toNat by omega,Int.toNat_of_nonneg y.1]
 refine⟨⟨_,by unfold rowAt;rw[z];exact A⟩,?_⟩;unfold jN;rw[z];show((rD (jl ws fs m.toNat l))[(frm v s.2).toNat]?).bind _=_;rw[A];have B:((l.filter (jY ws fs (frm v s.2))).map sD).length<lim:=by have:=List.length_filter_le (jY ws fs (frm v s.2)) l;rw[length_map];show _<16777216;omega
 show Option.map _ (if _ then _ else _)=_;rw[if_pos B];show some _=some _;congr 1;refine ext_getElem (by simp[rD,jl]) fun i E G=>?_;rw[List.getElem_set];by_cases c:(frm v s.2).toNat=i
 . rw[if_pos c];have:(i:Int)=frm v s.2:=by omega
   simp[rD,jl,this,List.filter_append,jr e u,h]
 . rw[if_neg c];have:¬ frm v s.2=(i:Int):=by omega
   simp[rD,jl,List.filter_append,jr e u,this]
inductive JOp(m:Int)(ws:List Wy)(fs:List Int)(s:Sl)(i:Nat)(ρ:List Sl):Prop where|mk(s3 s4:Sl)(q0:ρ=[.val false (aN m ws),s,.hold (rD (jl ws fs m.toNat (ik i))),s3,s4])(q1:fr s3=true)(q2:fr s4=true)
inductive JOq(m:Int)(ws:List Wy)(fs:List Int)(s:Sl)(i:Nat)(r:List D)(ρ:List Sl):Prop where|mk(l us:List aC)(s4:Sl)(q0:ρ=[.val false (aN m ws),s,.hold (rD (jl ws fs m.toNat l)),.val false (.int i),s4])(q1:fr s4=true)(q2:r=us.map sD)(q3:l++us=ik (i+1))(q4:∀u∈us,u.1=i)
inductive F1n(a b c d e:Sl)(ρ:List Sl):Prop where|mk(s:Sl)(q0:ρ=[a,b,c,d,e,s])(q1:fr s=true)
theorem Js{s:Sl}{fs:List Int}(hs:Q6 s fs)(h:HN m ws)(W:fs.length=ws.length)(k:Q (.val (.lst ((rD (jl ws fs m.toNat (ik ws.length))).map D.lst))) [.val false (aN m ws),s]):(run Γ w (n+2) 4 [.val false (aN m ws),s]).sat Q:=by
 have X:=h.len;have m0:=h.m0;have m1:=h.m1;refine aJ (d:=f4) rfl rfl (by decide) ?_;refine bK (fun ρ=>ρ=[.val false (aN m ws),s,.hold (rD (jl ws fs m.toNat (ik 0))),.aQ,.aQ]) ?_ ?_
 . simp[f4,show m<=1000000000 by omega,show-1000000000<=m by omega];refine⟨fun _=>?_,by omega⟩;rw[cu];refine rB (F1n _ _ _ _ _) (fun _=>[]) ⟨.aQ,rfl,rfl⟩ ?_ ?_;.rintro d hd _⟨L,rfl,y⟩;simp[y];exact⟨_,rfl,rfl⟩
   .rintro _⟨L,rfl,y⟩;simp[rD,jl,ik]
 rintro _ rfl;refine bK (JOp m ws fs s ws.length) ?_ ?_
 . simp[show(ws.length:Int)<=1000000000 by omega];refine fc (JOp m ws fs s) ?_ ?_ ⟨.aQ,.aQ,rfl,rfl,rfl⟩
   . rintro i _ hi⟨s3,s4,rfl,C,t⟩;have G:i<fs.length:=by omega
     have z:ws[i]?=some ws[i]:=by simp[hi]
     have H:fs[i]?=some fs[i]:=by simp[G]
     generalize ws[i]=v at*;generalize fs[i]=g at*;simp[C];apply ak;simp;refine cU (JOq m ws fs s i) ?_ ?_ ⟨ik i,[(i,true),(i,false)],s4,rfl,t,rfl,by rw[sX];simp,by simp⟩;.rintro d r _⟨l,e,s4,rfl,t,hr,A,E⟩;cases e with|nil=>cases hr|cons u e=>
         obtain⟨rfl,rfl⟩:d=sD u/\r=e.map sD:=by simpa using hr
         obtain rfl:=E u (by simp);have B:(l++[u])++e=ik (u.1+1):=by rw[append_assoc];exact A
         have I:l.length<1000:=by have:=congrArg List.length A;rw[xK]at this;simp at this;omega
         simp[t];apply ak;rcases hs with rfl|⟨b,rfl⟩;all_goals
          simp[sD];refine um (by first|exact .inl rfl|exact .inr ⟨_,rfl⟩) z H ?_;simp;refine⟨fun ho=>?_,fun ho=>?_⟩;.obtain⟨⟨row,M⟩,O⟩:=Ms (ws:=ws) (fs:=fs) (l:=l) z H ho (QS h z u.2) I;symm;simp;refine lH z ?_;simp[M];have U:jN (rD (jl ws fs m.toNat l)) (frm v u.2) (fun row=>if row.length<lim then some (row++[fO u.1 u.2])else none)=_:=O;rw[U];simp;exact⟨l++[u],e,_,rfl,rfl,rfl,B,fun x J=>E x (by simp[J])⟩
          .exact⟨l++[u],e,_,by rw[Gy z H (by omega)],rfl,rfl,B,fun x J=>E x (by simp[J])⟩
     . rintro _⟨l,e,s4,rfl,t,hr,A,E⟩;have:e=[]:=by cases e with|nil=>rfl|cons _ _=>cases hr
       subst this;rw[append_nil]at A;subst A;simp;exact⟨_,_,rfl,rfl,t⟩
   .rintro _⟨s3,s4,rfl,C,t⟩;exact⟨rfl,_,_,rfl,C,t⟩
 rintro _⟨s3,s4,rfl,C,t⟩;symm;simp;apply ak;simp;exact k
abbrev En:=Int×Nat×(Option aC×Int)
variable{es uv:List En}
def oS:Option aC->D|none=>.non|some s=>sD s
def zG(e:En):D:=.tup [.int e.2.2.2,.int (e.2.1:Int),oS e.2.2.1]
def en(e:En):Int×D:=(e.1,zG e)
def jy(es:List En):D:=.dv (es.map (·.1)) (es.map zG)
def zL(p:Int):Int×D:=(p,.bl true)
@[simp]theorem QG{l:List Int}:DY (l.map zL)=l:=by simp[DY,zL,Function.comp_def]
theorem zM{l:List En}:DY (l.map en)=l.map (·.1):=by simp[DY,en,Function.comp_def]
theorem zF{l:List En}:o5 (l.map en) p=true↔∃n o,(p,n,o)∈l:=by show(DY (l.map en)).contains p=true↔_;rw[zM];simp
theorem kin_no{l:List En}(h:¬ ∃n o,(p,n,o)∈l):o5 (l.map en) p=false:=by cases e:o5 (l.map en) p with|false=>rfl|true=>exact absurd (zF.mp e) h
theorem uJ{u:Type}{p:Int}{x y:u}:∀{l:List (Int×u)},(l.map (·.1)).Nodup->(p,x)∈l->(p,y)∈l->x=y
 |[],_,h,_=>by cases h|e::l,t,h1,h2=>by
   rw[map_cons,nodup_cons]at t;rcases mem_cons.mp h1 with h1|h1<;>rcases mem_cons.mp h2 with h2|h2;.rw[<-h2]at h1;cases h1;rfl
   .exact absurd (mem_map.mpr ⟨_,h2,by rw[<-h1]⟩) t.1
   .exact absurd (mem_map.mpr ⟨_,h1,by rw[<-h2]⟩) t.1
   .exact uJ t.2 h1 h2
theorem pM{p:Int}{x:Nat×(Option aC×Int)}:∀{l:List En},(l.map (·.1)).Nodup->(p,x)∈l->lM (l.map en) p=some (zG (p,x))
 |[],_,h=>by cases h|e::l,t,h=>by
   have u:=t;rw[map_cons,nodup_cons]at t;unfold lM;rw[map_cons,find?_cons];by_cases c:e.1=p;.obtain⟨q,y⟩:=e;cases c;have:=uJ u h (by simp:(q,y)∈(q,y)::l);subst this;simp[en]
   . have h':(p,x)∈l:=by
      rcases mem_cons.mp h with h|h;.exact absurd (by rw[<-h]) c
      .exact h
     simp[en,c];have:=pM t.2 h';unfold lM at this;simpa[en]using this
theorem lY{kvs:List (Int×D)}{d:D}(h:o5 kvs p=false):fX kvs p d=kvs++[(p,d)]:=by
 unfold fX;rw[if_neg];intro t;obtain⟨x,u,e⟩:=any_eq_true.mp t;have:o5 kvs p=true:=by show(kvs.map (·.1)).contains p=true;rw[contains_iff_mem];exact mem_map.mpr ⟨x,u,by simpa using e⟩
 rw[this]at h;cases h
theorem vY{kvs:List (Int×D)}{d:D}(h:o5 kvs p=true):fX kvs p d=kvs.map fun e=>if e.1=p then(p,d)else e:=by
 unfold fX;rw[if_pos]
 . refine map_congr_left fun e _=>?_;by_cases c:e.1=p;.simp[c]
   .simp[c]
 .have h':(kvs.map (·.1)).contains p=true:=h;rw[contains_iff_mem]at h';obtain⟨x,t,e⟩:=mem_map.mp h';exact any_eq_true.mpr ⟨x,t,by simpa using e⟩
def xM(p:Int)(x:Nat×(Option aC×Int))(e:En):En:=if e.1=p then(p,x)else e
def o7(es:List En)(p:Int)(x:Nat×(Option aC×Int)):List En:=if p∈es.map (·.1)then es.map (xM p x)else es++[(p,x)]
def rK(ch:List Int)(p:Int):List Int:=if p∈ch then ch else ch++[p]
theorem Ls:fX (es.map en) p (zG (p,x))=(o7 es p x).map en:=by
 have h:o5 (es.map en) p=true↔p∈es.map (·.1):=by show(DY (es.map en)).contains p=true↔_;rw[zM,contains_iff_mem]
 unfold o7;by_cases c:p∈es.map (·.1)
 . rw[if_pos c,vY (h.mpr c),map_map,map_map];refine map_congr_left fun e _=>?_;show(if e.1=p then _ else _)=en (xM p x e);unfold xM;by_cases z:e.1=p;.rw[if_pos z,if_pos z];rfl
   .rw[if_neg z,if_neg z]
 .rw[if_neg c,lY (by cases e:o5 (es.map en) p with|false=>rfl|true=>exact absurd (h.mp e) c)];simp[en]
theorem MK:fX (ch.map zL) p (.bl true)=(rK ch p).map zL:=by
 have h:o5 (ch.map zL) p=true↔p∈ch:=by show(DY (ch.map zL)).contains p=true↔_;rw[QG,contains_iff_mem]
 unfold rK;by_cases c:p∈ch
 . rw[if_pos c,vY (h.mpr c),map_map];refine map_congr_left fun e _=>?_;show(if e=p then _ else _)=zL e;by_cases z:e=p;.rw[if_pos z,z];rfl
   .rw[if_neg z]
 .rw[if_neg c,lY (by cases e:o5 (ch.map zL) p with|false=>rfl|true=>exact absurd (h.mp e) c)];simp[zL]
theorem xq{q:Int}:q∈rK ch p↔q∈ch\/q=p:=by
 unfold rK;split;.exact⟨.inl,fun h=>h.elim id fun e=>by rw[e];assumption⟩
 .simp
theorem BZ(h:ch.Nodup):(rK ch p).Nodup:=by
 unfold rK;split;.exact h
 .rename_i t;rw[nodup_append];exact⟨h,by simp,fun a u b y e=>t (by rw[<-mem_singleton.mp y,<-e];exact u)⟩
theorem Fb:(o7 es p x).map (·.1)=rK (es.map (·.1)) p:=by
 unfold o7 rK;split
 . rw[map_map];refine map_congr_left fun e _=>?_;show(xM p x e).1=e.1;unfold xM;split;.rename_i h;exact h.symm
   .rfl
 .simp
theorem gw{q:Int}{y:Nat×(Option aC×Int)}:(q,y)∈o7 es p x↔(q=p/\y=x)\/(q≠p/\(q,y)∈es):=by
 unfold o7;split
 . rename_i t;obtain⟨C,u,z⟩:=mem_map.mp t;rw[mem_map];constructor
   . rintro⟨e,he,h⟩;unfold xM at h;split at h;.cases h;exact .inl ⟨rfl,rfl⟩
     .rename_i A;subst h;exact .inr ⟨A,he⟩
   . rintro(⟨rfl,rfl⟩|⟨h1,B⟩);.exact⟨C,u,by unfold xM;rw[if_pos z]⟩
     .exact⟨_,B,by unfold xM;rw[if_neg h1]⟩
 . rename_i t;rw[mem_append,mem_singleton];constructor
   . rintro(h|h);.refine .inr ⟨fun e=>t ?_,h⟩;rw[<-e];exact mem_map.mpr ⟨_,h,rfl⟩
     .cases h;exact .inl ⟨rfl,rfl⟩
   . rintro(⟨rfl,rfl⟩|⟨_,B⟩);.exact .inr rfl
     .exact .inl B
theorem mO{h:Type}[BEq h][LawfulBEq h]:∀{l l2:List h},l.Nodup->(∀a∈l,a∈l2)->l.length<=l2.length
 |[],_,_,_=>vf|a::l,l2,z,hs=>by
   have u:=hs a (by simp);have e:=nodup_cons.mp z;have:=mO (l:=l) (l2:=l2.erase a) e.2 fun b y=>by
    have t:b≠a:=by rintro rfl;exact e.1 y
    exact(List.mem_erase_of_ne t).mpr (hs b (by simp[y]))
   rw[List.length_erase_of_mem u]at this;have:=List.length_pos_of_mem u;simp only[length_cons];omega
theorem six{l:List Int}(m1:m<=6)(e:l.Nodup)(h:∀p∈l,0<=p/\p<m):l.length<=6:=by
 have:=mO (l2:=[0,1,2,3,4,5]) e fun q t=>by
  have:=h q t;have:q=0\/q=1\/q=2\/q=3\/q=4\/q=5:=by omega
  simpa using this
 simpa using this
theorem qT{fs:List Int}(h:jY ws fs p s=true):∃v g,ws[s.1]?=some v/\fs[s.1]?=some g/\frm v s.2=p/\0<nT v g s.2:=by
 unfold jY at h;split at h;.rename_i v g e t;simp at h;exact⟨v,g,e,t,h.1,h.2⟩
 .cases h
theorem wG(h:s.1<N):s∈ik N:=by unfold ik;rw[List.mem_flatMap];refine⟨s.1,by simp[h],?_⟩;obtain⟨j,f⟩:=s;cases f<;>simp
def ir(ws:List Wy)(b:Int):List aC->Int->Prop|[],a=>a=b|s::c,a=>∃v,ws[s.1]?=some v/\frm v s.2=a/\ir ws b c (too v s.2)
def hst(ws:List Wy)(s:aC):Int:=match ws[s.1]?with|some v=>hsp v s.2|none=>0
theorem ie(e:ws[s.1]?=some v):hst ws s=hsp v s.2:=by unfold hst;rw[e]
def bM(ws:List Wy):List aC->Int|[]=>0|s::c=>hst ws s+bM ws c
theorem j5{ws:List Wy}{c2:List aC}:∀{c1:List aC},bM ws (c1++c2)=bM ws c1+bM ws c2|[]=>by simp[bM]|s::c=>by rw[cons_append,bM,j5,bM];omega
def sE(ws:List Wy)(fs:List Int)(c:List aC):Prop:=∀s∈c,∃v,ws[s.1]?=some v/\jY ws fs (frm v s.2) s=true
theorem ir.app{ws:List Wy}{b q:Int}{c2:List aC}(t:ir ws b c2 q):∀{c1:List aC}{a:Int},ir ws q c1 a->ir ws b (c1++c2) a|[],a,h=>by have:a=q:=h;rw[this];exact t|s::c,a,⟨v,e,u,h⟩=>⟨v,e,u,ir.app t h⟩
theorem By{ws:List Wy}{b:Int}{c2:List aC}:∀{c1:List aC}{a:Int},ir ws b (c1++c2) a->∃q,ir ws q c1 a/\ir ws b c2 q|[],a,h=>⟨a,rfl,h⟩|s::c,a,⟨v,e,t,h⟩=>by obtain⟨q,h1,u⟩:=By (c1:=c) h;exact⟨q,⟨v,e,t,h1⟩,u⟩
def Pt(ws:List Wy)(fs:List Int)(F:Int->Int):Prop:=∀(s:aC)(v:Wy),ws[s.1]?=some v->jY ws fs (frm v s.2) s=true->F (too v s.2)<=F (frm v s.2)+hsp v s.2
theorem lE{ws:List Wy}{fs:List Int}{F:Int->Int}(h:Pt ws fs F){b:Int}:∀{c:List aC}{a:Int},ir ws b c a->sE ws fs c->F b<=F a+bM ws c|[],a,t,_=>by have:a=b:=t;rw[this,bM];omega|s::c,a,⟨v,e,z,t⟩,ho=>by have h1:=lE h t fun u A=>ho u (mem_cons_of_mem _ A);obtain⟨C,y,o⟩:=ho s (by simp);rw[e]at y;cases y;have B:=h s v e o;rw[z]at B;rw[bM,ie e];omega
def qz(ws:List Wy)(s:aC):Int:=match ws[s.1]?with|some v=>too v s.2|none=>0
def qe(ws:List Wy):List aC->Int->List Int|[],a=>[a]|s::c,a=>a::qe ws c (qz ws s)
theorem Bq{ws:List Wy}:∀{c:List aC}{a:Int},(qe ws c a).length=c.length+1|[],_=>rfl|s::c,a=>by rw[qe,length_cons,Bq];rfl
theorem Gw{m:Int}{ws:List Wy}{b:Int}(t:HN m ws):∀{c:List aC}{a:Int},ir ws b c a->0<=a/\a<m->∀q∈qe ws c a,0<=q/\q<m
 |[],a,_,h,q,hq=>by rw[qe,mem_singleton]at hq;rw[hq];exact h|s::c,a,⟨v,e,y,u⟩,h,q,hq=>by
   rw[qe,mem_cons]at hq;rcases hq with rfl|hq;.exact h
   . have:qz ws s=too v s.2:=by unfold qz;rw[e]
     rw[this]at hq;exact Gw t u (GR t e s.2) q hq
theorem Bs{ws:List Wy}{b q:Int}:∀{c:List aC}{a:Int},ir ws b c a->q∈qe ws c a->∃c1 c2,c=c1++c2/\ir ws q c1 a/\ir ws b c2 q
 |[],a,h,hq=>by rw[qe,mem_singleton]at hq;exact⟨[],[],rfl,hq.symm,by rw[hq];exact h⟩|s::c,a,h,hq=>by
   rw[qe,mem_cons]at hq;rcases hq with rfl|hq;.exact⟨[],s::c,rfl,rfl,h⟩
   . obtain⟨v,e,t,u⟩:=h;have:qz ws s=too v s.2:=by unfold qz;rw[e]
     rw[this]at hq;obtain⟨c1,c2,rfl,h1,y⟩:=Bs u hq;exact⟨s::c1,c2,rfl,⟨v,e,t,h1⟩,y⟩
theorem Cr{ws:List Wy}{b:Int}:∀{c:List aC}{a:Int},ir ws b c a->¬(qe ws c a).Nodup->∃c1 c2 c3 q,c=c1++(c2++c3)/\0<c2.length/\ir ws q c1 a/\ir ws q c2 q/\ir ws b c3 q
 |[],a,_,h=>absurd (by simp[qe]) h|s::c,a,⟨v,e,u,y⟩,h=>by
   have B:qz ws s=too v s.2:=by unfold qz;rw[e]
   rw[qe,B,nodup_cons]at h;by_cases A:a∈qe ws c (too v s.2);.obtain⟨c1,c2,rfl,h1,t⟩:=Bs y A;exact⟨[],s::c1,c2,a,rfl,by simp,rfl,⟨v,e,u,h1⟩,t⟩
   .obtain⟨c1,c2,c3,q,rfl,h0,h1,t,C⟩:=Cr y fun z=>h ⟨A,z⟩;exact⟨s::c1,c2,c3,q,rfl,h0,⟨v,e,u,h1⟩,t,C⟩
def Le(h:Int)(n:Nat)(h':Int)(e:Nat):Prop:=h<h'\/(h=h'/\n<=e)
theorem Le.refl{h:Int}:Le h n h n:=.inr ⟨rfl,dz⟩
theorem Le.trans{c:Int}{k:Nat}(h1:Le a k b l)(e:Le b l c n):Le a k c n:=by unfold Le at*;omega
theorem Le.add{k:Nat}(x:Int)(h1:Le a k b l):Le (a+x) (k+1) (b+x) (l+1):=by unfold Le at*;omega
theorem short{fs:List Int}(z:HN m ws)(h:Pt ws fs F)(A:0<=a/\a<m):∀(n:Nat){c:List aC},c.length<=n->ir ws b c a->sE ws fs c->∃e,ir ws b e a/\sE ws fs e/\e.length<=5/\Le (bM ws e) e.length (bM ws c) c.length/\(qe ws e a).Nodup:=by
 intro n;have done:∀{c:List aC},ir ws b c a->(qe ws c a).Nodup->c.length<=5:=fun t u=>by have:=six z.m1 u (Gw z t A);rw[Bq]at this;omega
 induction n with|zero=>intro c hc t ho;have:c=[]:=List.eq_nil_of_length_eq_zero (by omega);subst this;exact⟨[],t,ho,by simp,.refl,by simp[qe]⟩|succ n B=>
   intro c hc t ho;by_cases u:(qe ws c a).Nodup;.exact⟨c,t,ho,done t u,.refl,u⟩
   .obtain⟨c1,c2,c3,q,rfl,h0,h1,C,E⟩:=Cr t u;have y:sE ws fs c2:=fun s hs=>ho s (by simp[hs]);have hr:=lE h C y;simp only[length_append]at hc;obtain⟨e,G,H,I,J,L⟩:=B (c:=c1++c3) (by simp only[length_append];omega) (ir.app E h1) fun s hs=>ho s (by rcases mem_append.mp hs with hs|hs<;>simp[hs]);refine⟨e,G,H,I,J.trans ?_,L⟩;rw[j5,j5,j5];simp only[length_append];unfold Le;omega
structure Ez(m:Int)(ws:List Wy)(fs:List Int)(bs:List (Int×Int))(es:List En):Prop where
 nd:(es.map (·.1)).Nodup
 inm:∀p l o,(p,l,o)∈es->0<=p/\p<m
 z:(0,0,(none,0))∈es
 wk:∀p l o,(p,l,o)∈es->∃a b c,(a,b)∈bs/\ir ws p c a/\sE ws fs c/\c.length=l/\b+bM ws c=o.2
 stp:∀p l o,(p,l,o)∈es->(o.1=none/\(p,o.2)∈bs/\l=0)\/∃(s:aC)(v:Wy)(l':Nat)(o':Option aC×Int),o.1=some s/\ws[s.1]?=some v/\too v s.2=p/\jY ws fs (frm v s.2) s=true/\(frm v s.2,l',o')∈es/\Le (o'.2+hsp v s.2) (l'+1) o.2 l
theorem Ez.len{fs:List Int}{bs:List (Int×Int)}(h:Ez m ws fs bs es)(m1:m<=6):es.length<=6:=by
 have:=six m1 h.nd fun p e=>by obtain⟨⟨p,l,o⟩,he,rfl⟩:=mem_map.mp e;exact h.inm p l o he
 simpa using this
theorem jJ{l:List En}{a b:Nat}{u:Option aC×Int}(e:(l.map (·.1)).Nodup)(h1:(p,a,o)∈l)(h:(p,b,u)∈l):a=b/\o=u:=by have:=uJ e h1 h;cases this;exact⟨rfl,rfl⟩
def At(es:List En)(p h:Int)(n:Nat):Prop:=∃l o,(p,l,o)∈es/\Le o.2 l h n
theorem At.le{h h':Int}{e:Nat}(a:At es p h n)(z:Le h n h' e):At es p h' e:=by obtain⟨l,o,h1,t⟩:=a;exact⟨l,o,h1,t.trans z⟩
structure Wh(m:Int)(ws:List Wy)(fs:List Int)(bs:List (Int×Int))(n:Nat)(R:List Int)(es:List En):Prop where
 cm:Ez m ws fs bs es
 row:∀p∈R,∃l o,(p,l,o)∈es
 nr:R.Nodup
 wl:∀a b c p,(a,b)∈bs->ir ws p c a->sE ws fs c->c.length<=n->At es p (b+bM ws c) c.length
 cl:∀l o(s:aC)v,ws[s.1]?=some v->frm v s.2∉R->(frm v s.2,l,o)∈es->jY ws fs (frm v s.2) s=true->At es (too v s.2) (o.2+hsp v s.2) (l+1)few:6<=n->R=[]
structure In(m:Int)(ws:List Wy)(fs:List Int)(bs:List (Int×Int))(n:Nat)(R:List Int)(uv:List En)(K:aC->Prop)(es:List En)(ch:List Int):Prop where
 wh:Wh m ws fs bs n R uv
 cm:Ez m ws fs bs es
 le:∀p l o,(p,l,o)∈uv->At es p o.2 l
 out:∀p l o,p∉ch->(p,l,o)∈es->(p,l,o)∈uv
 chg:∀p∈ch,∃l o,(p,l,o)∈es
 nc:ch.Nodup
 dn:∀s,K s->∀v,ws[s.1]?=some v->∀l o,(frm v s.2,l,o)∈uv->At es (too v s.2) (o.2+hsp v s.2) (l+1)few:5<=n->ch=[]
theorem In.row{m:Int}{ws:List Wy}{fs:List Int}{bs:List (Int×Int)}{n:Nat}{R:List Int}{uv:List En}{K:aC->Prop}{es:List En}{ch:List Int}(h:In m ws fs bs n R uv K es ch){p:Int}(e:p∈R):∃l o,(p,l,o)∈es:=by obtain⟨l,o,z⟩:=h.wh.row p e;obtain⟨l,o,z,_⟩:=h.le _ _ _ z;exact⟨l,o,z⟩
theorem In.keep{fs:List Int}{bs:List (Int×Int)}{R:List Int}{K:aC->Prop}(h:In m ws fs bs n R uv K es ch)(e:ws[s.1]?=some v)(z:(frm v s.2,l,o)∈es)(A:At es (too v s.2) (o.2+hsp v s.2) (l+1)):In m ws fs bs n R uv (fun u=>K u\/u=s) es ch:=by
 refine⟨h.wh,h.cm,h.le,h.out,h.chg,h.nc,fun u t=>?_,h.few⟩;rcases t with t|rfl;.exact h.dn u t
 .intro E y G H h0;rw[e]at y;cases y;obtain⟨I,J,B,C⟩:=h.le _ _ _ h0;obtain⟨rfl,rfl⟩:=jJ h.cm.nd z B;exact A.le (C.add _)
theorem In.put{fs:List Int}{bs:List (Int×Int)}{R:List Int}{K:aC->Prop}(h:In m ws fs bs n R uv K es ch)(L:HN m ws)(hF:Pt ws fs F)(hb:∀a b,(a,b)∈bs->0<=a/\a<m)(hZ:∀a b c,(a,b)∈bs->ir ws 0 c a->sE ws fs c->0<=b+bM ws c)(e:ws[s.1]?=some v)(M:(frm v s.2,l,o)∈es)(ho:jY ws fs (frm v s.2) s=true)(O:¬ At es (too v s.2) (o.2+hsp v s.2) (l+1)):In m ws fs bs n R uv (fun u=>K u\/u=s) (o7 es (too v s.2) (l+1,(some s,o.2+hsp v s.2))) (rK ch (too v s.2)):=by
 have m0:=L.m0;obtain⟨E,b0,c,c0,c1,c2,c3,c4⟩:=h.cm.wk _ _ _ M;have H:ir ws (too v s.2) (c++[s]) E:=ir.app (c2:=[s]) ⟨v,e,rfl,rfl⟩ c1;have U:sE ws fs (c++[s]):=fun u hu=>by
  rcases mem_append.mp hu with hu|hu;.exact c2 u hu
  .rw[mem_singleton.mp hu];exact⟨v,e,ho⟩
 have w3:(c++[s]).length=l+1:=by simp[c3]
 have W:b0+bM ws (c++[s])=o.2+hsp v s.2:=by rw[j5,<-c4,bM,bM,ie e];omega
 have A:(too v s.2,l+1,(some s,o.2+hsp v s.2))∈o7 es (too v s.2) (l+1,(some s,o.2+hsp v s.2)):=gw.mpr (.inl ⟨rfl,rfl⟩);have mono:∀{q l2 t},(q,l2,t)∈es->At (o7 es (too v s.2) (l+1,(some s,o.2+hsp v s.2))) q t.2 l2:=fun{q l2 t}z=>by
  by_cases c:q=too v s.2;.subst c;refine⟨_,_,A,?_⟩;have:¬ Le t.2 l2 (o.2+hsp v s.2) (l+1):=fun y=>O ⟨_,_,z,y⟩;unfold Le at this ⊢;simp only;omega
  .exact⟨l2,t,gw.mpr (.inr ⟨c,z⟩),.refl⟩
 have Qt:∀{q h n},At es q h n->At (o7 es (too v s.2) (l+1,(some s,o.2+hsp v s.2))) q h n:=fun⟨l2,t,G,X⟩=>(mono G).le X;refine⟨h.wh,⟨by rw[Fb];exact BZ h.cm.nd,fun p l o z=>?_,?_,fun p l2 t z=>?_,fun p l2 t z=>?_⟩,fun p l o z=>Qt (h.le p l o z),fun p l o hc z=>?_,fun p hc=>?_,BZ h.nc,fun u hu=>?_,fun h5=>?_⟩
 . rcases gw.mp z with⟨rfl,_⟩|⟨_,z⟩;.exact GR L e s.2
   .exact h.cm.inm p l o z
 .refine gw.mpr (.inr ⟨fun z=>O ?_,h.cm.z⟩);have:=hZ E b0 _ c0 (by rw[<-z]at H;exact H) U;rw[W]at this;rw[<-z];exact⟨_,_,h.cm.z,by unfold Le;simp only;omega⟩
 . rcases gw.mp z with⟨rfl,y⟩|⟨_,z⟩;.cases y;exact⟨E,b0,_,c0,H,U,w3,W⟩
   .exact h.cm.wk p l2 t z
 . rcases gw.mp z with⟨rfl,y⟩|⟨_,z⟩;.cases y;obtain⟨l',o',B,C⟩:=mono M;exact .inr ⟨s,v,l',o',rfl,e,rfl,ho,B,C.add _⟩
   . rcases h.cm.stp p l2 t z with z|⟨s',I,l',o',G,z3,z4,z5,z6,z7⟩;.exact .inl z
     .obtain⟨Y,Z,B,C⟩:=mono z6;exact .inr ⟨s',I,Y,Z,G,z3,z4,z5,B,(C.add _).trans z7⟩
 . rw[xq,not_or]at hc;rcases gw.mp z with⟨rfl,_⟩|⟨_,z⟩;.exact absurd rfl hc.2
   .exact h.out p l o hc.1 z
 . rcases xq.mp hc with hc|rfl;.obtain⟨l2,t,z⟩:=h.chg p hc;obtain⟨Y,Z,z,_⟩:=mono z;exact⟨Y,Z,z⟩
   .exact⟨_,_,A⟩
 . rcases hu with hu|rfl;.exact fun I J l0 o0 h0=>Qt (h.dn u hu I J l0 o0 h0)
   .intro I J l0 o0 h0;rw[e]at J;cases J;obtain⟨l1,o1,B,C⟩:=h.le _ _ _ h0;obtain⟨rfl,rfl⟩:=jJ h.cm.nd M B;exact⟨_,_,A,C.add _⟩
 .obtain⟨c',B,C,q3,q4,_⟩:=short L hF (hb E b0 c0) _ (dz) H U;obtain⟨l1,o1,G,X⟩:=h.wh.wl E b0 c' _ c0 B C (by omega);rw[w3]at q4;refine absurd ((h.le _ _ _ G).le (X.trans ?_)) O;rw[<-W];unfold Le at q4 ⊢;omega
def bE(p:Int×Int):En:=(p.1,0,(none,p.2))
theorem Wh.start{fs:List Int}{bs:List (Int×Int)}(A:∀a b,(a,b)∈bs->0<=a/\a<m)(h0:(0,0)∈bs)(y:(bs.map (·.1)).Nodup):Wh m ws fs bs 0 (bs.map (·.1)) (bs.map bE):=by
 have B:(bs.map bE).map (·.1)=bs.map (·.1):=by rw[map_map];rfl
 have un:∀{p l o},(p,l,o)∈bs.map bE->l=0/\o.1=none/\(p,o.2)∈bs:=fun{p l o}z=>by obtain⟨⟨a,b⟩,h1,e⟩:=mem_map.mp z;cases e;exact⟨rfl,rfl,h1⟩
 have to:∀{a b},(a,b)∈bs->(a,0,(none,b))∈bs.map bE:=fun h=>mem_map.mpr ⟨_,h,rfl⟩;refine⟨⟨by rw[B];exact y,fun p l o z=>A _ _ (un z).2.2,to h0,fun p l o z=>?_,fun p l o z=>.inl ⟨(un z).2.1,(un z).2.2,(un z).1⟩⟩,fun p t=>?_,y,fun a b c p u t _ hc=>?_,fun l o s v _ C z=>?_,fun h=>by omega⟩;.exact⟨p,o.2,[],(un z).2.2,rfl,fun s hs=>(by cases hs),(un z).1.symm,by rw[bM];omega⟩
 .obtain⟨⟨a,b⟩,h1,rfl⟩:=mem_map.mp t;exact⟨_,_,to h1⟩
 .cases c with|nil=>have:a=p:=t;subst this;exact⟨0,(none,b),to u,by unfold Le bM;simp⟩|cons _ _=>simp at hc
 .exact absurd (mem_map.mpr ⟨_,(un z).2.2,rfl⟩) C
theorem Wh.to{fs:List Int}{bs:List (Int×Int)}{R:List Int}(h:Wh m ws fs bs n R es):In m ws fs bs n R es (fun _=>False) es []:=⟨h,h.cm,fun p l o z=>⟨l,o,z,.refl⟩,fun p l o _ z=>z,fun p e=>(by cases e),.nil,fun s hs=>hs.elim,fun _=>rfl⟩
theorem In.out'{fs:List Int}{bs:List (Int×Int)}{R:List Int}(h:In m ws fs bs n R uv (fun s=>∃p∈R,jY ws fs p s=true) es ch):Wh m ws fs bs (n+1) ch es:=by
 have t:∀{p h' k},At uv p h' k->At es p h' k:=fun⟨l,o,A,B⟩=>(h.le _ _ _ A).le B;have G:∀(s:aC)v l o,ws[s.1]?=some v->(frm v s.2,l,o)∈uv->jY ws fs (frm v s.2) s=true->At es (too v s.2) (o.2+hsp v s.2) (l+1):=fun s v l o e z ho=>by
  by_cases c:frm v s.2∈R;.exact h.dn s ⟨_,c,ho⟩ v e l o z
  .exact t (h.wh.cl l o s v e c z ho)
 refine⟨h.cm,h.chg,h.nc,fun a b c p y H ho hc=>?_,fun l o s v e hc z hs=>G s v l o e (h.out _ _ _ hc z) hs,fun O=>h.few (by omega)⟩;rcases List.eq_nil_or_concat c with rfl|⟨C,s,rfl⟩;.exact t (h.wh.wl a b [] p y H ho (vf))
 . rw[List.concat_eq_append]at*;obtain⟨q,h1,v,e,rfl,E⟩:=By H;have E:too v s.2=p:=E;subst E;obtain⟨U,I,J⟩:=ho s (by simp);rw[e]at I;cases I;simp only[length_append,length_cons,length_nil]at hc;obtain⟨l,o,A,B⟩:=h.wh.wl a b C _ y h1 (fun u L=>ho u (by simp[L])) (by omega);refine(G s v l o e A J).le ?_;have:=B.add (hsp v s.2);have M:bM ws (C++[s])=bM ws C+hsp v s.2:=by rw[j5,bM,bM,ie e];omega
   rw[M,<-Int.add_assoc];simpa using this
structure yd(m:Int)(ws:List Wy)(fs:List Int)(bs:List (Int×Int))(es:List En):Prop where
 cm:Ez m ws fs bs es
 cl:∀l o(s:aC)v,ws[s.1]?=some v->(frm v s.2,l,o)∈es->jY ws fs (frm v s.2) s=true->At es (too v s.2) (o.2+hsp v s.2) (l+1)bg:∀a b,(a,b)∈bs->At es a b 0
theorem Wh.fin{fs:List Int}{bs:List (Int×Int)}(h:Wh m ws fs bs n [] es):yd m ws fs bs es:=⟨h.cm,fun l o s v e z ho=>h.cl l o s v e (by simp) z ho,fun a b t=>by have:=h.wl a b [] a t rfl (fun s hs=>by cases hs) (vf);simpa[bM]using this⟩
abbrev Cme(m:Int)(ws:List Wy)(fs:List Int)(es:List En):Prop:=Ez m ws fs [(0,0)] es
abbrev iT(m:Int)(ws:List Wy)(fs:List Int)(es:List En):Prop:=yd m ws fs [(0,0)] es
theorem In.imp{fs:List Int}{bs:List (Int×Int)}{R:List Int}{K e:aC->Prop}(h:In m ws fs bs n R uv K es ch)(z:∀s,e s->K s):In m ws fs bs n R uv e es ch:=⟨h.wh,h.cm,h.le,h.out,h.chg,h.nc,fun s hs=>h.dn s (z s hs),h.few⟩
theorem RN{fs:List Int}{l:List aC}(e:0<=p/\p<m):at' ((rD (jl ws fs m.toNat l)).map D.lst) p=some (.lst ((l.filter (jY ws fs p)).map sD)):=by rw[yJ e.1 (by simp[rD,jl];omega)];simp[rD,jl,show p.toNat<m.toNat by omega,Int.toNat_of_nonneg e.1]
@[simp]theorem cut3{a b c:D}:Mx (.tup [a,b,c]) (part (.con .non) .non) (part (.con (.int 2)) (.int 2))=some (.val (.tup [a,b])):=rfl
theorem Tw{j:Int}:cm .lt (.tup [.int a,.int i]) (.tup [.int b,.int j])=some (bH [a,i] [b,j]):=rfl
theorem lex_lt{i:Nat}:bH [a,(i:Int)] [b,(j:Int)]=true↔¬ Le b j a i:=by unfold Le;simp[bH];omega
def vU(bs:List (Int×Int)):Sl:=.val false (.dv (bs.map (·.1)) (bs.map fun p=>.int p.2))
abbrev bg:Sl:=vU [(0,0)]
inductive JC2(m:Int)(ws:List Wy)(fs:List Int)(bs:List (Int×Int))(a0 a1 a2 a3 a6:Sl)(n:Nat)(R:List Int)(uv:List En)(pre:List Int)(p:Int)(r:List D)(ρ:List Sl):Prop where|mk(es:List En)(ch:List Int)(bZ us:List aC)(s8 s9 nJ:Sl)(q0:ρ=[a0,a1,a2,a3,.cF (es.map en),.val false (.int p),a6,.cF (ch.map zL),s8,s9,nJ])(q1:A3 (fr s8=true) (fr s9=true) (fr nJ=true))(q2:r=us.map sD)(q3:bZ++us=(ik ws.length).filter (jY ws fs p))(q4:In m ws fs bs n R uv (fun s=>(∃q∈pre,jY ws fs q s=true)\/s∈bZ) es ch)
inductive JC1(m:Int)(ws:List Wy)(fs:List Int)(bs:List (Int×Int))(a0 a1 a2 a3 a6:Sl)(n:Nat)(R:List Int)(uv:List En)(r:List D)(ρ:List Sl):Prop where|mk(es:List En)(ch pre qs:List Int)(s5 s8 s9 nJ:Sl)(q0:ρ=[a0,a1,a2,a3,.cF (es.map en),s5,a6,.cF (ch.map zL),s8,s9,nJ])(q1:A4 (fr s5=true) (fr s8=true) (fr s9=true) (fr nJ=true))(q2:r=qs.map D.int)(q3:pre++qs=R)(q4:In m ws fs bs n R uv (fun s=>∃q∈pre,jY ws fs q s=true) es ch)
inductive JCw(m:Int)(ws:List Wy)(fs:List Int)(bs:List (Int×Int))(a0 a1 a2 a3:Sl)(M:Nat)(ρ:List Sl):Prop where|mk(n:Nat)(R:List Int)(es:List En)(s5 s7 s8 s9 nJ:Sl)(q0:ρ=[a0,a1,a2,a3,.cF (es.map en),s5,.own false (R.map D.int),s7,s8,s9,nJ])(q1:A4 (fr s5=true) (fr s8=true) (fr s9=true) (fr nJ=true))(q2:(s7=.aQ\/∃d,s7=.val false d))(q3:Wh m ws fs bs n R es)(q4:7<=n+M)
inductive JC0(a0 a1 a2 a3:Sl)(bs:List (Int×Int))(r:List D)(ρ:List Sl):Prop where|mk(bZ us:List (Int×Int))(s5:Sl)(q0:ρ=[a0,a1,a2,a3,.cF ((bZ.map bE).map en),s5,.aQ,.aQ,.aQ,.aQ,.aQ])(q1:fr s5=true)(q2:r=(us.map (·.1)).map D.int)(q3:bZ++us=bs)
theorem Cz{a b:Int}:∀{bs:List (Int×Int)},(bs.map (·.1)).Nodup->(a,b)∈bs->lM ((bs.map (·.1)).zip (bs.map fun p=>D.int p.2)) a=some (.int b)
 |[],_,h=>by cases h|p::bs,e,h=>by
   rw[map_cons,nodup_cons]at e;unfold lM;rw[map_cons,map_cons,List.zip_cons_cons,find?_cons];rcases mem_cons.mp h with h|h;.subst h;simp
   .have t:p.1≠a:=fun z=>e.1 (by rw[z];exact mem_map.mpr ⟨_,h,rfl⟩);have:=Cz e.2 h;unfold lM at this;simpa[t]using this
theorem tE{s:Sl}{fs:List Int}{bs:List (Int×Int)}(hw:100<=w)(hF:Pt ws fs F)(hb:∀a b,(a,b)∈bs->0<=a/\a<m)(h0:(0,0)∈bs)(J:(bs.map (·.1)).Nodup)(hZ:∀a b c,(a,b)∈bs->ir ws 0 c a->sE ws fs c->0<=b+bM ws c)(hs:Q6 s fs)(h:HN m ws)(hf:fs.length=ws.length)(k:∀es,yd m ws fs bs es->Q (.val (jy es)) [.val false (aN m ws),s,vU bs]):(run Γ w (n+3) 5 [.val false (aN m ws),s,vU bs]).sat Q:=by
 have hn:=h.len;have m0:=h.m0;have m1:=h.m1;refine aJ (d:=f5) rfl rfl (by decide) ?_;refine bK (fun ρ=>ρ=[.val false (aN m ws),s,vU bs,.val false (.lst ((rD (jl ws fs m.toNat (ik ws.length))).map D.lst)),.aQ,.aQ,.aQ,.aQ,.aQ,.aQ,.aQ]) ?_ ?_;.have ax:=hs;rcases hs with rfl|⟨b,rfl⟩;all_goals simp[f5,vU];refine Js (by first|exact .inl rfl|exact .inr ⟨_,rfl⟩) h hf ?_;simp
 rintro _ rfl;generalize hA:((rD (jl ws fs m.toNat (ik ws.length))).map D.lst)=A;have ay:bs.length<=6:=by
  have:=six m1 J fun p hp=>by obtain⟨⟨a,b⟩,h1,rfl⟩:=mem_map.mp hp;exact hb a b h1
  simpa using this
 apply ak;simp;apply ak;simp[vU];refine cU (JC0 (.val false (aN m ws)) s (vU bs) (.val false (.lst A)) bs) ?_ ?_ ⟨[],bs,.aQ,rfl,rfl,by rw[map_map],rfl⟩;.rintro d r _⟨G,C,s5,rfl,U,hr,hd⟩;cases C with|nil=>cases hr|cons u C=>
     obtain⟨rfl,rfl⟩:d=.int u.1/\r=(C.map (·.1)).map D.int:=by simpa using hr
     have al:(G++[u])++C=bs:=by rw[append_assoc];exact hd
     have hg:=Cz (a:=u.1) (b:=u.2) J (by rw[<-hd];simp);have hk:o5 ((G.map bE).map en) u.1=false:=kin_no fun⟨l,o,z⟩=>by obtain⟨⟨a,b⟩,h1,e⟩:=mem_map.mp z;cases e;rw[<-hd,map_append,nodup_append]at J;exact J.2.2 u.1 (mem_map.mpr ⟨_,h1,rfl⟩) u.1 (by simp) rfl
     have hp:fX ((G.map bE).map en) u.1 (.tup [.int u.2,.int 0,.non])=((G++[u]).map bE).map en:=by rw[lY hk,map_append,map_append];rfl
     have aE:G.length<=bs.length:=by rw[<-hd];simp
     simp[U];apply ak;rw[map_map]at hp;simp[vU,hg];refine⟨fun _=>⟨G++[u],C,.val false (.int u.1),by rw[hp],rfl,(map_map ..).symm,al⟩,by show _<16777216;omega⟩
 rintro _⟨G,C,s5,rfl,U,hr,hd⟩;have:C=[]:=by cases C with|nil=>rfl|cons _ _=>cases hr
 subst this;rw[append_nil]at hd;obtain rfl:bs=G:=hd.symm;simp;apply ak;simp[vU,show bs.length<=16777216 by omega];apply ak;simp;rw[show map (en ∘ bE) bs=(bs.map bE).map en from(map_map ..).symm,show map (D.int ∘ fun x=>x.1) bs=(bs.map (·.1)).map D.int from(map_map ..).symm];refine jH (JCw m ws fs bs _ _ _ _) ?_ (k:=w) (m:=50) (by omega) ⟨0,bs.map (·.1),bs.map bE,s5,.aQ,.aQ,.aQ,.aQ,rfl,⟨U,rfl,rfl,rfl⟩,.inl rfl,Wh.start hb h0 J,by omega⟩;rintro M _⟨n',R,es,s5,s7,s8,s9,nJ,rfl,⟨U,W,X,E⟩,h7,hW,hM⟩;by_cases hR:R=[];.subst hR;simp;apply ak;simp;have:=k es hW.fin;simp[Function.comp_def,en];exact this
 . have am:0<R.length:=by cases R with|nil=>exact absurd rfl hR|cons _ _=>simp
   simp[am];refine bK (fun ρ=>ρ=[.val false (aN m ws),s,vU bs,.val false (.lst A),.cF (es.map en),s5,.own false (R.map D.int),.cF [],s8,s9,nJ]) ?_ ?_
   . rcases h7 with rfl|⟨d,rfl⟩;.simp[vU]
     .simp[vU]
   rintro _ rfl;symm;simp;refine cU (JC1 m ws fs bs _ _ _ _ _ n' R es) ?_ ?_ ⟨es,[],[],R,s5,s8,s9,nJ,rfl,⟨U,W,X,E⟩,rfl,rfl,hW.to.imp fun s hs=>by obtain⟨q,hq,_⟩:=hs;cases hq⟩;.rintro d r _⟨t,ch,pre,qs,s5,s8,s9,nJ,rfl,⟨U,W,X,E⟩,hr,L,B⟩;cases qs with|nil=>cases hr|cons p qs=>
       obtain⟨rfl,rfl⟩:d=.int p/\r=qs.map D.int:=by simpa using hr
       have af:p∈R:=by rw[<-L];simp
       have ap:0<=p/\p<m:=by obtain⟨l,o,ho⟩:=B.row af;exact B.cm.inm _ _ _ ho
       have Z:=RN (ws:=ws) (fs:=fs) (l:=ik ws.length) ap;rw[hA]at Z;simp[U];apply ak;simp[Z];refine cU (JC2 m ws fs bs _ _ _ _ _ n' R es pre p) ?_ ?_ ⟨t,ch,[],_,s8,s9,nJ,rfl,⟨W,X,E⟩,rfl,rfl,B.imp fun s hs=>by rcases hs with hs|hs;exact hs;cases hs⟩;.rintro d r _⟨t,ch,G,C,s8,s9,nJ,rfl,⟨W,X,E⟩,hr,O,B⟩;cases C with|nil=>cases hr|cons u C=>
           obtain⟨rfl,rfl⟩:d=sD u/\r=C.map sD:=by simpa using hr
           have hu:jY ws fs p u=true:=by
            have:u∈(ik ws.length).filter (jY ws fs p):=by rw[<-O];simp
            exact(mem_filter.mp this).2
           obtain⟨v,g,e1,e2,e3,e4⟩:=qT hu;have ag:(G++[u])++C=(ik ws.length).filter (jY ws fs p):=by rw[append_assoc];exact O
           obtain⟨I,op,ac⟩:=B.row af;subst e3;have gp:=pM B.cm.nd ac;have aw:=B.cm.len m1;have ar:ch.length<=6:=six m1 B.nc fun q hq=>by obtain⟨l,o,z⟩:=B.chg q hq;exact B.cm.inm _ _ _ z
           have ah:∀s,((∃q∈pre,jY ws fs q s=true)\/s∈G++[u])->((∃q∈pre,jY ws fs q s=true)\/s∈G)\/s=u:=fun s hs=>by
            rcases hs with hs|hs;.exact .inl (.inl hs)
            . rcases mem_append.mp hs with hs|hs;.exact .inl (.inr hs)
              .exact .inr (by simpa using hs)
           simp[W];apply ak;simp[sD];refine lH e1 ?_;simp[X];apply ak;simp[gp,zG];refine ud e1 ?_;simp[gp,zG,E];apply ak;have keep:At t (too v u.2) (op.2+hsp v u.2) (I+1)->JC2 m ws fs bs (.val false (aN m ws)) s (vU bs) (.val false (.lst A)) (.lent (R.map D.int)) n' R es pre (frm v u.2) (C.map sD) [.val false (aN m ws),s,vU bs,.val false (.lst A),.cF (t.map en),.val false (.int (frm v u.2)),.lent (R.map D.int),.cF (ch.map zL),.val false (fO u.1 u.2),.val false (.int (too v u.2)),.val false (.tup [.int (op.2+hsp v u.2),.int ((I:Int)+1)])]:=fun H=>⟨t,ch,G++[u],C,_,_,_,rfl,⟨rfl,rfl,rfl⟩,rfl,ag,(B.keep e1 ac H).imp ah⟩;have ai:¬ At t (too v u.2) (op.2+hsp v u.2) (I+1)->JC2 m ws fs bs (.val false (aN m ws)) s (vU bs) (.val false (.lst A)) (.lent (R.map D.int)) n' R es pre (frm v u.2) (C.map sD) [.val false (aN m ws),s,vU bs,.val false (.lst A),.cF ((o7 t (too v u.2) (I+1,(some u,op.2+hsp v u.2))).map en),.val false (.int (frm v u.2)),.lent (R.map D.int),.cF ((rK ch (too v u.2)).map zL),.val false (fO u.1 u.2),.val false (.int (too v u.2)),.val false (.tup [.int (op.2+hsp v u.2),.int ((I:Int)+1)])]:=fun H=>⟨_,_,G++[u],C,_,_,_,rfl,⟨rfl,rfl,rfl⟩,rfl,ag,(B.put h hF hb hZ e1 ac hu H).imp ah⟩;have p1:fX (t.map en) (too v u.2) (.tup [.int (op.2+hsp v u.2),.int ((I:Int)+1),fO u.1 u.2])=(o7 t (too v u.2) (I+1,(some u,op.2+hsp v u.2))).map en:=by rw[<-Ls];simp[zG,oS,sD]
           have p2:fX (ch.map zL) (too v u.2) (.bl true)=(rK ch (too v u.2)).map zL:=MK;by_cases hq:∃l o,(too v u.2,l,o)∈t
           . obtain⟨l,o,Y⟩:=hq;have gt:=pM B.cm.nd Y;have kt:o5 (t.map en) (too v u.2)=true:=zF.mpr ⟨l,o,Y⟩;have ae:=lex_lt (a:=op.2+hsp v u.2) (i:=I+1) (b:=o.2) (j:=l);rw[show((I+1:Nat):Int)=(I:Int)+1 by omega]at ae;simp[kt,gt,zG,Tw];refine⟨fun z=>?_,fun z=>?_⟩
             . have H:¬ At t (too v u.2) (op.2+hsp v u.2) (I+1):=fun⟨l2,o2,y1,y2⟩=>by obtain⟨rfl,rfl⟩:=jJ B.cm.nd Y y1;exact ae.mp z y2
               symm;simp[p1];refine⟨by decide,fun _=>?_,by show _<16777216;omega⟩;symm;simp[p2];refine⟨fun _=>ai H,by show _<16777216;omega⟩
             . have H:At t (too v u.2) (op.2+hsp v u.2) (I+1):=by
                refine⟨l,o,Y,?_⟩;by_cases y:Le o.2 l (op.2+hsp v u.2) (I+1);.exact y
                .rw[ae.mpr y]at z;cases z
               exact keep H
           .have kt:o5 (t.map en) (too v u.2)=false:=kin_no hq;simp[kt];apply ak;simp[p1];refine⟨by decide,fun _=>?_,by show _<16777216;omega⟩;symm;simp[p2];exact⟨fun _=>ai fun⟨l2,o2,y1,_⟩=>hq ⟨l2,o2,y1⟩,by show _<16777216;omega⟩
       . rintro _⟨t,ch,G,C,s8,s9,nJ,rfl,⟨W,X,E⟩,hr,O,B⟩;have:C=[]:=by cases C with|nil=>rfl|cons _ _=>cases hr
         subst this;rw[append_nil]at O;simp;refine⟨t,ch,pre++[p],qs,_,_,_,_,rfl,⟨rfl,W,X,E⟩,rfl,by rw[append_assoc];exact L,B.imp fun s hs=>?_⟩;obtain⟨q,hq,hs⟩:=hs;rcases mem_append.mp hq with hq|hq;.exact .inl ⟨q,hq,hs⟩
         . obtain rfl:q=p:=by simpa using hq
           refine .inr ?_;rw[O];obtain⟨v,g,e1,_⟩:=qT hs;exact mem_filter.mpr ⟨wG (dB e1).1,hs⟩
   . rintro _⟨t,ch,pre,qs,s5,s8,s9,nJ,rfl,⟨U,W,X,E⟩,hr,L,B⟩;have:qs=[]:=by cases qs with|nil=>rfl|cons _ _=>cases hr
     subst this;rw[append_nil]at L;subst L;have ar:ch.length<=6:=six m1 B.nc fun q hq=>by obtain⟨l,o,z⟩:=B.chg q hq;exact B.cm.inm _ _ _ z
     have hO:=B.out';have aI:n'<6:=by
      by_cases c:6<=n';.exact absurd (hW.few c) hR
      .omega
     simp;apply ak;simp[show ch.length<=16777216 by omega];exact⟨M-1,by omega,n'+1,ch,t,_,_,_,_,_,rfl,⟨U,W,X,E⟩,.inr ⟨_,rfl⟩,hO,by omega⟩
theorem wL{s:Sl}{fs:List Int}(u:100<=w)(t:Pt ws fs F)(hs:Q6 s fs)(h:HN m ws)(y:fs.length=ws.length)(k:∀es,iT m ws fs es->Q (.val (jy es)) [.val false (aN m ws),s,bg]):(run Γ w (n+3) 5 [.val false (aN m ws),s,bg]).sat Q:=by
 have m0:=h.m0;have one:∀{a b:Int},(a,b)∈[((0:Int),(0:Int))]->a=0/\b=0:=fun e=>by have:=mem_singleton.mp e;cases this;exact⟨rfl,rfl⟩
 refine tE u t (fun a b e=>by obtain⟨rfl,rfl⟩:=one e;omega) (by simp) (by simp) (fun a b c e z ho=>?_) hs h y k;obtain⟨rfl,rfl⟩:=one e;have:=lE t z ho;omega
theorem iT.all{m:Int}{ws:List Wy}{fs:List Int}{es:List En}(h:iT m ws fs es){b:Int}:∀{c:List aC}{a:Int}{l:Nat}{o:Option aC×Int},ir ws b c a->sE ws fs c->(a,l,o)∈es->At es b (o.2+bM ws c) (l+c.length)|[],a,l,o,t,_,z=>by have:a=b:=t;subst this;exact⟨l,o,z,by unfold Le bM;simp⟩|s::c,a,l,o,⟨v,e,A,t⟩,ho,z=>by subst A;obtain⟨J,y,B⟩:=ho s (by simp);rw[e]at y;cases y;obtain⟨L,M,C,O⟩:=h.cl l o s v e z B;obtain⟨l2,E,G,H⟩:=iT.all h t (fun u I=>ho u (mem_cons_of_mem _ I)) C;refine⟨l2,E,G,H.trans ?_⟩;rw[bM,ie e,length_cons];unfold Le at*;omega
theorem iT.l5{fs:List Int}(h:iT m ws fs es)(t:HN m ws)(u:Pt ws fs F)(z:(p,l,o)∈es):l<=5:=by
 have m0:=t.m0;obtain⟨a,b,c,e,c1,c2,c3,c4⟩:=h.cm.wk p l o z;obtain⟨rfl,rfl⟩:a=0/\b=0:=by have:=mem_singleton.mp e;cases this;exact⟨rfl,rfl⟩
 obtain⟨G,y,A,H,B,_⟩:=short t u ⟨by omega,by omega⟩ _ (dz) c1 c2;obtain⟨l2,I,C,E⟩:=h.all y A h.cm.z;obtain⟨rfl,rfl⟩:=jJ h.cm.nd z C;rw[Int.zero_add]at c4;rw[c3,c4]at B;unfold Le at*;simp only at E;omega
theorem iT.on{fs:List Int}(h:iT m ws fs es)(z:(p,l,o)∈es):(o=(none,0)/\p=0/\l=0)\/∃(s:aC)(v:Wy)(t:Nat)(e:Option aC×Int),o=(some s,e.2+hsp v s.2)/\l=t+1/\ws[s.1]?=some v/\too v s.2=p/\jY ws fs (frm v s.2) s=true/\(frm v s.2,t,e)∈es:=by
 rcases h.cm.stp p l o z with⟨h1,u,rfl⟩|⟨s,v,t,e,h1,y,rfl,A,B,E⟩
 . obtain⟨rfl,_⟩:p=0/\o.2=0:=by have:=mem_singleton.mp u;exact⟨congrArg Prod.fst this,congrArg Prod.snd this⟩
   exact .inl ⟨(jJ h.cm.nd z h.cm.z).2,rfl,rfl⟩
 . obtain⟨l2,G,C,H⟩:=h.cl t e s v y B A;obtain⟨rfl,rfl⟩:=jJ h.cm.nd z C;refine .inr ⟨s,v,t,e,?_,?_,y,rfl,A,B⟩;.exact Prod.ext_iff.mpr ⟨h1,by show _=e.2+hsp v s.2;unfold Le at*;omega⟩
   .unfold Le at*;omega
structure Qc(ws:List Wy)(fs:List Int)(es:List En)(p:Int)(L:Nat)(H:Int)(a:Int)(l:Nat)(h:Int)(c:List aC):Prop where
 J8:ir ws p c a
 jl:sE ws fs c
 nd:(c.map (·.1)).Nodup
 lv:∀s∈c,∀v,ws[s.1]?=some v->∃l1 o1 o2,(frm v s.2,l1,o1)∈es/\(too v s.2,l1+1,o2)∈es/\l<=l1
 len:c.length+l=L
 hrs:bM ws c+h=H
theorem kO{g:Bool}(h:g≠f):frm v g=too v f/\too v g=frm v f:=by cases f<;>cases g<;>first|exact absurd rfl h|exact⟨rfl,rfl⟩
theorem Qc.cons{m:Int}{ws:List Wy}{fs:List Int}{es:List En}{p:Int}{L l:Nat}{H x:Int}{c:List aC}{s:aC}{v:Wy}{o I:Option aC×Int}(hc:Cme m ws fs es)(h:Qc ws fs es p L H (too v s.2) (l+1) (x+hsp v s.2) c)(e:ws[s.1]?=some v)(h1:(too v s.2,l+1,o)∈es)(B:(frm v s.2,l,I)∈es)(ho:jY ws fs (frm v s.2) s=true):Qc ws fs es p L H (frm v s.2) l x (s::c):=by
 refine⟨⟨v,e,rfl,h.J8⟩,fun u hu=>?_,?_,fun u hu x ex=>?_,by have:=h.len;simp only[length_cons];omega,by have:=h.hrs;rw[bM,ie e];omega⟩
 . rcases mem_cons.mp hu with rfl|hu;.exact⟨v,e,ho⟩
   .exact h.jl u hu
 . rw[map_cons,nodup_cons];refine⟨fun J=>?_,h.nd⟩;obtain⟨t,ht,M⟩:=mem_map.mp J;obtain⟨C,E,G,y,A,O⟩:=h.lv t ht v (by rw[M];exact e);by_cases z:t.2=s.2;.rw[z]at y;have:=(jJ hc.nd y B).1;omega
   .rw[(kO z).2]at A;have:=(jJ hc.nd A B).1;omega
 . rcases mem_cons.mp hu with rfl|hu;.rw[e]at ex;cases ex;exact⟨l,_,_,B,h1,dz⟩
   .obtain⟨C,E,G,y,A,O⟩:=h.lv u hu x ex;exact⟨C,E,G,y,A,by omega⟩
theorem xY(e:(es.map (·.1)).Nodup)(h:(p,x)∈es):lM ((es.map (·.1)).zip (es.map zG)) p=some (zG (p,x)):=by
 have:(es.map (·.1)).zip (es.map zG)=es.map en:=by rw[List.zip_map'];rfl
 rw[this];exact pM e h
inductive JSt(m:Int)(ws:List Wy)(fs:List Int)(es:List En)(p:Int)(L:Nat)(H:Int)(a0 a1 a2:Sl)(M:Nat)(ρ:List Sl):Prop where|mk(a:Int)(l:Nat)(o:Option aC×Int)(c:List aC)(s5:Sl)(q0:ρ=[a0,a1,a2,.own false (c.reverse.map sD),.val false (.int a),s5])(q1:fr s5=true)(q2:(a,l,o)∈es)(q3:Qc ws fs es p L H a l o.2 c)(q4:l<=M)
theorem Eo{L:Nat}{fs:List Int}(G:100<=w)(h:iT m ws fs es)(H:L<=5)(B:(p,L,o)∈es)(k:∀c,Qc ws fs es p L o.2 0 0 0 c->Q (.val (.tup (c.map sD))) [.val false (aN m ws),.val false (jy es),.val false (.int p)]):(run Γ w (n+2) 6 [.val false (aN m ws),.val false (jy es),.val false (.int p)]).sat Q:=by
 refine aJ (d:=f6) rfl rfl (by decide) ?_;symm;simp[f6];apply ak;simp;apply ak;simp;refine jH (JSt m ws fs es p L o.2 _ _ _) ?_ (k:=w) (m:=L) (by omega) ⟨p,L,o,[],.aQ,rfl,rfl,B,⟨rfl,fun s hs=>(by cases hs),by simp,by simp,by simp,by rw[bM];omega⟩,dz⟩;rintro M _⟨a,l,I,c,s5,rfl,C,t,hc,J⟩;have u:=xY h.cm.nd t;rcases h.on t with⟨rfl,rfl,rfl⟩|⟨s,v,z,E,rfl,rfl,e,rfl,ho,A⟩;.simp[jy,u,zG,oS];symm;simp;exact k c hc
 . simp[jy,u,zG,oS,sD,fO];symm;simp[u,zG,oS,C];apply ak;have y:c.length<16777216:=by have:=hc.len;omega
   simp[y];apply ak;simp[sD];refine lH e ?_;simp;exact⟨z,by omega,frm v s.2,z,E,s::c,.val false (fO s.1 s.2),by simp[jy,sD],rfl,A,hc.cons h.cm e t A ho,dz⟩
def sg(x:Int)(f:Bool):Int:=if f then x else-x
def jm(x:Int)(fs:List Int)(s:aC):List Int:=fs.set s.1 ((fs[s.1]?.getD 0)+sg x s.2)
def aug(x:Int)(fs:List Int)(c:List aC):List Int:=c.foldl (jm x) fs
@[simp]theorem xF{x:Int}{fs:List Int}{s:aC}:(jm x fs s).length=fs.length:=by simp[jm]
theorem mq{x:Int}:∀{c:List aC}{fs:List Int},(aug x fs c).length=fs.length|[],_=>rfl|s::c,fs=>by show(aug x (jm x fs s) c).length=_;rw[mq,xF]
theorem mG{x:Int}{j:Nat}:∀{c:List aC}{fs:List Int},j∉c.map (·.1)->(aug x fs c)[j]?=fs[j]?|[],_,_=>rfl|s::c,fs,h=>by rw[map_cons,mem_cons,not_or]at h;show(aug x (jm x fs s) c)[j]?=_;rw[mG h.2];unfold jm;rw[getElem?_set_ne (fun z=>h.1 z.symm)]
theorem uC{x:Int}:∀{c:List aC}{fs:List Int}{s:aC}{g:Int},(c.map (·.1)).Nodup->s∈c->fs[s.1]?=some g->(aug x fs c)[s.1]?=some (g+sg x s.2)
 |[],_,_,_,_,h,_=>by cases h|t::c,fs,s,g,u,h,e=>by
   rw[map_cons,nodup_cons]at u;show(aug x (jm x fs t) c)[s.1]?=_;have y:=(dB e).1;rcases mem_cons.mp h with rfl|h;.rw[mG u.1];unfold jm;rw[getElem?_set_self y,e];rfl
   .refine uC u.2 h ?_;unfold jm;rw[getElem?_set_ne (fun z=>u.1 (by rw[z];exact mem_map.mpr ⟨s,h,rfl⟩))];exact e
inductive JWt(x:Int)(fs:List Int)(c:List aC)(a0 a1 a2:Sl)(r:List D)(ρ:List Sl):Prop where|mk(bZ us:List aC)(s4 s5:Sl)(q0:ρ=[a0,a1,a2,.own false ((aug x fs bZ).map D.int),s4,s5])(q1:fr s4=true)(q2:fr s5=true)(q3:r=us.map sD)(q4:bZ++us=c)
theorem wy{s:Sl}{x:Int}{fs:List Int}(hs:Q6 s fs)(hc:∀s∈c,s.1<fs.length)(k:Q (.own ((aug x fs c).map D.int)) [s,.val false (.tup (c.map sD)),.val false (.int x)]):(run Γ w (n+1) 7 [s,.val false (.tup (c.map sD)),.val false (.int x)]).sat Q:=by
 refine aJ (d:=f7) rfl rfl (by decide) ?_;refine bK (fun ρ=>ρ=[s,.val false (.tup (c.map sD)),.val false (.int x),.own false (fs.map D.int),.aQ,.aQ]) ?_ ?_;.rcases hs with rfl|⟨b,rfl⟩;all_goals simp[f7]
 rintro _ rfl;symm;simp;refine cU (JWt x fs c _ _ _) ?_ ?_ ⟨[],c,.aQ,.aQ,rfl,rfl,rfl,rfl,rfl⟩;.rintro d r _⟨e,h,s4,s5,rfl,z,A,hr,hd⟩;cases h with|nil=>cases hr|cons u h=>
     obtain⟨rfl,rfl⟩:d=sD u/\r=h.map sD:=by simpa using hr
     have C:u.1<(aug x fs e).length:=by rw[mq];exact hc u (by rw[<-hd];simp)
     have y:(aug x fs e)[u.1]?=some (aug x fs e)[u.1]:=by simp[C]
     have B:jM (aug x fs e).length (u.1:Int)=some u.1:=by unfold jM;rw[if_pos (by omega),if_pos (by omega)];simp
     have he:aug x fs (e++[u])=(aug x fs e).set u.1 ((aug x fs e)[u.1]+sg x u.2):=by unfold aug;rw[List.foldl_append];show jm x (aug x fs e) u=_;unfold jm;rw[y];rfl
     have t:(e++[u])++h=c:=by rw[append_assoc];exact hd
     generalize(aug x fs e)[u.1]=g at*;simp[sD,fO,z,A];apply ak;obtain⟨j,f⟩:=u;cases f with|true=>simp[dN y,B];exact⟨e++[(j,true)],h,_,_,by rw[he,map_set];rfl,rfl,rfl,rfl,t⟩|false=>simp[dN y,B];exact⟨e++[(j,false)],h,_,_,by rw[he,map_set];rfl,rfl,rfl,rfl,t⟩
 . rintro _⟨e,h,s4,s5,rfl,z,A,hr,hd⟩;have:h=[]:=by cases h with|nil=>rfl|cons _ _=>cases hr
   subst this;rw[append_nil]at hd;subst hd;simp;apply ak;simp;exact k
def Ek(F:Int->Int)(D:Int):List En->Int->Int|[],p=>F p+D|e::es,p=>if e.1=p then e.2.2.2 else Ek F D es p
theorem ig{F:Int->Int}{D p:Int}{l:Nat}{o:Option aC×Int}:∀{es:List En},(es.map (·.1)).Nodup->(p,l,o)∈es->Ek F D es p=o.2
 |[],_,h=>by cases h|e::es,t,h=>by
   rw[map_cons,nodup_cons]at t;rw[Ek];rcases mem_cons.mp h with rfl|h;.rw[if_pos rfl]
   .rw[if_neg (fun z=>t.1 (by rw[z];exact mem_map.mpr ⟨_,h,rfl⟩))];exact ig t.2 h
theorem pK{F:Int->Int}{D p:Int}:∀{es:List En},(¬ ∃l o,(p,l,o)∈es)->Ek F D es p=F p+D|[],_=>rfl|e::es,h=>by rw[Ek,if_neg (fun z=>h ⟨e.2.1,e.2.2,by rw[<-z];simp⟩)];exact pK fun⟨l,o,z⟩=>h ⟨l,o,mem_cons_of_mem _ z⟩
theorem Cg(F:Int->Int):∀(es:List En),∃D,∀p l o,(p,l,o)∈es->o.2<=F p+D
 |[]=>⟨0,fun _ _ _ h=>by cases h⟩|e::es=>by
   obtain⟨D,h⟩:=Cg F es;refine⟨max D (e.2.2.2-F e.1),fun p l o z=>?_⟩;rcases mem_cons.mp z with rfl|z;.simp only;omega
   .have:=h p l o z;omega
theorem iT.pt{fs:List Int}{D:Int}(h:iT m ws fs es)(t:Pt ws fs F)(u:∀p l o,(p,l,o)∈es->o.2<=F p+D):Pt ws fs (Ek F D es):=fun s v e ho=>by
 by_cases c:∃l o,(frm v s.2,l,o)∈es;.obtain⟨l,o,c⟩:=c;obtain⟨l2,y,c2,c3⟩:=h.cl l o s v e c ho;rw[ig h.cm.nd c,ig h.cm.nd c2];unfold Le at c3;omega
 . rw[pK c];have h1:=t s v e ho;by_cases c2:∃l o,(too v s.2,l,o)∈es;.obtain⟨l2,y,c2⟩:=c2;rw[ig h.cm.nd c2];have:=u _ _ _ c2;omega
   .rw[pK c2];omega
theorem Gu{fs:List Int}{G:Int->Int}(d:Int)(h:Pt ws fs F)(t:Pt ws fs G):Pt ws fs (fun p=>min (F p) (G p+d)):=fun s v e ho=>by have h1:=h s v e ho;have u:=t s v e ho;simp only;omega
theorem tH{ws:List Wy}{fs:List Int}{F:Int->Int}(h:Pt ws fs F){b:Int}:∀{c:List aC}{a:Int},ir ws b c a->sE ws fs c->F b=F a+bM ws c->∀s∈c,∀v,ws[s.1]?=some v->F (too v s.2)=F (frm v s.2)+hsp v s.2
 |[],_,_,_,_,s,hs,_,_=>by cases hs|s::c,a,⟨v,e,y,z⟩,ho,he,u,hu,x,ex=>by
   have t:sE ws fs c:=fun u hu=>ho u (mem_cons_of_mem _ hu);have h1:=lE h z t;obtain⟨C,A,o⟩:=ho s (by simp);rw[e]at A;cases A;have B:=h s v e o;rw[y]at B;rw[bM,ie e]at he;rcases mem_cons.mp hu with rfl|hu;.rw[e]at ex;cases ex;rw[y];omega
   .exact tH h z t (by omega) u hu x ex
theorem qN{fs:List Int}{x:Int}{t:aC}(hc:sE ws fs c)(e:ws[t.1]?=some v)(h:jY ws (aug x fs c) (frm v t.2) t=true):jY ws fs (frm v t.2) t=true\/∃s∈c,s.1=t.1/\t.2≠s.2:=by
 by_cases z:t.1∈c.map (·.1)
 . obtain⟨s,hs,es⟩:=mem_map.mp z;by_cases q:t.2=s.2;.have:t=s:=Prod.ext_iff.mpr ⟨es.symm,q⟩;subst this;obtain⟨y,u,o⟩:=hc t hs;rw[e]at u;cases u;exact .inl o
   .exact .inr ⟨s,hs,es,q⟩
 .refine .inl ?_;unfold jY at h ⊢;rwa[mG z]at h
theorem Pt.aug{ws:List Wy}{fs:List Int}{F:Int->Int}(h:Pt ws fs F){a b x:Int}{c:List aC}(y:ir ws b c a)(ho:sE ws fs c)(he:F b=F a+bM ws c):Pt ws (aug x fs c) F:=fun t v e o=>by
 rcases qN ho e o with o|⟨u,z,A,ne⟩;.exact h t v e o
 . have:=tH h y ho he u z v (by rw[A];exact e);rw[(kO ne).1,(kO ne).2];have:hsp v t.2=-hsp v u.2:=by cases h1:t.2<;>cases h2:u.2<;>simp[hsp]<;>(rw[h1,h2]at ne;exact absurd rfl ne)
   omega
def eX(G:Wy->Int):List Wy->List Int->Int|v::ws,g::fs=>G v*g+eX G ws fs|_,_=>0
def nR(H:Wy->Int):List Wy->Int|[]=>0|v::ws=>H v+nR H ws
theorem zp{G H:Wy->Int}:∀{ws:List Wy}{fs:List Int},fs.length=ws.length->(∀(j:Nat)v g,ws[j]?=some v->fs[j]?=some g->G v*g<=H v)->eX G ws fs<=nR H ws|[],[],_,_=>Int.le_refl _|[],_::_,h,_=>by simp at h|_::_,[],h,_=>by simp at h|v::ws,g::fs,h,k=>by have h1:=k 0 v g rfl rfl;have u:=zp (G:=G) (H:=H) (ws:=ws) (fs:=fs) (by simpa using h) fun j v g e t=>k (j+1) v g (by simpa using e) (by simpa using t);rw[eX,nR];omega
theorem Io{G H:Wy->Int}:∀{ws:List Wy}{fs:List Int},fs.length=ws.length->(∀(j:Nat)v g,ws[j]?=some v->fs[j]?=some g->H v<=G v*g)->nR H ws<=eX G ws fs|[],[],_,_=>Int.le_refl _|[],_::_,h,_=>by simp at h|_::_,[],h,_=>by simp at h|v::ws,g::fs,h,k=>by have h1:=k 0 v g rfl rfl;have u:=Io (G:=G) (H:=H) (ws:=ws) (fs:=fs) (by simpa using h) fun j v g e t=>k (j+1) v g (by simpa using e) (by simpa using t);rw[eX,nR];omega
theorem Bj{G:Wy->Int}{v:Wy}{g y:Int}:∀{j:Nat}{ws:List Wy}{fs:List Int},ws[j]?=some v->fs[j]?=some g->eX G ws (fs.set j (g+y))=eX G ws fs+G v*y|_,[],_,e,_=>by simp at e|_,_::_,[],_,e=>by simp at e|0,u::ws,f::fs,h,t=>by simp at h t;subst h t;rw[List.set_cons_zero,eX,eX,mul_add];omega|j+1,u::ws,f::fs,h,t=>by rw[List.set_cons_succ,eX,eX,Bj (j:=j) (by simpa using h) (by simpa using t)];omega
def gap(k:Int)(q:Int->Int)(v:Wy):Int:=q v.t-q v.s-k*v.h
theorem Jp{x:Int}:gap k q v*sg x f=x*(q (too v f)-q (frm v f)-k*hsp v f):=by cases f with|true=>show(q v.t-q v.s-k*v.h)*x=x*(q v.t-q v.s-k*v.h);exact mul_comm _ _|false=>show(q v.t-q v.s-k*v.h)*(-x)=x*(q v.s-q v.t-k*(-v.h));rw[mul_neg,mul_neg k,show q v.s-q v.t- -(k*v.h)=-(q v.t-q v.s-k*v.h)by omega,mul_neg,mul_comm]
theorem pL{k x:Int}{q:Int->Int}{ws:List Wy}{b:Int}:∀{c:List aC}{fs:List Int}{a:Int},fs.length=ws.length->ir ws b c a->eX (gap k q) ws (aug x fs c)=eX (gap k q) ws fs+x*(q b-q a-k*bM ws c)
 |[],fs,a,_,h=>by have:a=b:=h;subst this;show _=_+x*(q a-q a-k*0);simp;rfl|s::c,fs,a,u,⟨v,e,z,A⟩=>by
   show eX (gap k q) ws (aug x (jm x fs s) c)=_;have t:s.1<fs.length:=by rw[u];exact(dB e).1
   have y:fs[s.1]?=some fs[s.1]:=by simp[t]
   rw[pL (by rw[xF];exact u) A];have:jm x fs s=fs.set s.1 (fs[s.1]+sg x s.2):=by unfold jm;rw[y];rfl
   rw[this,Bj e y,Jp,z,Int.add_assoc,<-mul_add,bM,ie e,mul_add k];congr 2;omega
structure Kl(ws:List Wy)(fs:List Int):Prop where
 len:fs.length=ws.length
 ok:∀(j:Nat)v g,ws[j]?=some v->fs[j]?=some g->0<=g/\g<=v.r
theorem Kl.aug{ws:List Wy}{fs:List Int}{c:List aC}{x:Int}(h:Kl ws fs)(B:(c.map (·.1)).Nodup)(C:0<x)(hc:∀s∈c,∃v g,ws[s.1]?=some v/\fs[s.1]?=some g/\x<=nT v g s.2):Kl ws (aug x fs c):=by
 refine⟨by rw[mq];exact h.len,fun j v g t e=>?_⟩;by_cases z:j∈c.map (·.1);.obtain⟨s,hs,rfl⟩:=mem_map.mp z;obtain⟨E,g',u,y,A⟩:=hc s hs;rw[t]at u;cases u;rw[uC B hs y]at e;cases e;have:=h.ok _ _ _ t y;cases hf:s.2<;>rw[hf]at A<;>simp[nT,sg]at A ⊢<;>omega
 .rw[mG z]at e;exact h.ok _ _ _ t e
def iC(q:Int->Int)(v:Wy):Int:=v.r*max 0 (q v.t-q v.s-v.h)
def dD(q:Int->Int)(ws:List Wy):Int:=nR (iC q) ws
theorem ZQ:gap 1 q v=q v.t-q v.s-v.h:=by unfold gap;omega
theorem vh{fs:List Int}(h:Kl ws fs):eX (gap 1 q) ws fs<=dD q ws:=zp h.len fun j v g e u=>by
 have:=h.ok _ _ _ e u;rw[ZQ];unfold iC;generalize q v.t-q v.s-v.h=y;by_cases c:0<=y;.rw[Int.max_eq_right c,mul_comm];exact Int.mul_le_mul_of_nonneg_right this.2 c
 .rw[Int.max_eq_left (by omega),Int.mul_zero];exact Int.mul_nonpos_of_nonpos_of_nonneg (by omega) this.1
theorem Mp{fs:List Int}(h:Kl ws fs)(A:Pt ws fs q):dD q ws=eX (gap 1 q) ws fs:=by
 refine Int.le_antisymm (Io h.len fun j v g e u=>?_) (vh h);have E:=h.ok _ _ _ e u;have C:0<v.r-g->q v.t<=q v.s+v.h:=fun z=>A (j,true) v e (by rw[jr (s:=(j,true)) e u];simp[frm,nT];omega);have B:0<g->q v.s<=q v.t+-v.h:=fun z=>A (j,false) v e (by rw[jr (s:=(j,false)) e u];simp[frm,nT];omega);rw[ZQ];unfold iC;generalize G:q v.t-q v.s-v.h=y;by_cases c:g=v.r
 . subst c;by_cases c0:0<v.r;.have:=B c0;rw[Int.max_eq_right (by omega),mul_comm];exact Int.le_refl _
   . have:v.r=0:=by omega
     rw[this];simp
 . have:=C (by omega);rw[Int.max_eq_left (by omega),Int.mul_zero];by_cases c0:0<g;.have:=B c0;rw[show y=0 by omega];simp
   .rw[show g=0 by omega];simp
def oO(fs:List Int)(x:List aC×Int):List Int:=aug x.2 fs x.1
def flow(N:Nat)(cs:List (List aC×Int)):List Int:=cs.foldl oO (replicate N 0)
theorem qi{x:List aC×Int}:flow N (cs++[x])=aug x.2 (flow N cs) x.1:=by unfold flow;rw[List.foldl_append];rfl
def bO(H:List aC×Int->Int):List (List aC×Int)->Int|[]=>0|x::cs=>H x+bO H cs
theorem jB{H:List aC×Int->Int}{x:List aC×Int}:∀{cs:List (List aC×Int)},bO H (cs++[x])=bO H cs+H x|[]=>by simp[bO]|y::cs=>by rw[cons_append,bO,bO,jB];omega
theorem iY{H K:List aC×Int->Int}:∀{cs:List (List aC×Int)},(∀x∈cs,H x=K x)->bO H cs=bO K cs|[],_=>rfl|x::cs,h=>by rw[bO,bO,h x (by simp),iY fun y e=>h y (by simp[e])]
theorem Gr{H:List aC×Int->Int}:∀{cs:List (List aC×Int)},(∀x∈cs,1<=H x)->(cs.length:Int)<=bO H cs|[],_=>by simp[bO]|x::cs,h=>by have h1:=h x (by simp);have t:=Gr (H:=H) (cs:=cs) fun y e=>h y (by simp[e]);rw[bO,length_cons];omega
def QF(ws:List Wy)(T:Int)(x:List aC×Int):Int:=if bM ws x.1<=T then x.2*(T-bM ws x.1+1)else 0
def val(ws:List Wy)(T:Int)(cs:List (List aC×Int)):Int:=bO (QF ws T) cs
structure dJ(m:Int)(ws:List Wy)(T v:Int):Prop where
 ex:∃q:Int->Int,q 0=0/\q (m-1)=T+1/\dD q ws=v
 le:∀q:Int->Int,q 0=0->q (m-1)=T+1->v<=dD q ws
theorem xG{T:Int}{fs:List Int}{G:Int->Int}(fit:Kl ws fs)(dt:∀k q,eX (gap k q) ws fs=bO (fun x=>x.2*(q (m-1)-q 0-k*bM ws x.1)) cs)(z:∀x∈cs,bM ws x.1<=T+1)(A:Pt ws fs G)(t:G 0=0)(u:G (m-1)=T+1):dJ m ws T (val ws T cs):=by
 have y:∀q:Int->Int,q 0=0->q (m-1)=T+1->eX (gap 1 q) ws fs=val ws T cs:=fun q e h=>by
  rw[dt,e,h];refine iY fun x B=>?_;have:=z x B;unfold QF;split;.congr 1;omega
  .rw[show T+1-0-1*bM ws x.1=0 by omega,Int.mul_zero]
 exact⟨⟨G,t,u,by rw[Mp fit A,y G t u]⟩,fun q e h=>by rw[<-y q e h];exact vh fit⟩
structure yp(m:Int)(ws:List Wy)(cs:List (List aC×Int))(fs:List Int)(F:Int->Int)(d:Int):Prop where
 fit:Kl ws fs
 pt:Pt ws fs F
 z:F 0=0
 e:F (m-1)=d
 d0:0<=d
 nn:(∀v∈ws,1<=v.h)->1<=d/\∀x∈cs,1<=bM ws x.1
 ch:∀x∈cs,bM ws x.1<=d/\0<x.2/\∀s∈x.1,s.1<ws.length
 dt:∀k q,eX (gap k q) ws fs=bO (fun x=>x.2*(q (m-1)-q 0-k*bM ws x.1)) cs
 lst:∀T,0<=T->T+1<=d->dJ m ws T (val ws T cs)
theorem qu{G:Wy->Int}:∀{ws:List Wy}{n:Nat},eX G ws (replicate n 0)=0|[],n=>by unfold eX;rfl|v::ws,0=>rfl|v::ws,n+1=>by rw[replicate_succ,eX,qu];simp
theorem u0(h:(replicate n (0:Int))[j]?=some g):g=0:=(List.mem_replicate.mp (mem_of_getElem? h)).2
def F01(b p:Int):Int:=if p=0 then 0 else b
theorem yp.zero(m0:2<=m)(A:∀v∈ws,0<=v.h)(hr:∀v∈ws,0<=v.r):∃b,yp m ws [] (replicate ws.length 0) (F01 b) b:=by
 have fit:Kl ws (replicate ws.length 0):=⟨by simp,fun j v g t u=>by rw[u0 u];exact⟨Int.le_refl _,hr v (mem_of_getElem? t)⟩⟩;have pt:∀b:Int,0<=b->(∀v∈ws,b<=v.h)->Pt ws (replicate ws.length 0) (F01 b):=fun b b0 B s v e ho=>by obtain⟨E,g,t,u,_,y⟩:=qT ho;rw[e]at t;cases t;have:=u0 u;subst this;have:=B v (mem_of_getElem? e);cases hf:s.2<;>rw[hf]at y<;>simp[nT,hsp,F01]at y ⊢;split<;>split<;>omega
 have dt:∀k q,eX (gap k q) ws (replicate ws.length 0)=bO (fun x=>x.2*(q (m-1)-q 0-k*bM ws x.1)) []:=fun k q=>by rw[qu];rfl
 have t:∀b,F01 b (m-1)=b:=fun b=>by unfold F01;rw[if_neg (by omega)]
 by_cases c:∀v∈ws,1<=v.h;.exact⟨1,fit,pt 1 (by omega) c,rfl,t 1,by omega,fun _=>⟨Int.le_refl _,by simp⟩,by simp,dt,fun T h1 C=>xG fit dt (by simp) (pt 1 (by omega) c) rfl (by rw[t];omega)⟩
 .exact⟨0,fit,pt 0 (by omega) A,rfl,t 0,by omega,fun z=>absurd z c,by simp,dt,fun T h1 C=>by omega⟩
theorem yp.at{d T:Int}{fs:List Int}{G:Int->Int}(h:yp m ws cs fs F d)(e:d<=T+1)(t:Pt ws fs G)(u:G 0=0)(y:G (m-1)=T+1):dJ m ws T (val ws T cs):=xG h.fit h.dt (fun x z=>Int.le_trans (h.ch x z).1 e) t u y
theorem yp.more{d:Int}{fs:List Int}{x:Int}(h:yp m ws cs fs F d)(t:iT m ws fs es)(u:(m-1,l,o)∈es)(hc:Qc ws fs es (m-1) l o.2 0 0 0 c)(A:0<x)(hr:∀s∈c,∃v g,ws[s.1]?=some v/\fs[s.1]?=some g/\x<=nT v g s.2):∃G,yp m ws (cs++[(c,x)]) (aug x fs c) G o.2:=by
 obtain⟨D,H⟩:=Cg F es;have B:=t.pt h.pt H;have J:bM ws c=o.2:=by have:=hc.hrs;omega
 have C:Ek F D es 0=0:=ig t.cm.nd t.cm.z;have E:Ek F D es (m-1)=o.2:=ig t.cm.nd u;have hd:d<=o.2:=by have:=lE h.pt hc.J8 hc.jl;rw[h.e,h.z]at this;omega
 refine⟨Ek F D es,h.fit.aug hc.nd A hr,B.aug hc.J8 hc.jl (by rw[C,E];omega),C,E,by have:=h.d0;omega,fun z=>⟨by have:=(h.nn z).1;omega,fun y hy=>?_⟩,fun y hy=>?_,fun k q=>?_,fun T h0 h1=>?_⟩
 . rcases mem_append.mp hy with hy|hy;.exact(h.nn z).2 y hy
   .rw[mem_singleton.mp hy];show 1<=bM ws c;have:=(h.nn z).1;omega
 . rcases mem_append.mp hy with hy|hy;.have:=h.ch y hy;exact⟨by omega,this.2⟩
   .rw[mem_singleton.mp hy];refine⟨by show bM ws c<=_;omega,A,fun s hs=>?_⟩;obtain⟨v,g,e,_⟩:=hr s hs;exact(dB e).1
 .rw[pL h.fit.len hc.J8,jB,h.dt]
 . have I:val ws T (cs++[(c,x)])=val ws T cs:=by unfold val;rw[jB];show _+(if bM ws c<=T then _ else 0)=_;rw[if_neg (by omega)];omega
   rw[I];by_cases q:T+1<=d;.exact h.lst T h0 q
   . refine h.at (by omega) (Gu (T+1-d) B h.pt) ?_ ?_;.have:=h.z;omega
     .have:=h.e;omega
theorem yp.least{d T:Int}{fs:List Int}(h:yp m ws cs fs F d)(t:iT m ws fs es)(u:¬ ∃l o,(m-1,l,o)∈es)(h0:0<=T):dJ m ws T (val ws T cs):=by
 by_cases q:T+1<=d;.exact h.lst T h0 q
 . obtain⟨D,y⟩:=Cg F es;have A:=t.pt (D:=max D (T+1-d)) h.pt fun p l o z=>by have:=y p l o z;omega
   have B:Ek F (max D (T+1-d)) es 0=0:=ig t.cm.nd t.cm.z;have C:Ek F (max D (T+1-d)) es (m-1)=F (m-1)+max D (T+1-d):=pK u;refine h.at (by omega) (Gu (T+1-d) A h.pt) ?_ ?_;.have:=h.z;omega
   .have:=h.e;omega
def FQ(v:Wy)(f:Bool):Int:=7*hsp v f+1
def Oo(ws:List Wy)(fs:List Int)(P:Int->Int):Prop:=∀(s:aC)(v:Wy),ws[s.1]?=some v->jY ws fs (frm v s.2) s=true->P (too v s.2)<=P (frm v s.2)+FQ v s.2
def yr(ws:List Wy)(c:List aC):Int:=7*bM ws c+c.length
theorem p8(e:ws[s.1]?=some v):yr ws (s::c)=FQ v s.2+yr ws c:=by unfold yr FQ;rw[bM,ie e,length_cons];omega
theorem yQ{ws:List Wy}{fs:List Int}{P:Int->Int}(h:Oo ws fs P){b:Int}:∀{c:List aC}{a:Int},ir ws b c a->sE ws fs c->P b<=P a+yr ws c|[],a,t,_=>by have:a=b:=t;rw[this];simp[yr,bM]|s::c,a,⟨v,e,z,t⟩,ho=>by have h1:=yQ h t fun u A=>ho u (mem_cons_of_mem _ A);obtain⟨C,y,o⟩:=ho s (by simp);rw[e]at y;cases y;have B:=h s v e o;rw[z]at B;rw[p8 e];omega
theorem tZ{ws:List Wy}{fs:List Int}{P:Int->Int}(h:Oo ws fs P){b:Int}:∀{c:List aC}{a:Int},ir ws b c a->sE ws fs c->P b=P a+yr ws c->∀s∈c,∀v,ws[s.1]?=some v->P (too v s.2)=P (frm v s.2)+FQ v s.2
 |[],_,_,_,_,s,hs,_,_=>by cases hs|s::c,a,⟨v,e,y,z⟩,ho,he,u,hu,x,ex=>by
   have t:sE ws fs c:=fun u hu=>ho u (mem_cons_of_mem _ hu);have h1:=yQ h z t;obtain⟨C,A,o⟩:=ho s (by simp);rw[e]at A;cases A;have B:=h s v e o;rw[y]at B;rw[p8 e]at he;rcases mem_cons.mp hu with rfl|hu;.rw[e]at ex;cases ex;rw[y];omega
   .exact tZ h z t (by omega) u hu x ex
def tgt(ws:List Wy)(fs:List Int)(P:Int->Int)(s:aC):Bool:=match ws[s.1]?with|some v=>jY ws fs (frm v s.2) s&&decide (P (too v s.2)=P (frm v s.2)+FQ v s.2)|none=>false
theorem Ir{fs:List Int}{P:Int->Int}(e:ws[s.1]?=some v):tgt ws fs P s=(jY ws fs (frm v s.2) s&&decide (P (too v s.2)=P (frm v s.2)+FQ v s.2)):=by unfold tgt;rw[e]
def Ji(ws:List Wy)(fs:List Int)(P:Int->Int):Nat:=((ik ws.length).filter (tgt ws fs P)).length
theorem CK{fs:List Int}{P:Int->Int}(h:ws.length<=12):Ji ws fs P<=24:=by have:=List.length_filter_le (tgt ws fs P) (ik ws.length);rw[xK]at this;unfold Ji;omega
theorem Hs{p q:aC->Bool}(h:∀t,q t=true->p t=true):∀(l:List aC),(l.filter q).length<=(l.filter p).length|[]=>dz|t::l=>by have e:=Hs h l;cases hq:q t with|true=>simp[hq,h t hq,e]|false=>cases hp:p t with|true=>simp[hq,hp];omega|false=>simp[hq,hp,e]
theorem HJ{p q:aC->Bool}{s:aC}(h:∀t,q t=true->p t=true)(e:p s=true)(u:q s=false):∀{l:List aC},s∈l->(l.filter q).length<(l.filter p).length
 |[],hs=>by cases hs|t::l,hs=>by
   have le:=Hs h l;rcases mem_cons.mp hs with rfl|hs;.simp[e,u];omega
   .have y:=HJ h e u hs;cases hq2:q t with|true=>simp[hq2,h t hq2,y]|false=>cases hp2:p t with|true=>simp[hq2,hp2];omega|false=>simp[hq2,hp2,y]
theorem Hw{fs:List Int}(h:(c.map (·.1)).Nodup)(hs:s∈c)(e:ws[s.1]?=some v)(t:fs[s.1]?=some g):jY ws (aug (nT v g s.2) fs c) p s=false:=by
 rw[jr e (uC h hs t)];have:nT v (g+sg (nT v g s.2) s.2) s.2=0:=by cases s.2<;>simp[nT,sg]<;>omega
 rw[this];simp
theorem Oo.aug{ws:List Wy}{fs:List Int}{P:Int->Int}(h:Oo ws fs P){a b:Int}{c:List aC}{s:aC}{v:Wy}{g:Int}(E:ir ws b c a)(ho:sE ws fs c)(G:(c.map (·.1)).Nodup)(he:P b=P a+yr ws c)(hs:s∈c)(e:ws[s.1]?=some v)(H:fs[s.1]?=some g):Oo ws (aug (nT v g s.2) fs c) P/\Ji ws (aug (nT v g s.2) fs c) P<Ji ws fs P:=by
 have A:=tZ h E ho he;have back:∀(t u:aC)(x:Wy),u∈c->u.1=t.1->t.2≠u.2->ws[t.1]?=some x->P (too x t.2)<P (frm x t.2)+FQ x t.2:=fun t u x y z ne ex=>by
  have h1:=A u y x (by rw[z];exact ex);rw[(kO ne).1,(kO ne).2];have B:hsp x t.2=-hsp x u.2:=by cases h1:t.2<;>cases B:u.2<;>simp[hsp]<;>(rw[h1,B]at ne;exact absurd rfl ne)
  unfold FQ at*;omega
 refine⟨fun t x ex o=>?_,?_⟩
 . rcases qN ho ex o with o|⟨u,y,z,ne⟩;.exact h t x ex o
   .have:=back t u x y z ne ex;omega
 . obtain⟨I,C,o⟩:=ho s hs;rw[e]at C;cases C;refine HJ (s:=s) (fun t ht=>?_) (by rw[Ir e,o,A s hs v e];simp) (by rw[Ir e,Hw G hs e H];rfl) (wG (dB e).1);unfold tgt at ht ⊢;split at ht
   . rename_i x ex;simp only[and_eq_true,decide_eq_true_eq]at ht ⊢;refine⟨?_,ht.2⟩;rcases qN ho ex ht.1 with o|⟨u,y,z,ne⟩;.exact o
     .have:=back t u x y z ne ex;omega
   .cases ht
abbrev P0:=List (Option Bool)
def kZ:List Wy->P0->Int|v::ws,some f::es=>FQ v f+kZ ws es|_::ws,none::es=>kZ ws es|_,_=>0
def DN(N:Nat):List aC->P0|[]=>replicate N none|s::c=>(DN N c).set s.1 (some s.2)
theorem uW{N:Nat}:∀{c:List aC},(DN N c).length=N|[]=>by simp[DN]|s::c=>by rw[DN,List.length_set,uW]
theorem Ay{N j:Nat}:∀{c:List aC},j<N->j∉c.map (·.1)->(DN N c)[j]?=some none|[],h,_=>by simp[DN,h]|s::c,h,e=>by rw[map_cons,mem_cons,not_or]at e;rw[DN,getElem?_set_ne (fun z=>e.1 z.symm)];exact Ay h e.2
theorem wH{v:Wy}{f:Bool}:∀{j:Nat}{ws:List Wy}{es:P0},ws[j]?=some v->es[j]?=some none->kZ ws (es.set j (some f))=kZ ws es+FQ v f|_,[],_,e,_=>by simp at e|_,_::_,[],_,e=>by simp at e|0,u::ws,x::es,h,t=>by simp at h t;subst h t;rw[List.set_cons_zero,kZ,kZ];omega|j+1,u::ws,x::es,h,t=>by have y:=wH (f:=f) (j:=j) (ws:=ws) (es:=es) (by simpa using h) (by simpa using t);rw[List.set_cons_succ];cases x with|none=>rw[kZ,kZ,y]|some g=>rw[kZ,kZ,y];omega
theorem sV:∀{ws:List Wy}{n:Nat},kZ ws (replicate n none)=0|[],n=>by unfold kZ;rfl|v::ws,0=>rfl|v::ws,n+1=>by rw[replicate_succ,kZ,sV]
theorem vC{ws:List Wy}{b:Int}:∀{c:List aC}{a:Int},ir ws b c a->(c.map (·.1)).Nodup->kZ ws (DN ws.length c)=yr ws c|[],_,_,_=>by rw[DN,sV];simp[yr,bM]|s::c,a,⟨v,e,_,t⟩,h=>by rw[map_cons,nodup_cons]at h;rw[DN,wH e (Ay (dB e).1 h.1),vC t h.2,p8 e];omega
def sJ:Nat->List P0|0=>[[]]|n+1=>(sJ n).map (none::·)++((sJ n).map (some true::·)++(sJ n).map (some false::·))
theorem qH:∀{n:Nat},(sJ n).length=3^n|0=>rfl|n+1=>by rw[sJ,length_append,length_append,length_map,length_map,length_map,qH,Nat.pow_succ];omega
theorem qp:∀{e:P0},e∈sJ e.length|[]=>by simp[sJ]|x::e=>by have h:=qp (e:=e);rw[length_cons,sJ,mem_append,mem_append];cases x with|none=>exact .inl (mem_map.mpr ⟨e,h,rfl⟩)|some f=>cases f with|true=>exact .inr (.inl (mem_map.mpr ⟨e,h,rfl⟩))|false=>exact .inr (.inr (mem_map.mpr ⟨e,h,rfl⟩))
structure Mf(m:Int)(ws:List Wy)(k:Nat)(fs:List Int)(P:Int->Int)(lam:Int)(seen:List P0):Prop where
 pt:Oo ws fs P
 z:P 0=0
 e:P (m-1)=lam
 nd:seen.Nodup
 sl:∀e∈seen,e.length=ws.length/\kZ ws e<=lam
 cnt:k+Ji ws fs P<=25*(seen.length+1)
theorem Mf.few{t:Int}{k:Nat}{fs:List Int}{P:Int->Int}{seen:List P0}(h:Mf m ws k fs P t seen)(u:ws.length<=12):k<=13286050:=by
 have h1:=mO (l2:=sJ ws.length) h.nd fun e he=>by rw[<-(h.sl e he).1];exact qp
 rw[qH]at h1;have y:3^ws.length<=3^12:=Nat.pow_le_pow_right (by decide) u;have z:(3:Nat)^12=531441:=by decide
 have:=h.cnt;omega
theorem Mf.zero(y:ws.length<=12)(z:∀v∈ws,0<=v.h):Mf m ws 0 (replicate ws.length 0) (fun _=>0) 0 []:=by refine⟨fun s v e ho=>?_,rfl,rfl,.nil,by simp,by have:=CK (fs:=replicate ws.length 0) (P:=fun _=>0) y;simp;omega⟩;obtain⟨B,g,t,A,_,u⟩:=qT ho;rw[e]at t;cases t;have:=u0 A;subst this;have:=z v (mem_of_getElem? e);cases hf:s.2<;>rw[hf]at u<;>simp[nT,FQ,hsp]at u ⊢;omega
def Ke(F:Int->Int)(D:Int):List En->Int->Int|[],p=>F p+D|e::es,p=>if e.1=p then 7*e.2.2.2+(e.2.1:Int)else Ke F D es p
theorem nW{F:Int->Int}{D p:Int}{l:Nat}{o:Option aC×Int}:∀{es:List En},(es.map (·.1)).Nodup->(p,l,o)∈es->Ke F D es p=7*o.2+l
 |[],_,h=>by cases h|e::es,t,h=>by
   rw[map_cons,nodup_cons]at t;rw[Ke];rcases mem_cons.mp h with rfl|h;.rw[if_pos rfl]
   .rw[if_neg (fun z=>t.1 (by rw[z];exact mem_map.mpr ⟨_,h,rfl⟩))];exact nW t.2 h
theorem vz{F:Int->Int}{D p:Int}:∀{es:List En},(¬ ∃l o,(p,l,o)∈es)->Ke F D es p=F p+D|[],_=>rfl|e::es,h=>by rw[Ke,if_neg (fun z=>h ⟨e.2.1,e.2.2,by rw[<-z];simp⟩)];exact vz fun⟨l,o,z⟩=>h ⟨l,o,mem_cons_of_mem _ z⟩
theorem Il(F:Int->Int):∀(es:List En),∃D,∀p l o,(p,l,o)∈es->7*o.2+(l:Int)<=F p+D
 |[]=>⟨0,fun _ _ _ h=>by cases h⟩|e::es=>by
   obtain⟨D,h⟩:=Il F es;refine⟨max D (7*e.2.2.2+(e.2.1:Int)-F e.1),fun p l o z=>?_⟩;rcases mem_cons.mp z with rfl|z;.simp only;omega
   .have:=h p l o z;omega
theorem iT.pts{fs:List Int}{P:Int->Int}{D:Int}(h:iT m ws fs es)(t:HN m ws)(u:Pt ws fs F)(y:Oo ws fs P)(z:∀p l o,(p,l,o)∈es->7*o.2+(l:Int)<=P p+D):Oo ws fs (Ke P D es):=fun s v e ho=>by
 by_cases c:∃l o,(frm v s.2,l,o)∈es;.obtain⟨l,o,c⟩:=c;obtain⟨l2,A,c2,c3⟩:=h.cl l o s v e c ho;rw[nW h.cm.nd c,nW h.cm.nd c2];have:=h.l5 t u c2;unfold Le at c3;unfold FQ;omega
 . rw[vz c];have h1:=y s v e ho;by_cases c2:∃l o,(too v s.2,l,o)∈es;.obtain⟨l2,A,c2⟩:=c2;rw[nW h.cm.nd c2];have:=z _ _ _ c2;omega
   .rw[vz c2];omega
theorem Mf.more{t:Int}{k:Nat}{fs:List Int}{P:Int->Int}{seen:List P0}(h:Mf m ws k fs P t seen)(B:HN m ws)(I:Pt ws fs F)(u:iT m ws fs es)(y:(m-1,l,o)∈es)(hc:Qc ws fs es (m-1) l o.2 0 0 0 c)(hs:s∈c)(e:ws[s.1]?=some v)(C:fs[s.1]?=some g):∃J L M,Mf m ws (k+1) (aug (nT v g s.2) fs c) J L M:=by
 have O:bM ws c=o.2:=by have:=hc.hrs;omega
 have U:c.length=l:=by have:=hc.len;omega
 have W:yr ws c=7*o.2+l:=by unfold yr;rw[O,U]
 have X:t<=yr ws c:=by have:=yQ h.pt hc.J8 hc.jl;rw[h.e,h.z]at this;omega
 by_cases q:t=yr ws c;.have A:=h.pt.aug hc.J8 hc.jl hc.nd (by rw[h.e,h.z];omega) hs e C;exact⟨P,t,seen,A.1,h.z,h.e,h.nd,h.sl,by have:=h.cnt;omega⟩
 . obtain⟨D,Y⟩:=Il P es;have Z:=u.pts B I h.pt Y;have E:Ke P D es 0=0:=by rw[nW u.cm.nd u.cm.z];rfl
   have G:Ke P D es (m-1)=yr ws c:=by rw[nW u.cm.nd y,W]
   have A:=Z.aug hc.J8 hc.jl hc.nd (by rw[E,G];omega) hs e C;have H:=vC hc.J8 hc.nd;refine⟨Ke P D es,yr ws c,seen++[DN ws.length c],A.1,E,G,?_,fun x hx=>?_,?_⟩;.rw[nodup_append];refine⟨h.nd,by simp,fun a ha b hb ab=>?_⟩;have:=(h.sl a ha).2;rw[ab,mem_singleton.mp hb,H]at this;omega
   . rcases mem_append.mp hx with hx|hx;.have:=h.sl x hx;exact⟨this.1,by omega⟩
     .rw[mem_singleton.mp hx];exact⟨uW,by rw[H];exact Int.le_refl _⟩
   .have h1:=CK (fs:=fs) (P:=Ke P D es) B.len;have h2:=h.cnt;rw[length_append,List.length_singleton];omega
def cD(x:List aC×Int):D:=.tup [.tup (x.1.map sD),.int x.2]
theorem S7{ns:List Int}(h:ns≠[]):∃i,ns.min?=some i/\i∈ns/\∀j∈ns,i<=j:=by cases e:ns.min? with|none=>rw[List.min?_eq_none_iff]at e;exact absurd e h|some i=>have:=List.min?_eq_some_iff.mp e;exact⟨i,rfl,this.1,this.2⟩
def ZL:D->aC|.tup [.int j,.bl f]=>(j.toNat,f)|_=>(0,true)
@[simp]theorem GP{s:aC}:ZL (sD s)=s:=rfl
def PL(ws:List Wy)(fs:List Int)(s:aC):Int:=match ws[s.1]?,fs[s.1]?with|some v,some g=>nT v g s.2|_,_=>0
def rmD(ws:List Wy)(fs:List Int)(d:D):D:=.int (PL ws fs (ZL d))
@[simp]theorem ZF{es:List En}{p:Int}:wJ false (.int p) (jy es)=some (.val (.bl (o5 (es.map en) p))):=by show some (R.val (.bl ((es.map (·.1)).contains p)))=some (R.val (.bl ((DY (es.map en)).contains p)));rw[zM]
def Chk(m:Int)(ws:List Wy)(x:List aC×Int):Prop:=x.1.length<=5/\(∀s∈x.1,s.1<ws.length)/\ir ws (m-1) x.1 0/\(x.1.map (·.1)).Nodup
structure Stg(m:Int)(ws:List Wy)(bZ:List (List aC×Int))(x:List aC×Int):Prop where
 iv:∃F d,yp m ws bZ (flow ws.length bZ) F d
 ht:∃F,Pt ws (flow ws.length bZ) F/\F 0=0/\F (m-1)=bM ws x.1
 op:sE ws (flow ws.length bZ) x.1
 rm:∀s∈x.1,∃v g,ws[s.1]?=some v/\(flow ws.length bZ)[s.1]?=some g/\x.2<=nT v g s.2
theorem yp.ht{d:Int}{fs:List Int}(h:yp m ws cs fs F d)(t:iT m ws fs es)(u:(m-1,l,o)∈es)(hc:Qc ws fs es (m-1) l o.2 0 0 0 c):(∃F,Pt ws fs F/\F 0=0/\F (m-1)=bM ws c)/\d<=bM ws c:=by
 obtain⟨D,y⟩:=Cg F es;have A:bM ws c=o.2:=by have:=hc.hrs;omega
 refine⟨⟨Ek F D es,t.pt h.pt y,ig t.cm.nd t.cm.z,by rw[ig t.cm.nd u,A]⟩,?_⟩;have:=lE h.pt hc.J8 hc.jl;rw[h.e,h.z]at this;omega
def Ew(m:Int)(ws:List Wy)(cs:List (List aC×Int)):Prop:=cs.Pairwise (fun a b=>bM ws a.1<=bM ws b.1)/\∀h x e,cs=h++x::e->Stg m ws h x
theorem Ew.snoc{y:List aC×Int}(h:Ew m ws cs)(h1:∀x∈cs,bM ws x.1<=bM ws y.1)(A:Stg m ws cs y):Ew m ws (cs++[y]):=by
 refine⟨?_,fun u x t e=>?_⟩;.rw[List.pairwise_append];exact⟨h.1,by simp,fun a B b C=>by rw[mem_singleton.mp C];exact h1 a B⟩
 . rcases List.eq_nil_or_concat t with rfl|⟨r,z,rfl⟩;.obtain⟨E,G⟩:=List.append_inj' e rfl;cases G;subst E;exact A
   . rw[List.concat_eq_append]at e;have H:cs++[y]=(u++x::r)++[z]:=by rw[e];simp
     exact h.2 u x r (List.append_inj' H rfl).1
structure Ends(m:Int)(ws:List Wy)(cs:List (List aC×Int))(fs:List Int)(F:Int->Int)(d:Int)(es:List En):Prop where
 fl:fs=flow ws.length cs
 iv:yp m ws cs fs F d
 cm:iT m ws fs es
 no:¬ ∃l o,(m-1,l,o)∈es
 ck:∀x∈cs,Chk m ws x
 st:Ew m ws cs
inductive FcE(a0 a1 a2 a3 a4 a5 a6:Sl)(ρ:List Sl):Prop where|mk(s:Sl)(q0:ρ=[a0,a1,a2,a3,a4,a5,a6,s])(q1:fr s=true)
inductive JE(m:Int)(ws:List Wy)(M:Nat)(ρ:List Sl):Prop where|mk(cs:List (List aC×Int))(fs:List Int)(es:List En)(F:Int->Int)(d:Int)(s5 s6:Sl)(q0:ρ=[.val false (aN m ws),.val false (.int (m-1)),.own false (fs.map D.int),.own false (cs.map cD),.val false (jy es),s5,s6])(q1:(fr s5=true/\fr s6=true))(q2:fs=flow ws.length cs)(q3:yp m ws cs fs F d)(q4:iT m ws fs es)(q5:(∃P lam seen,Mf m ws cs.length fs P lam seen))(q6:cs.length+M=13286050)(q7:(∀x∈cs,Chk m ws x))(q8:Ew m ws cs)
theorem xj(hw:13286250<=w)(h:HN m ws)(hr:∀v∈ws,0<=v.r)(k:∀cs fs F d es,cs.length<=13286050->Ends m ws cs fs F d es->Q (.own (cs.map cD)) [.val false (aN m ws)]):(run Γ w (n+4) 8 [.val false (aN m ws)]).sat Q:=by
 have hn:=h.len;have m0:=h.m0;have m1:=h.m1;refine aJ (d:=f8) rfl rfl (by decide) ?_;symm;simp[f8];refine bK (fun ρ=>ρ=[.val false (aN m ws),.val false (.int (m-1)),.own false ((flow ws.length []).map D.int),.aQ,.aQ,.aQ,.aQ]) ?_ ?_;.simp[flow];show _<=16777216;omega
 rintro _ rfl;have hh:∀v∈ws,0<=v.h:=fun v hv=>(h.ok v hv).2.2;obtain⟨b0,I0⟩:∃b,yp m ws [] (flow ws.length []) (F01 b) b:=yp.zero m0 hh hr;symm;simp;apply ak;simp;refine wL (by omega) I0.pt (.inr ⟨true,rfl⟩) h I0.fit.len fun es t=>?_;simp;apply ak;simp;refine jH (JE m ws) ?_ (k:=w) (m:=13286050) (by omega) ⟨[],flow ws.length [],es,F01 b0,b0,.aQ,.aQ,rfl,⟨rfl,rfl⟩,rfl,I0,t,⟨_,_,_,Mf.zero hn hh⟩,by simp,by simp,by simp,fun bZ x aE e=>by cases bZ<;>cases e⟩;rintro M _⟨cs,fs,es,F,d,s5,s6,rfl,⟨h5,h6⟩,E,G,t,⟨P,aI,seen,hS⟩,hM,L,hst⟩;have ac:=G.fit.len;by_cases hq:∃l o,(m-1,l,o)∈es
 . obtain⟨l,o,z⟩:=hq;have kt:o5 (es.map en) (m-1)=true:=zF.mpr ⟨l,o,z⟩;have ae:=t.l5 h G.pt z;simp[kt];apply ak;simp;refine Eo (by omega) t ae z fun c hc=>?_;simp[h5];apply ak;have af:c.length<=5:=by have:=hc.len;omega
   have Z:∀s∈c,∃v g,ws[s.1]?=some v/\fs[s.1]?=some g/\0<nT v g s.2:=fun s hs=>by obtain⟨v,e,o⟩:=hc.jl s hs;obtain⟨v',g,A,C,_,e4⟩:=qT o;exact⟨v',g,A,C,e4⟩
   simp[show c.length<=16777216 by omega];refine bQ (FcE _ _ _ _ _ _ _) (rmD ws fs) ⟨.aQ,rfl,rfl⟩ ?_ ?_;.rintro d hd _⟨s',rfl,O⟩;obtain⟨s,hs,rfl⟩:=mem_map.mp hd;obtain⟨v,g,A,C,_⟩:=Z s hs;simp[O,sD];refine um (.inr ⟨true,rfl⟩) A C ?_;simp;refine⟨?_,_,rfl,rfl⟩;show D.int (PL ws fs (ZL (sD s)))=_;rw[GP];unfold PL;rw[A,C]
   rintro _⟨s',rfl,O⟩;have U:(c.map sD).map (rmD ws fs)=(c.map (PL ws fs)).map D.int:=by rw[map_map,map_map];rfl
   rw[U];have ag:c≠[]:=by rintro rfl;have:(0:Int)=m-1:=hc.J8;omega
   obtain⟨x,ah,ai,al⟩:=S7 (ns:=c.map (PL ws fs)) (by simpa using ag);obtain⟨s,hs,am⟩:=mem_map.mp ai;obtain⟨v,g,A,C,e3⟩:=Z s hs;have ap:nT v g s.2=x:=by rw[<-am];unfold PL;rw[A,C]
   have ar:0<x:=by omega
   have H:∀s∈c,∃v g,ws[s.1]?=some v/\fs[s.1]?=some g/\x<=nT v g s.2:=fun u J=>by obtain⟨v,g,A,C,_⟩:=Z u J;refine⟨v,g,A,C,?_⟩;have:=al _ (mem_map.mpr ⟨u,J,rfl⟩);unfold PL at this;rw[A,C]at this;exact this
   have W:∀s∈c,s.1<ws.length:=fun u J=>by obtain⟨v,g,A,_⟩:=Z u J;exact(dB A).1
   obtain⟨F',I⟩:=G.more t z hc ar H;have X:Ew m ws (cs++[(c,x)]):=by obtain⟨g1,g2⟩:=G.ht t z hc;refine hst.snoc (fun y hy=>Int.le_trans (G.ch y hy).1 g2) ?_;have Y:=G;rw[E]at Y g1 H;exact⟨⟨_,_,Y⟩,g1,by rw[<-E];exact hc.jl,H⟩
   have B:=hS.more h G.pt t z hc hs A C;rw[ap]at B;obtain⟨P',Vn,J9,B⟩:=B;have aS:=B.few hn;generalize c.map (PL ws fs)=ns at*;simp[iJ,ah,h6];apply ak;simp[show cs.length<16777216 by omega];apply ak;simp;refine wy (.inr ⟨true,rfl⟩) (fun u J=>by rw[ac];exact W u J) ?_;simp;apply ak;have aw:aug x fs c=flow ws.length (cs++[(c,x)]):=by rw[qi,<-E]
   simp;refine wL (by omega) I.pt (.inr ⟨true,rfl⟩) h I.fit.len fun ax ay=>?_;simp;refine⟨M-1,by omega,cs++[(c,x)],aug x fs c,ax,F',o.2,.val false (.tup (c.map sD)),.val false (.int x),by simp[cD],⟨rfl,rfl⟩,aw,I,ay,⟨P',Vn,J9,by rw[length_append];exact B⟩,by simp;omega,fun y hy=>?_,X⟩;rcases mem_append.mp hy with hy|hy;.exact L y hy
   . obtain rfl:y=(c,x):=by simpa using hy
     exact⟨af,W,hc.J8,hc.nd⟩
 .have kt:o5 (es.map en) (m-1)=false:=kin_no hq;simp[kt];apply ak;simp;exact k cs fs F d es (by omega) ⟨E,G,t,hq,L,hst⟩
theorem Q7{c:Call}{x:Nat}{k d:P}:ev c (.Xc x k d) ρ=match ρ[x]?with
 |some (.gQ _)=>(cC (isVar k) (ev c k) ρ).bind fun e ρ=>(cC (isVar d) (ev c d) ρ).bind fun h ρ=>match ρ[x]?with|some (.gQ m)=>lift ((m.get e).bind fun o=>(iZ h).map fun v=>.val (.int (o.getD v))) ρ|_=>.stuck
 |_=>.stuck:=(rfl)
theorem Nq{c:Call}{x:Nat}:ex c n (.JV x false) ρ=match ρ[x]?with|some .aQ=>.ok .next (ρ.set x (.gQ (.k [])))|_=>.stuck:=(rfl)
theorem Nk{c:Call}{x:Nat}{k e:P}:ex c n (.dput x k e) ρ=(ev c e ρ).bind fun r ρ=>match ρ[x]?with
 |some (.gQ _)=>(cC (isVar k) (ev c k) ρ).bind fun h ρ=>match ρ[x]?,r with
   |some (.gQ m),.val (.int v)=>match m.put h v with|some t=>.ok .next (ρ.set x (.gQ t))|none=>.stuck
   |_,_=>.stuck
 |_=>.stuck:=(rfl)
@[simp]theorem Vy{x:Nat}{k d:P}:isVar (.Xc x k d)=none:=rfl
@[simp]theorem Zz{kvs:List (Int×Int)}:blt .JR [.eO (.k kvs)]=if kvs.length<=16777216/\kvs.Pairwise (fun a b=>a.1<b.1)then some (.own (kvs.map jw))else none:=rfl
theorem Ux:(Dc.get (.k kvs) (.int i))=some ((kvs.find? fun e=>decide (e.1=i)).map (·.2)):=rfl
theorem XM{v:Int}(h:kvs.length<lim):Dc.put (.k kvs) (.int i) v=some (.k (putD kvs i v)):=by show(if _ then _ else _)=_;rw[if_pos h]
def hsD(ws:List Wy)(d:D):D:=.int (hst ws (ZL d))
theorem Bt{ws:List Wy}:∀{c:List aC},(c.map (hst ws)).sum=bM ws c|[]=>rfl|s::c=>by rw[map_cons,sum_cons,Bt,bM]
inductive F2s(a b:Sl)(ρ:List Sl):Prop where|mk(s:Sl)(q0:ρ=[a,b,s])(q1:fr s=true)
theorem zO(hc:∀s∈c,s.1<ws.length)(A:c.length<=1000)(k:Q (.val (.int (bM ws c))) [.val false (aN m ws),.val false (.tup (c.map sD))]):(run Γ w (n+2) 3 [.val false (aN m ws),.val false (.tup (c.map sD))]).sat Q:=by
 refine aJ (d:=f3) rfl rfl (by decide) ?_;symm;simp[f3,show c.length<=16777216 by omega];refine bQ (F2s _ _) (hsD ws) ⟨.aQ,rfl,rfl⟩ ?_ ?_
 . rintro d hd _⟨z,rfl,h⟩;obtain⟨s,hs,rfl⟩:=mem_map.mp hd;have y:=hc s hs;have e:ws[s.1]?=some ws[s.1]:=by simp[y]
   simp[h,sD];refine ud e ?_;simp;refine⟨?_,_,rfl,rfl⟩;show D.int (hst ws (ZL (sD s)))=_;rw[GP,ie e]
 rintro _⟨z,rfl,h⟩;have t:(c.map sD).map (hsD ws)=(c.map (hst ws)).map D.int:=by rw[map_map,map_map];rfl
 rw[t];have u:=Bt (ws:=ws) (c:=c);generalize c.map (hst ws)=ns at*;simp[iJ,u];exact k
def gv(kvs:List (Int×Int))(k:Int):Int:=((kvs.find? fun e=>decide (e.1=k)).map (·.2)).getD 0
def Zo(W:Int->Int->Int):Prop:=∀k a b,W k (a+b)=W k a+W k b
def rT(W:Int->Int->Int):List (Int×Int)->Int|[]=>0|kv::r=>W kv.1 kv.2+rT W r
theorem An{W:Int->Int->Int}{b:List (Int×Int)}:∀{a:List (Int×Int)},rT W (a++b)=rT W a+rT W b|[]=>by simp[rT]|x::a=>by rw[cons_append,rT,rT,An];omega
theorem Aw{k v:Int}:∀{r:List (Int×Int)},k∉r.map (·.1)->(r.map fun e=>if e.1=k then(e.1,v)else e)=r|[],_=>rfl|x::r,h=>by rw[map_cons,mem_cons,not_or]at h;rw[map_cons,Aw h.2,if_neg (fun z=>h.1 z.symm)]
theorem Ck{W:Int->Int->Int}(z:Zo W){k x:Int}:∀{r:List (Int×Int)},(r.map (·.1)).Nodup->k∈r.map (·.1)->rT W (r.map fun e=>if e.1=k then(e.1,gv r k+x)else e)=rT W r+W k x
 |[],_,h=>by cases h|y::r,t,h=>by
   rw[map_cons,nodup_cons]at t;by_cases c:y.1=k
   . have u:gv (y::r) k=y.2:=by unfold gv;rw[find?_cons];simp[c]
     rw[u,map_cons,if_pos c,Aw (by rw[<-c];exact t.1),rT,rT];show W y.1 (y.2+x)+_=_;rw[z,c];omega
   . have u:gv (y::r) k=gv r k:=by unfold gv;rw[find?_cons];simp[c]
     have A:k∈r.map (·.1):=by
      rcases mem_cons.mp h with h|h;.exact absurd h.symm c
      .exact h
     rw[u,map_cons,if_neg c,rT,rT,Ck z t.2 A];omega
theorem Ui(h:k∉r.map (·.1)):gv r k=0:=by
 unfold gv;rw[List.find?_eq_none.mpr];.rfl
 .intro x t;simp;intro e;exact h (mem_map.mpr ⟨x,t,e⟩)
theorem Za(h:∀t∈r,0<t.2):0<=gv r k:=by unfold gv;cases e:r.find? fun t=>decide (t.1=k)with|none=>simp|some x=>have:=h x (List.mem_of_find?_eq_some e);simp;omega
theorem vD{x:Int}(u:(r.map (·.1)).Nodup):((putD r k (gv r k+x)).map (·.1)).Nodup/\(putD r k (gv r k+x)).length<=r.length+1/\(∀h∈putD r k (gv r k+x),h=(k,gv r k+x)\/h∈r)/\∀W,Zo W->rT W (putD r k (gv r k+x))=rT W r+W k x:=by
 have B:(r.any fun h=>decide (h.1=k))=true↔k∈r.map (·.1):=by rw[any_eq_true,mem_map];exact⟨fun⟨y,h1,A⟩=>⟨y,h1,by simpa using A⟩,fun⟨y,h1,A⟩=>⟨y,h1,by simpa using A⟩⟩
 unfold putD;by_cases c:k∈r.map (·.1)
 . rw[if_pos (B.mpr c)];have e:(r.map fun h=>if h.1=k then(h.1,gv r k+x)else h).map (·.1)=r.map (·.1):=by rw[map_map];refine map_congr_left fun y _=>?_;show(if y.1=k then _ else _:Int×Int).1=y.1;split<;>rfl
   refine⟨by rw[e];exact u,by simp,fun h t=>?_,fun W C=>Ck C u c⟩;obtain⟨y,E,rfl⟩:=mem_map.mp t;by_cases z:y.1=k;.rw[if_pos z,z];exact .inl rfl
   .rw[if_neg z];exact .inr E
 . rw[if_neg fun z=>c (B.mp z),Ui c,Int.zero_add];refine⟨?_,by simp,fun h t=>?_,fun W _=>?_⟩;.rw[map_append,nodup_append];exact⟨u,by simp,fun a G b H e=>c (by
      have:b=k:=by simpa using H
      rw[<-this,<-e];exact G)⟩
   . rcases mem_append.mp t with hj|hj;.exact .inr hj
     .exact .inl (mem_singleton.mp hj)
   .rw[An];simp[rT]
theorem Um{v:Int}(h:r.Pairwise (fun a b=>a.1<b.1))(u:∀y∈r,y.1<=k):(putD r k v).Pairwise (fun a b=>a.1<b.1):=by
 unfold putD;split;.rw[List.pairwise_map];refine h.imp fun{a b}e=>?_;split<;>split<;>exact e
 .rename_i A;rw[List.pairwise_append];refine⟨h,by simp,fun a t b B=>?_⟩;have h1:=u a t;have C:a.1≠k:=fun z=>A (any_eq_true.mpr ⟨a,t,by simpa using z⟩);rw[mem_singleton.mp B];show a.1<k;omega
def Ti:D->Int×Int|.tup [.int a,.int b]=>(a,b)|_=>(0,0)
@[simp]theorem agl{a b:Int}:Ti (.tup [.int a,.int b])=(a,b):=rfl
structure Pj(ws:List Wy)(cs:List (List aC×Int))(kvs:List (Int×Int)):Prop where
 nd:(kvs.map (·.1)).Nodup
 len:kvs.length<=cs.length
 nn:∀kv∈kvs,1<=kv.1/\0<kv.2
 key:∀kv∈kvs,∃x∈cs,kv.1=bM ws x.1
 so:kvs.Pairwise (fun a b=>a.1<b.1)sm:∀W,Zo W->rT W kvs=bO (fun x=>W (bM ws x.1) x.2) cs
theorem Pj.put(h:Pj ws cs kvs){x:List aC×Int}(h0:1<=bM ws x.1)(h1:0<x.2)(B:∀y∈cs,bM ws y.1<=bM ws x.1):Pj ws (cs++[x]) (putD kvs (bM ws x.1) (gv kvs (bM ws x.1)+x.2)):=by
 obtain⟨p1,p2,p3,C⟩:=vD (k:=bM ws x.1) (x:=x.2) h.nd;have E:=h.len;refine⟨p1,by simp;omega,fun u t=>?_,fun u t=>?_,Um h.so fun u t=>?_,fun W A=>?_⟩
 . rcases p3 u t with e|e;.have:=Za (k:=bM ws x.1) fun u t=>(h.nn u t).2;rw[e];exact⟨h0,by show 0<_+_;omega⟩
   .exact h.nn u e
 . rcases p3 u t with e|e;.exact⟨x,by simp,by rw[e]⟩
   .obtain⟨y,z,e⟩:=h.key u e;exact⟨y,by simp[z],e⟩
 .obtain⟨y,z,e⟩:=h.key u t;rw[e];exact B y z
 .rw[C W A,h.sm W A,jB]
theorem JC{ws:List Wy}{b:Int}(h0:∀v∈ws,0<=v.h)(t:∀v∈ws,v.h<=1000000):∀{c:List aC}{a:Int},ir ws b c a->bM ws c<=1000000*(c.length:Int)
 |[],_,_=>by simp[bM]|s::c,a,⟨v,e,_,u⟩=>by
   have h1:=JC h0 t u;have y:=t v (mem_of_getElem? e);have z:=h0 v (mem_of_getElem? e);have A:hst ws s<=1000000:=by rw[ie e];unfold hsp;split<;>omega
   rw[bM,length_cons];omega
theorem Pj.few(h:Pj ws cs kvs)(y:∀x∈cs,Chk m ws x)(z:ws.length<=12):kvs.length<=531441:=by
 have h1:=mO (l2:=(sJ ws.length).map fun e=>kZ ws e/7) h.nd fun k t=>by obtain⟨A,u,rfl⟩:=mem_map.mp t;obtain⟨x,B,e⟩:=h.key A u;obtain⟨c1,c2,c3,c4⟩:=y x B;refine mem_map.mpr ⟨DN ws.length x.1,by have:=qp (e:=DN ws.length x.1);rwa[uW]at this,?_⟩;rw[vC c3 c4,e];unfold yr;omega
 rw[length_map,length_map,qH]at h1;have C:3^ws.length<=3^12:=Nat.pow_le_pow_right (by decide) z;have E:(3:Nat)^12=531441:=by decide
 omega
inductive JBn(m:Int)(ws:List Wy)(cs:List (List aC×Int))(r:List D)(ρ:List Sl):Prop where|mk(bZ us:List (List aC×Int))(kvs:List (Int×Int))(s2 s3 s4:Sl)(q0:ρ=[.val false (aN m ws),.gQ (.k kvs),s2,s3,s4])(q1:A3 (fr s2=true) (fr s3=true) (fr s4=true))(q2:r=us.map cD)(q3:bZ++us=cs)(q4:Pj ws bZ kvs)
theorem tO(Y:13286250<=w)(h:dg m ws)(k:∀cs fs F d es kvs,kvs.length<=531441->Ends m ws cs fs F d es->Pj ws cs kvs->kvs.Pairwise (fun a b=>a.1<b.1)->(∀G∈kvs,G.1<=5000000)->Q (.own (kvs.map jw)) [.val false (aN m ws)]):(run Γ w (n+5) 10 [.val false (aN m ws)]).sat Q:=by
 refine aJ (d:=f10) rfl rfl (by decide) ?_;symm;simp[f10,Nq];apply ak;simp;refine xj Y (HN.of h) (fun v B=>(h.ok v B).r0) fun cs fs F d es hl z=>?_;simp;refine cU (JBn m ws cs) ?_ ?_ ⟨[],cs,[],.aQ,.aQ,.aQ,rfl,⟨rfl,rfl,rfl⟩,rfl,rfl,⟨by simp,by simp,by simp,by simp,by simp,fun W _=>rfl⟩⟩;.rintro d r _⟨C,A,kvs,s2,s3,s4,rfl,⟨H,O,U⟩,hr,hd,t⟩;cases A with|nil=>cases hr|cons u A=>
     obtain⟨rfl,rfl⟩:d=cD u/\r=A.map cD:=by simpa using hr
     have I:u∈cs:=by rw[<-hd];simp
     have E:=z.ck u I;have Z:C.length<=cs.length:=by rw[<-hd];simp
     have J:=t.len;have L:(C++[u])++A=cs:=by rw[append_assoc];exact hd
     simp[cD,H,O];apply ak;simp;refine zO E.2.1 (by have:=E.1;omega) ?_;simp[U];apply ak;simp[Nk,Q7,Ux];rw[XM (by show _<16777216;omega)];simp;refine⟨C++[u],A,_,_,_,_,rfl,⟨rfl,rfl,rfl⟩,rfl,L,t.put ((z.iv.nn fun v B=>(h.ok v B).h0).2 u I) (z.iv.ch u I).2.1 fun y hy=>?_⟩;have hst:=z.st.1;rw[<-hd,List.pairwise_append]at hst;exact hst.2.2 y hy u (by simp)
 . rintro _⟨C,A,kvs,s2,s3,s4,rfl,⟨H,O,U⟩,hr,hd,t⟩;have:A=[]:=by cases A with|nil=>rfl|cons _ _=>cases hr
   subst this;rw[append_nil]at hd;subst hd;have J:=t.len;simp;apply ak;simp[show kvs.length<=16777216 by omega,t.so];refine k C fs F d es kvs (t.few z.ck (HN.of h).len) z t t.so fun G M=>?_;obtain⟨x,X,e⟩:=t.key G M;have h1:=JC (fun v B=>((HN.of h).ok v B).2.2) (fun v B=>(h.ok v B).h1) (z.ck x X).2.2.1;have H:=(z.ck x X).1;rw[e];omega
def vt(T k v:Int):Int:=if k<=T then v*(T-k+1)else 0
def gt(T k v:Int):Int:=if k<=T then v else 0
theorem Tc{T:Int}:Zo (vt T):=fun k a b=>by
 unfold vt;split;.exact Int.add_mul ..
 .rfl
theorem Rg{T:Int}:Zo (gt T):=fun k a b=>by unfold gt;split<;>rfl
def cV(m:Int)(ws:List Wy)(cs:List (List aC×Int)):Prop:=(∀v∈ws,1<=v.h)/\∃fs F d es,Ends m ws cs fs F d es
def Rt(ws:List Wy)(cs:List (List aC×Int))(T:Int):Int:=bO (fun x=>gt T (bM ws x.1) x.2) cs
def U3(cs:List (List aC×Int)):Int:=bO (fun x=>x.2) cs
theorem dJ.uniq{T v e:Int}(h:dJ m ws T v)(h':dJ m ws T e):v=e:=by obtain⟨q,t,u,y⟩:=h.ex;obtain⟨r,r0,r1,z⟩:=h'.ex;have:=h.le r r0 r1;have:=h'.le q t u;omega
theorem cV.least{m:Int}{ws:List Wy}{cs:List (List aC×Int)}(h:cV m ws cs){T:Int}(h0:0<=T):dJ m ws T (val ws T cs):=by obtain⟨t,fs,F,d,es,e⟩:=h;exact e.iv.least e.cm e.no h0
theorem xT{H K:List aC×Int->Int}:∀{cs:List (List aC×Int)},bO (fun x=>H x-K x) cs=bO H cs-bO K cs|[]=>rfl|x::cs=>by rw[bO,bO,bO,xT];omega
theorem uP{H K:List aC×Int->Int}:∀{cs:List (List aC×Int)},(∀x∈cs,H x<=K x)->bO H cs<=bO K cs|[],_=>Int.le_refl _|x::cs,h=>by have h1:=h x (by simp);have t:=uP (H:=H) (K:=K) (cs:=cs) fun y e=>h y (by simp[e]);rw[bO,bO];omega
theorem zf{T:Int}:Rt ws cs T=val ws T cs-val ws (T-1) cs:=by
 unfold Rt val;rw[<-xT];refine iY fun x _=>?_;show gt T (bM ws x.1) x.2=vt T (bM ws x.1) x.2-vt (T-1) (bM ws x.1) x.2;unfold gt vt;by_cases c:bM ws x.1<=T-1;.rw[if_pos (by omega),if_pos (by omega),if_pos c,<-Int.mul_sub,show T-bM ws x.1+1-(T-1-bM ws x.1+1)=1 by omega,mul_one]
 . by_cases c2:bM ws x.1<=T;.rw[if_pos c2,if_pos c2,if_neg c,show T-bM ws x.1+1=1 by omega,mul_one];omega
   .rw[if_neg c2,if_neg c2,if_neg c];rfl
theorem cV.nn{m:Int}{ws:List Wy}{cs:List (List aC×Int)}(h:cV m ws cs):∀x∈cs,1<=bM ws x.1/\0<x.2:=by obtain⟨e,fs,F,d,es,t⟩:=h;exact fun x u=>⟨(t.iv.nn e).2 x u,(t.iv.ch x u).2.1⟩
theorem cV.cX(h:cV m ws cs){T:Int}(h0:T<=0):val ws T cs=0:=by
 have:val ws T cs=bO (fun _=>0) cs:=iY fun x e=>by have:=(h.nn x e).1;show vt T (bM ws x.1) x.2=0;unfold vt;rw[if_neg (by omega)]
 rw[this];clear this h;induction cs with|nil=>rfl|cons x cs t=>rw[bO,t];rfl
theorem cV.val_eq{e:List (List aC×Int)}(h:cV m ws cs)(h':cV m ws e)(T:Int):val ws T cs=val ws T e:=by
 by_cases c:0<=T;.exact(h.least c).uniq (h'.least c)
 .rw[h.cX (by omega),h'.cX (by omega)]
theorem cV.Oj{e:List (List aC×Int)}(h:cV m ws cs)(h':cV m ws e)(T:Int):Rt ws cs T=Rt ws e T:=by rw[zf,zf,h.val_eq h',h.val_eq h']
theorem cV.mono(h:cV m ws cs){T U:Int}(t:T<=U):Rt ws cs T<=Rt ws cs U:=uP fun x e=>by have:=(h.nn x e).2;unfold gt;split<;>split<;>omega
theorem cV.Xr(h:cV m ws cs){T:Int}:Rt ws cs T<=U3 cs:=uP fun x e=>by have:=(h.nn x e).2;unfold gt;split<;>omega
theorem cV.XX(h:cV m ws cs){T:Int}:0<=Rt ws cs T:=by
 have h1:=h.mono (T:=min T 0) (U:=T) (by omega);have:Rt ws cs (min T 0)=0:=by rw[zf,h.cX (by omega),h.cX (by omega)];rfl
 omega
def moD(T:Int)(d:D):Option D:=if(Ti d).1<=T then some (.int ((Ti d).2*(T-(Ti d).1+1)))else none
theorem JK{T:Int}:∀(kvs:List (Int×Int)),∃ns:List Int,(kvs.map jw).filterMap (moD T)=ns.map D.int/\ns.sum=rT (vt T) kvs
 |[]=>⟨[],rfl,rfl⟩|kv::r=>by
   obtain⟨ns,h1,h⟩:=JK (T:=T) r;have e:moD T (jw kv)=if kv.1<=T then some (.int (kv.2*(T-kv.1+1)))else none:=rfl;rw[map_cons,filterMap_cons,h1,rT,<-h,e];unfold vt;by_cases c:kv.1<=T;.rw[if_pos c,if_pos c];exact⟨_::ns,rfl,by rw[sum_cons]⟩
   .rw[if_neg c,if_neg c];exact⟨ns,rfl,by omega⟩
inductive F2t(a b:Sl)(ρ:List Sl):Prop where|mk(s:Sl)(t:Sl)(q0:ρ=[a,b,s,t])(q1:fr s=true)(q2:fr t=true)
theorem yF{T:Int}{s:Sl}(hs:s=.own false (kvs.map jw)\/s=.val false (.lst (kvs.map jw)))(A:kvs.length<=16000000)(h0:∀h∈kvs,1<=h.1/\0<h.2)(B:T<=1000000000000000000)(k:Q (.val (.int (rT (vt T) kvs))) [s,.val false (.int T)]):(run Γ w (n+1) 21 [s,.val false (.int T)]).sat Q:=by refine aJ (d:=f21) rfl rfl (by decide) ?_;symm;rcases hs with rfl|rfl;all_goals
  simp[f21,show kvs.length<=16777216 by omega];refine tR (F2t _ _) (moD T) ⟨.aQ,.aQ,rfl,rfl,rfl⟩ ?_ ?_
  . rintro d hd _⟨s,t,rfl,hs,ht⟩;obtain⟨h,u,rfl⟩:=mem_map.mp hd;have:=(h0 h u).1;have e:moD T (jw h)=if h.1<=T then some (.int (h.2*(T-h.1+1)))else none:=rfl;by_cases c:h.1<=T
    . rw[if_pos c]at e;have y:oU (.int h.2) (.int (T-h.1+1))=some (.val (.int (h.2*(T-h.1+1)))):=by show(if _ then _ else _)=_;rw[if_pos];right;omega
      rw[e];simp[hs,ht,jw,c,y];exact⟨_,_,rfl,rfl,rfl⟩
    .rw[if_neg c]at e;rw[e];simp[hs,ht,jw,c];exact⟨_,_,rfl,rfl,rfl⟩
  .rintro _⟨s,t,rfl,hs,ht⟩;obtain⟨ns,h1,z⟩:=JK (T:=T) kvs;rw[h1];simp[iJ,z];exact k
theorem yL{T:Int}(t:13286250<=w)(h:dg m ws)(u:T<=1000000000000000000)(k:∀cs,cV m ws cs->Q (.val (.int (val ws T cs))) [.val false (aN m ws),.val false (.int T)]):(run Γ w (n+6) 22 [.val false (aN m ws),.val false (.int T)]).sat Q:=by refine aJ (d:=f22) rfl rfl (by decide) ?_;symm;simp[f22];refine tO t h fun cs fs F d es kvs A y e _ _=>?_;simp;refine yF (.inl rfl) (by omega) e.nn u ?_;simp;rw[e.sm _ Tc];exact k cs ⟨fun v z=>(h.ok v z).h0,fs,F,d,es,y⟩
def byD(T:Int)(d:D):Option D:=if(Ti d).1<=T then some d else none
def sG(T:Int)(kvs:List (Int×Int)):List (Int×Int):=kvs.filter fun e=>decide (e.1<=T)
theorem Jg{T:Int}:∀{kvs:List (Int×Int)},(kvs.map jw).filterMap (byD T)=(sG T kvs).map jw
 |[]=>rfl|kv::r=>by
   have e:byD T (jw kv)=if kv.1<=T then some (jw kv)else none:=rfl;rw[map_cons,filterMap_cons,Jg,e];unfold sG;rw[List.filter_cons];by_cases c:kv.1<=T;.rw[if_pos c,if_pos (by simpa using c)];rfl
   .rw[if_neg c,if_neg (by simpa using c)]
theorem Br{T:Int}:∀{kvs:List (Int×Int)},((sG T kvs).map (·.2)).sum=rT (gt T) kvs
 |[]=>rfl|kv::r=>by
   have e:=Br (T:=T) (kvs:=r);unfold sG at e ⊢;rw[List.filter_cons,rT];unfold gt at*;by_cases c:kv.1<=T;.rw[if_pos (by simpa using c),if_pos c,map_cons,sum_cons,e]
   .rw[if_neg (by simpa using c),if_neg c,e];omega
theorem xR{T:Int}(u:13286250<=w)(h:dg m ws)(k:∀cs kvs,kvs.length<=531441->cV m ws cs->Pj ws cs kvs->Q (.own ((sG T kvs).map jw)) [.val false (aN m ws),.val false (.int T)]):(run Γ w (n+6) 20 [.val false (aN m ws),.val false (.int T)]).sat Q:=by
 refine aJ (d:=f20) rfl rfl (by decide) ?_;symm;simp[f20];refine tO u h fun cs fs F d es kvs y z A _ _=>?_;simp[show kvs.length<=16777216 by omega];refine tR (F2s _ _) (byD T) ⟨.aQ,rfl,rfl⟩ ?_ ?_
 . rintro d hd _⟨s,rfl,hs⟩;obtain⟨t,B,rfl⟩:=mem_map.mp hd;have e:byD T (jw t)=if t.1<=T then some (jw t)else none:=rfl;by_cases c:t.1<=T;.rw[if_pos c]at e;rw[e];simp[hs,jw,c];exact⟨_,rfl,rfl⟩
   .rw[if_neg c]at e;rw[e];simp[hs,jw,c];exact⟨_,rfl,rfl⟩
 .rintro _⟨s,rfl,hs⟩;rw[Jg];simp;exact k cs kvs y ⟨fun v C=>(h.ok v C).h0,fs,F,d,es,z⟩ A
def Tn(d:D):D:=.int (Ti d).2
theorem zY{T:Int}(A:13286250<=w)(h:dg m ws)(k:∀cs,cV m ws cs->Q (.val (.int (Rt ws cs T))) [.val false (aN m ws),.val false (.int T)]):(run Γ w (n+7) 23 [.val false (aN m ws),.val false (.int T)]).sat Q:=by
 refine aJ (d:=f23) rfl rfl (by decide) ?_;symm;simp[f23];refine xR A h fun cs kvs G B C=>?_;have u:(sG T kvs).length<=16777216:=by have:=List.length_filter_le (fun y:Int×Int=>decide (y.1<=T)) kvs;unfold sG;omega
 simp[u];refine bQ (F2t _ _) Tn ⟨.aQ,.aQ,rfl,rfl,rfl⟩ ?_ ?_;.rintro d hd _⟨s,t,rfl,hs,ht⟩;obtain⟨y,E,rfl⟩:=mem_map.mp hd;simp[hs,ht,jw,Tn,Ti];exact⟨_,_,rfl,rfl,rfl⟩
 . rintro _⟨s,t,rfl,hs,ht⟩;have e:((sG T kvs).map jw).map Tn=((sG T kvs).map (·.2)).map D.int:=by rw[map_map,map_map];rfl
   rw[e];have z:=Br (T:=T) (kvs:=kvs);rw[C.sm _ Rg]at z;generalize(sG T kvs).map (·.2)=ns at*;simp[iJ,z];exact k cs B
def lW:List (List aC×Int)->Int->List (List aC×Int)|[],_=>[]|x::r,q=>(x.1,min q x.2)::lW r (q-min q x.2)
def Ov:List (List aC×Int)->Int->Int|[],q=>q|x::r,q=>Ov r (q-min q x.2)
theorem Lf:∀{l:List (List aC×Int)}{q:Int},(lW l q).length=l.length|[],_=>rfl|x::r,q=>by rw[lW,length_cons,Lf,length_cons]
theorem Bw:∀{l:List (List aC×Int)}{q:Int}{y:List aC×Int},y∈lW l q->∃x∈l,y.1=x.1
 |[],_,_,h=>by cases h|x::r,q,y,h=>by
   rw[lW,mem_cons]at h;rcases h with rfl|h;.exact⟨x,by simp,rfl⟩
   .obtain⟨z,hz,e⟩:=Bw h;exact⟨z,by simp[hz],e⟩
theorem Qh:∀{l:List (List aC×Int)}{q:Int},(∀x∈l,0<x.2)->0<=q->q<=U3 l->Ov l q=0
 |[],q,_,h0,h1=>by have h1:q<=0:=h1;rw[Ov];omega|x::r,q,h,h0,h1=>by
   have A:=h x (by simp);have h1:q<=x.2+U3 r:=h1;have hr:0<=U3 r:=by
    have:∀(l:List (List aC×Int)),(∀x∈l,0<x.2)->0<=U3 l:=fun l=>by induction l with|nil=>intro _;exact Int.le_refl _|cons y l t=>intro e;have B:=t fun z hz=>e z (by simp[hz]);have C:=e y (by simp);show 0<=y.2+U3 l;omega
    exact this r fun z hz=>h z (by simp[hz])
   rw[Ov];exact Qh (fun y u=>h y (by simp[u])) (by omega) (by omega)
inductive JCu(a0 a1:Sl)(N:Nat)(out:List (List aC×Int))(z:Int)(r:List D)(ρ:List Sl):Prop where|mk(us bZ:List (List aC×Int))(q:Int)(s4 s5 s6:Sl)(q0:ρ=[a0,a1,.own false (bZ.map cD),.val false (.int q),s4,s5,s6])(q1:A3 (fr s4=true) (fr s5=true) (fr s6=true))(q2:r=us.map cD)(q3:bZ++lW us q=out)(q4:Ov us q=z)(q5:bZ.length+us.length=N)
theorem Fe{q:Int}(C:cs.length<=16000000)(hz:Ov cs q=0)(k:Q (.own ((lW cs q).map cD)) [.own false (cs.map cD),.val false (.int q)]):(run Γ w (n+1) 9 [.own false (cs.map cD),.val false (.int q)]).sat Q:=by
 refine aJ (d:=f9) rfl rfl (by decide) ?_;symm;simp[f9];apply ak;simp;apply ak;simp;refine cU (JCu _ _ cs.length (lW cs q) 0) ?_ ?_ ⟨cs,[],q,.aQ,.aQ,.aQ,rfl,⟨rfl,rfl,rfl⟩,rfl,rfl,hz,by simp⟩;.rintro d r _⟨e,h,q,s4,s5,s6,rfl,⟨t,y,z⟩,hr,ho,hz,A⟩;cases e with|nil=>cases hr|cons u e=>
     obtain⟨rfl,rfl⟩:d=cD u/\r=e.map cD:=by simpa using hr
     rw[lW]at ho;rw[Ov]at hz;rw[length_cons]at A;simp[cD,t,y];apply ak;simp[z];apply ak;simp[show h.length<16777216 by omega];apply ak;simp;have B:(if u.2<q then u.2 else q)=min q u.2:=by split<;>omega
     rw[B];exact⟨e,h++[(u.1,min q u.2)],q-min q u.2,_,_,_,by rw[map_append];rfl,⟨rfl,rfl,rfl⟩,rfl,by rw[append_assoc];exact ho,hz,by simp;omega⟩
 . rintro _⟨e,h,q,s4,s5,s6,rfl,⟨t,y,z⟩,hr,ho,hz,A⟩;have:e=[]:=by cases e with|nil=>rfl|cons _ _=>cases hr
   subst this;rw[lW,append_nil]at ho;rw[Ov]at hz;subst ho;subst hz;simp;apply ak;simp;apply ak;simp;exact k
theorem FZ{fs:List Int}:∀{c:List aC},aug 0 fs c=fs
 |[]=>rfl|s::c=>by
   show aug 0 (jm 0 fs s) c=fs;have:jm 0 fs s=fs:=by
    unfold jm;have h0:sg 0 s.2=0:=by cases s.2<;>rfl
    rw[h0,Int.add_zero];refine List.ext_getElem? fun i=>?_;rw[getElem?_set];split
    . rename_i e;subst e;split;.rename_i h;simp[h]
      .rename_i h;simp at h;simp[h]
    .rfl
   rw[this,FZ]
structure NT(m:Int)(ws:List Wy)(ts:List (List aC×Int))(fs:List Int):Prop where
 fit:Kl ws fs
 ht:∃F,Pt ws fs F/\F 0=0
 dt:∀k q,eX (gap k q) ws fs=bO (fun x=>x.2*(q (m-1)-q 0-k*bM ws x.1)) ts
theorem Hr:∀{l:List (List aC×Int)}{fs:List Int}{H:List aC×Int->Int},(∀x∈l,0<x.2)->(∀c,H (c,0)=0)->(lW l 0).foldl oO fs=fs/\bO H (lW l 0)=0
 |[],_,_,_,_=>⟨rfl,rfl⟩|x::r,fs,H,h,t=>by
   have B:=h x (by simp);have u:=Hr (l:=r) (fs:=fs) (fun y z=>h y (by simp[z])) t;have e:lW (x::r) 0=(x.1,0)::lW r 0:=by rw[lW,show min 0 x.2=0 by omega,Int.sub_self]
   rw[e,foldl_cons,bO,t,u.2];have A:oO fs (x.1,0)=fs:=FZ;rw[A];exact⟨u.1,rfl⟩
theorem oM{H:List aC×Int->Int}{b:List (List aC×Int)}:∀{a:List (List aC×Int)},bO H (a++b)=bO H a+bO H b|[]=>by simp[bO]|x::a=>by rw[cons_append,bO,bO,oM];omega
theorem Ends.light{d:Int}{fs:List Int}(B:Ends m ws cs fs F d es):∀(t A:List (List aC×Int))(q:Int),A++t=cs->0<=q->NT m ws (A++lW t q) ((lW t q).foldl oO (flow ws.length A)):=by
 have pos:∀x∈cs,0<x.2:=fun x I=>(B.iv.ch x I).2.1;have C:∀A t,A++t=cs->NT m ws A (flow ws.length A):=fun A t e=>by cases t with|nil=>rw[append_nil]at e;subst e;rw[<-B.fl];exact⟨B.iv.fit,⟨F,B.iv.pt,B.iv.z⟩,B.iv.dt⟩|cons x r=>have s:=B.st.2 A x r e.symm;obtain⟨J,d0,iv⟩:=s.iv;exact⟨iv.fit,⟨J,iv.pt,iv.z⟩,iv.dt⟩
 have zero:∀(t E:List (List aC×Int))(gs:List Int),(∀x∈t,0<x.2)->NT m ws E gs->NT m ws (E++lW t 0) ((lW t 0).foldl oO gs):=fun t E gs L h=>by have hz:=fun H M=>Hr (l:=t) (fs:=gs) (H:=H) L M;rw[(hz (fun _=>0) fun _=>rfl).1];refine⟨h.fit,h.ht,fun k q=>?_⟩;rw[oM,(hz (fun x=>x.2*(q (m-1)-q 0-k*bM ws x.1)) fun c=>by simp).2,h.dt,Int.add_zero]
 intro t;induction t with|nil=>intro A q e _;rw[lW,append_nil];exact C A [] e|cons x r O=>
   intro A q e Y;have I:=pos x (by rw[<-e];simp);have hr:∀y∈r,0<y.2:=fun y U=>pos y (by rw[<-e];simp[U]);rw[lW];by_cases c:x.2<=q
   . have G:min q x.2=x.2:=by omega
     rw[G];have:=O (A++[x]) (q-x.2) (by rw[append_assoc];exact e) (by omega);rw[append_assoc,qi]at this;exact this
   . have G:min q x.2=q:=by omega
     rw[G,Int.sub_self,foldl_cons];have s:=B.st.2 A x r e.symm;have ck:=B.ck x (by rw[<-e];simp);obtain⟨F1,p1,p2,p3⟩:=s.ht;obtain⟨J,d0,iv⟩:=s.iv;have g:NT m ws (A++[(x.1,q)]) (oO (flow ws.length A) (x.1,q)):=by
      show NT m ws _ (aug q (flow ws.length A) x.1);refine⟨?_,⟨F1,p1.aug ck.2.2.1 s.op (by rw[p2,p3];omega),p2⟩,fun k Z=>?_⟩
      . by_cases z:q=0;.subst z;rw[FZ];exact iv.fit
        .refine iv.fit.aug ck.2.2.2 (by omega) fun u W=>?_;obtain⟨v,g,h1,X,h3⟩:=s.rm u W;exact⟨v,g,h1,X,by omega⟩
      .rw[pL iv.fit.len ck.2.2.1,iv.dt,jB]
     have:=zero r _ _ hr g;rw[append_assoc]at this;exact this
theorem G7{ws:List Wy}{T:Int}:∀{cs:List (List aC×Int)},cs.Pairwise (fun a b=>bM ws a.1<=bM ws b.1)->(∀x∈cs,0<x.2)->0<=Rt ws cs T/\bO (fun x=>x.2*(T+1-bM ws x.1)) (lW cs (Rt ws cs T))=val ws T cs
 |[],_,_=>⟨Int.le_refl _,rfl⟩|x::r,t,h=>by
   have G:=h x (by simp);have t:=List.pairwise_cons.mp t;obtain⟨H,e⟩:=G7 (T:=T) t.2 fun y hy=>h y (by simp[hy]);have u:Rt ws (x::r) T=gt T (bM ws x.1) x.2+Rt ws r T:=rfl;have A:val ws T (x::r)=vt T (bM ws x.1) x.2+val ws T r:=rfl;by_cases c:bM ws x.1<=T
   . have B:gt T (bM ws x.1) x.2=x.2:=by unfold gt;rw[if_pos c]
     have C:vt T (bM ws x.1) x.2=x.2*(T+1-bM ws x.1):=by unfold vt;rw[if_pos c];congr 1;omega
     rw[u,A,B,C,lW,show min (x.2+Rt ws r T) x.2=x.2 by omega,show x.2+Rt ws r T-x.2=Rt ws r T by omega,bO,e];exact⟨by omega,rfl⟩
   . have z:∀y∈x::r,¬ bM ws y.1<=T:=fun y hy=>by
      rcases mem_cons.mp hy with rfl|hy;.exact c
      .have:=t.1 y hy;omega
     have r0:Rt ws (x::r) T=0:=by
      have:Rt ws (x::r) T=bO (fun _=>0) (x::r):=iY fun y hy=>by unfold gt;rw[if_neg (z y hy)]
      rw[this];have:∀l:List (List aC×Int),bO (fun _=>0) l=0:=fun l=>by induction l with|nil=>rfl|cons y l e=>rw[bO,e];rfl
      exact this _
     have E:val ws T (x::r)=0:=by
      have:val ws T (x::r)=bO (fun _=>0) (x::r):=iY fun y hy=>by unfold QF;rw[if_neg (z y hy)]
      rw[this];have:∀l:List (List aC×Int),bO (fun _=>0) l=0:=fun l=>by induction l with|nil=>rfl|cons y l e=>rw[bO,e];rfl
      exact this _
     rw[r0,E];exact⟨Int.le_refl _,(Hr (fs:=[]) h fun c=>by simp).2⟩
def late(ws:List Wy):Int:=nR (fun v=>v.h) ws
theorem Az{ws:List Wy}{b:Int}{t:aC}{v:Wy}(e:ws[t.1]?=some v):∀{c:List aC}{a:Int},ir ws b c a->t∈c->frm v t.2∈qe ws c a/\too v t.2∈qe ws c a
 |[],_,_,h=>by cases h|s::c,a,⟨y,u,z,A⟩,h=>by
   have B:qz ws s=too y s.2:=by unfold qz;rw[u]
   rw[qe,B];rcases mem_cons.mp h with rfl|h;.rw[e]at u;cases u;refine⟨by rw[z];simp,mem_cons_of_mem _ ?_⟩;cases c<;>simp[qe]
   .have:=Az e A h;exact⟨mem_cons_of_mem _ this.1,mem_cons_of_mem _ this.2⟩
theorem Cp{ws:List Wy}{b:Int}:∀{c:List aC}{a:Int},ir ws b c a->(qe ws c a).Nodup->(c.map (·.1)).Nodup
 |[],_,_,_=>by simp|s::c,a,⟨v,e,A,B⟩,h=>by
   have C:qz ws s=too v s.2:=by unfold qz;rw[e]
   rw[qe,C,nodup_cons]at h;rw[map_cons,nodup_cons];refine⟨fun E=>?_,Cp B h.2⟩;obtain⟨t,ht,y⟩:=mem_map.mp E;have u:=Az (t:=t) (by rw[y];exact e) B ht;by_cases z:t.2=s.2;.rw[z,A]at u;exact h.1 u.1
   .rw[(kO z).2,A]at u;exact h.1 u.2
theorem Uc(u:∀v∈ws,0<=v.h)(y:ir ws b c a)(A:(c.map (·.1)).Nodup):0<=late ws+bM ws c:=by
 have h1:=pL (k:=1) (x:=1) (q:=fun _=>0) (fs:=replicate ws.length 0) (by simp) y;rw[qu]at h1;have E:eX (gap 1 fun _=>0) ws (aug 1 (replicate ws.length 0) c)<=late ws:=by
  refine zp (by rw[mq];simp) fun j v g t e=>?_;have G:=u v (mem_of_getElem? t);have B:g=0\/g=1\/g=-1:=by
   by_cases z:j∈c.map (·.1);.obtain⟨s,hs,rfl⟩:=mem_map.mp z;have C:s.1<ws.length:=(dB t).1;rw[uC A hs (g:=0) (by simp[C])]at e;cases e;cases s.2<;>simp[sg]
   .rw[mG z]at e;exact .inl (u0 e)
  unfold gap;rcases B with rfl|rfl|rfl<;>simp<;>omega
 omega
def tK(m:Int)(L:Int)(i:Nat):List (Int×Int):=(0,0)::(List.range i).map fun(j:Nat)=>(1+(j:Int),L)
theorem j9{L:Int}{i:Nat}:(a,b)∈tK m L i↔(a=0/\b=0)\/(1<=a/\a<1+(i:Int)/\b=L):=by
 unfold tK;rw[mem_cons,mem_map];constructor
 . rintro(h|⟨j,e,h⟩);.cases h;exact .inl ⟨rfl,rfl⟩
   .cases h;have:=mem_range.mp e;exact .inr ⟨by omega,by omega,rfl⟩
 . rintro(⟨rfl,rfl⟩|⟨h1,t,rfl⟩);.exact .inl rfl
   .exact .inr ⟨(a-1).toNat,mem_range.mpr (by omega),by rw[Prod.mk.injEq];exact⟨by omega,rfl⟩⟩
theorem Iz{L:Int}{i:Nat}:tK m L (i+1)=tK m L i++[(1+(i:Int),L)]:=by unfold tK;rw[List.range_succ,map_append];rfl
theorem Rr{L:Int}{i:Nat}:((tK m L i).map (·.1)).Nodup:=by
 unfold tK;rw[map_cons,map_map,nodup_cons];refine⟨fun h=>?_,?_⟩;.obtain⟨j,_,e⟩:=mem_map.mp h;have e:1+(j:Int)=0:=e;omega
 .refine List.Pairwise.map _ (fun a b(h:a≠b)=>?_) List.nodup_range;show 1+(a:Int)≠1+(b:Int);omega
def bD(p:Int×Int):Int×D:=(p.1,.int p.2)
theorem PK{bs:List (Int×Int)}:DY (bs.map bD)=bs.map (·.1):=by simp[DY,bD,Function.comp_def]
theorem Yx{bs:List (Int×Int)}:dsV (bs.map bD)=bs.map fun p=>.int p.2:=by simp[dsV,bD,Function.comp_def]
theorem Zt{bs:List (Int×Int)}(h:p∉bs.map (·.1)):o5 (bs.map bD) p=false:=by cases e:o5 (bs.map bD) p with|false=>rfl|true=>have e:(DY (bs.map bD)).contains p=true:=e;rw[PK,contains_iff_mem]at e;exact absurd e h
theorem Mt{c:Call}{x:Nat}{e:Int}:ex c n (.JZ x k e) ρ=match ρ[x]?with|some .aQ=>.ok .next (ρ.set x (.cF [(k,.int e)]))|some (.cF _)=>.ok .next (ρ.set x (.cF [(k,.int e)]))|some (.val false _)=>.ok .next (ρ.set x (.cF [(k,.int e)]))|_=>.stuck:=(rfl)
def hD4(d:D):D:=match d with|.tup [_,_,_,h]=>h|_=>d
@[simp]theorem agY{a b c h:D}:hD4 (.tup [a,b,c,h])=h:=rfl
theorem wZ:∀{ws:List Wy},(ws.map Wy.h).sum=late ws|[]=>rfl|v::ws=>by rw[map_cons,sum_cons,wZ];rfl
inductive F6c(a0 a1 a2 a3 a4 a5:Sl)(ρ:List Sl):Prop where|mk(s:Sl)(q0:ρ=[a0,a1,a2,a3,a4,a5,s])(q1:fr s=true)
inductive JFc(m:Int)(ws:List Wy)(a0 a1:Sl)(i:Nat)(ρ:List Sl):Prop where|mk(s4:Sl)(q0:ρ=[a0,a1,.val false (.int (late ws)),.cF ((tK m (late ws) i).map bD),s4,.aQ])(q1:fr s4=true)
def WT(es:List En)(p:Int):Int:=Ek (fun _=>0) 0 es p
def lbD(es:List En):D->D|.int p=>.int (WT es p)|d=>d
theorem zr{s:Sl}{fs:List Int}(hw:100<=w)(hs:Q6 s fs)(h:HN m ws)(E:fs.length=ws.length)(I:Pt ws fs F)(k:∀es,yd m ws fs (tK m (late ws) (m-1).toNat) es->Q (.own (((List.range m.toNat).map fun(i:Nat)=>WT es (i:Int)).map D.int)) [.val false (aN m ws),s]):(run Γ w (n+4) 18 [.val false (aN m ws),s]).sat Q:=by
 have m0:=h.m0;have m1:=h.m1;have hn:=h.len;have X:∀v∈ws,0<=v.h:=fun v hv=>(h.ok v hv).2.2;have ac:0<=late ws:=by
  have:∀(l:List Wy),(∀v∈l,0<=v.h)->0<=late l:=fun l=>by induction l with|nil=>intro _;exact Int.le_refl _|cons v l ih=>intro E;have h1:=E v (by simp);have J:=ih fun u hu=>E u (by simp[hu]);show 0<=v.h+late l;omega
  exact this ws X
 refine aJ (d:=f18) rfl rfl (by decide) ?_;refine bK (fun ρ=>ρ=[.val false (aN m ws),s,.val false (.int (late ws)),.aQ,.aQ,.aQ]) ?_ ?_
 . simp[f18,show ws.length<=16777216 by omega];refine bQ (F6c _ _ _ _ _ _) hD4 ⟨.aQ,rfl,rfl⟩ ?_ ?_;.rintro d hd _⟨B,rfl,t⟩;obtain⟨v,_,rfl⟩:=mem_map.mp hd;simp[t,Wy.d];exact⟨_,rfl,rfl⟩
   . rintro _⟨B,rfl,t⟩;have e:(ws.map Wy.d).map hD4=(ws.map Wy.h).map D.int:=by rw[map_map,map_map];rfl
     rw[e];have e2:=wZ (ws:=ws);generalize ws.map Wy.h=ns at*;simp[iJ,e2]
 rintro _ rfl;symm;simp[Mt];refine bK (JFc m ws (.val false (aN m ws)) s (m-1).toNat) ?_ ?_
 . simp[show m<=1000000000 by omega,show-1000000000<=m by omega];rw[show m.toNat-1=(m-1).toNat by omega];refine fc (JFc m ws (.val false (aN m ws)) s) ?_ ?_ ⟨.aQ,rfl,rfl⟩
   . rintro i _ hi⟨s4,rfl,G⟩;have L:o5 ((tK m (late ws) i).map bD) (1+(i:Int))=false:=Zt fun z=>by obtain⟨⟨a,b⟩,y,e⟩:=mem_map.mp z;have e:a=1+(i:Int):=e;rcases j9.mp y with⟨h1,_⟩|⟨h1,J,_⟩<;>omega
     have H:fX ((tK m (late ws) i).map bD) (1+(i:Int)) (.int (late ws))=(tK m (late ws) (i+1)).map bD:=by rw[lY L,Iz,map_append];rfl
     simp[G];apply ak;simp[H];refine⟨fun _=>⟨_,rfl,rfl⟩,?_⟩;have:(tK m (late ws) i).length=i+1:=by simp[tK]
     show _<16777216;omega
   .rintro _⟨s4,rfl,G⟩;exact⟨rfl,_,rfl,G⟩
 rintro _⟨s4,rfl,G⟩;have Y:∀a b,(a,b)∈tK m (late ws) (m-1).toNat->0<=a/\a<m:=fun a b y=>by rcases j9.mp y with⟨h1,_⟩|⟨h1,J,_⟩<;>omega
 have hZ:∀a b c,(a,b)∈tK m (late ws) (m-1).toNat->ir ws 0 c a->sE ws fs c->0<=b+bM ws c:=fun a b c y H ho=>by
  obtain⟨c',Z,q2,q3,q4,q5⟩:=short h I (Y a b y) _ (dz) H ho;have h1:=Uc X Z (Cp Z q5);have J:bM ws c'<=bM ws c:=by unfold Le at q4;omega
  rcases j9.mp y with⟨rfl,rfl⟩|⟨_,_,rfl⟩;.have:=lE I H ho;omega
  .omega
 have M:∀{n:Nat}{Q:R->List Sl->Prop}(B:Sl),Q6 B fs->(∀es,yd m ws fs (tK m (late ws) (m-1).toNat) es->Q (.val (jy es)) [.val false (aN m ws),B,vU (tK m (late ws) (m-1).toNat)])->(run Γ w (n+3) 5 [.val false (aN m ws),B,vU (tK m (late ws) (m-1).toNat)]).sat Q:=fun B t k'=>tE hw I Y (j9.mpr (.inl ⟨rfl,rfl⟩)) Rr hZ t h E k';generalize O:tK m (late ws) (m-1).toNat=bs at*;symm;rcases hs with rfl|⟨b,rfl⟩;all_goals
  simp[PK,Yx];refine M _ (by first|exact .inl rfl|exact .inr ⟨_,rfl⟩) fun es A=>?_;simp;apply ak;simp[show m<=1000000000 by omega,show-1000000000<=m by omega];refine⟨fun _=>?_,by show _<=16777216;omega⟩;refine bQ (F6c _ _ _ _ _ _) (lbD es) ⟨.aQ,rfl,rfl⟩ ?_ ?_
  . rintro d hd _⟨B,rfl,t⟩;obtain⟨i,hi,rfl⟩:=mem_map.mp hd;have hi:=mem_range.mp hi;obtain⟨l,o,z,_⟩:∃l o,((i:Int),l,o)∈es/\True:=by
     have C:∃b,((i:Int),b)∈bs:=by
      rw[<-O];by_cases c:i=0;.exact⟨0,j9.mpr (.inl ⟨by omega,rfl⟩)⟩
      .exact⟨late ws,j9.mpr (.inr ⟨by omega,by omega,rfl⟩)⟩
     obtain⟨b,U⟩:=C;obtain⟨l,o,z,_⟩:=A.bg _ _ U;exact⟨l,o,z,trivial⟩
    have gz:=xY A.cm.nd z;have W:WT es (i:Int)=o.2:=ig A.cm.nd z;simp[t,jy,gz,zG,lbD,W];exact⟨_,rfl,rfl⟩
  . rintro _⟨B,rfl,t⟩;have e:((List.range m.toNat).map fun(k:Nat)=>D.int (k:Int)).map (lbD es)=((List.range m.toNat).map fun(i:Nat)=>WT es (i:Int)).map D.int:=by rw[map_map,map_map];rfl
    rw[e];have L:=k es A;generalize((List.range m.toNat).map fun(i:Nat)=>WT es (i:Int))=ns at*;simp;exact L
def lgD(fs:List Int)(cl:List Int):D:=.tup [.lst (fs.map D.int),.lst (cl.map D.int)]
inductive JLi(m q:Int)(ws:List Wy)(ts:List (List aC×Int))(r:List D)(ρ:List Sl):Prop where|mk(bZ us:List (List aC×Int))(s3 s4:Sl)(q0:ρ=[.val false (aN m ws),.val false (.int q),.own false ((flow ws.length bZ).map D.int),s3,s4])(q1:(fr s3=true/\fr s4=true))(q2:r=us.map cD)(q3:bZ++us=ts)
theorem GX:(flow N cs).length=N:=by
 have:∀(cs:List (List aC×Int))(fs:List Int),(cs.foldl oO fs).length=fs.length:=fun cs=>by induction cs with|nil=>intro fs;rfl|cons x cs e=>intro fs;rw[foldl_cons,e];exact mq
 unfold flow;rw[this];simp
theorem Dy{q:Int}(X:13286250<=w)(h:dg m ws)(M:0<=q)(Y:∀cs,cV m ws cs->q<=U3 cs)(k:∀cs fs cl,cV m ws cs->cs.Pairwise (fun a b=>bM ws a.1<=bM ws b.1)->NT m ws (lW cs q) fs->Q (.val (lgD fs cl)) [.val false (aN m ws),.val false (.int q)]):(run Γ w (n+5) 19 [.val false (aN m ws),.val false (.int q)]).sat Q:=by
 have hn:=h.len;have O:=HN.of h;refine aJ (d:=f19) rfl rfl (by decide) ?_;refine bK (fun ρ=>ρ=[.val false (aN m ws),.val false (.int q),.own false ((flow ws.length []).map D.int),.aQ,.aQ]) ?_ ?_;.simp[f19,flow];show _<=16777216;omega
 rintro _ rfl;symm;simp;refine xj X O (fun v C=>(h.ok v C).r0) fun cs fs F d es Z z=>?_;have A:cV m ws cs:=⟨fun v C=>(h.ok v C).h0,fs,F,d,es,z⟩;have B:=z.light cs [] q rfl M;have E:(lW cs q).foldl oO (flow ws.length [])=flow ws.length (lW cs q):=rfl;rw[E,nil_append]at B;have G:=z.ck;simp;refine Fe (by omega) (Qh (fun x H=>(z.iv.ch x H).2.1) M (Y cs A)) ?_;simp;refine cU (JLi m q ws (lW cs q)) ?_ ?_ ⟨[],lW cs q,.aQ,.aQ,rfl,⟨rfl,rfl⟩,rfl,rfl⟩;.rintro d r _⟨I,t,s3,s4,rfl,⟨U,W⟩,hr,hd⟩;cases t with|nil=>cases hr|cons u t=>
     obtain⟨rfl,rfl⟩:d=cD u/\r=t.map cD:=by simpa using hr
     have J:(I++[u])++t=lW cs q:=by rw[append_assoc];exact hd
     obtain⟨x,H,e⟩:=Bw (l:=cs) (q:=q) (y:=u) (by rw[<-hd];simp);simp[cD,U,W];apply ak;simp;refine wy (.inr ⟨true,rfl⟩) (fun s hs=>by rw[GX];exact(G x H).2.1 s (by rw[<-e];exact hs)) ?_;simp;exact⟨I++[u],t,_,_,by rw[qi],⟨rfl,rfl⟩,rfl,J⟩
 . rintro _⟨I,t,s3,s4,rfl,⟨U,W⟩,hr,hd⟩;have:t=[]:=by cases t with|nil=>rfl|cons _ _=>cases hr
   subst this;rw[append_nil]at hd;subst hd;obtain⟨F1,p1,p2⟩:=B.ht;simp;apply ak;simp;refine zr (by omega) (.inl rfl) O B.fit.len p1 fun L ac=>?_;have hk:=fun cl=>k cs (flow ws.length (lW cs q)) cl A z.st.1 B;generalize((List.range m.toNat).map fun(i:Nat)=>WT L (i:Int))=ns at*;simp;exact hk ns
theorem vG{T:Int}(y:13286250<=w)(h:dg m ws)(k:∀cs fs z,cV m ws cs->NT m ws z fs->bO (fun x=>x.2*(T+1-bM ws x.1)) z=val ws T cs->Q (.val (.lst (fs.map D.int))) [.val false (aN m ws),.val false (.int T)]):(run Γ w (n+8) 24 [.val false (aN m ws),.val false (.int T)]).sat Q:=by refine aJ (d:=f24) rfl rfl (by decide) ?_;symm;simp[f24];refine zY y h fun cs u=>?_;simp;refine Dy y h u.XX (fun t e=>by rw[u.Oj e];exact e.Xr) fun t fs cl e B A=>?_;rw[u.Oj e]at A;simp[lgD];exact k t fs _ e A (G7 B fun x C=>(e.nn x C).2).2
@[simp]theorem Zw{c:Call}{i n:Nat}{a u:P}{is:List Nat}{one:Bool}{h:Option P}{ρ:List Sl}:ev c (.lC i a n is one h u) ρ=(Hk i (ev c a) ρ).bind fun y e=>if y.1.length<=lim then(oX c is one h u y.1 (e++replicate n .aQ)).bind fun xs t=>.ok (.own xs) (aX y.2 (some i) (t.take e.length))else .stuck:=(rfl)
@[simp]theorem abU{i:Nat}{f:Ev}{ρ:List Sl}:Hk i f ρ=(f ρ).bind fun r e=>(lift (items r.d) e).bind fun es e=>match e[i]?with|some (.val _ d)=>(lift (items d) e).bind fun ds e=>.ok ((es.zip ds).map fun p=>D.tup [p.1,p.2],e) e|some (.own _ ds)=>.ok ((es.zip ds).map fun p=>D.tup [p.1,p.2],e) (e.set i (.lent ds))|some (.lent ds)=>.ok ((es.zip ds).map fun p=>D.tup [p.1,p.2],e) e|_=>.stuck:=rfl
def jZ:List Wy->List Int->List Wy|w::ws,l::ls=>{w with r:=l}::jZ ws ls|_,_=>[]
theorem gY:∀{ws:List Wy}{ls:List Int},ls.length=ws.length->(jZ ws ls).length=ws.length|[],[],_=>rfl|[],_::_,h=>by simp at h|_::_,[],h=>by simp at h|w::ws,l::ls,h=>by simp[jZ,gY (ws:=ws) (ls:=ls) (by simpa using h)]
theorem yE:∀{ws:List Wy}{ls:List Int}{k:Nat}{u:Wy},(jZ ws ls)[k]?=some u->∃v l,ws[k]?=some v/\ls[k]?=some l/\u={v with r:=l}|[],_,k,u,h=>by simp[jZ]at h|_::_,[],k,u,h=>by simp[jZ]at h|w::ws,l::ls,0,u,h=>by simp[jZ]at h;exact⟨w,l,rfl,rfl,h.symm⟩|w::ws,l::ls,k+1,u,h=>by simp only[jZ,getElem?_cons_succ]at h ⊢;exact yE h
theorem Gd:∀{ws:List Wy}{ls:List Int}{k:Nat}{v:Wy}{l:Int},ws[k]?=some v->ls[k]?=some l->(jZ ws ls)[k]?=some {v with r:=l}|[],_,k,v,l,h,_=>by simp at h|_::_,[],k,v,l,_,h=>by simp at h|w::ws,x::ls,0,v,l,h,h'=>by simp at h h';subst h h';simp[jZ]|w::ws,x::ls,k+1,v,l,h,h'=>by simp only[jZ,getElem?_cons_succ]at h h' ⊢;exact Gd h h'
def zrD:D->D|.tup [.tup [a,b,_,e],l]=>.tup [a,b,l,e]|d=>d
@[simp]theorem agL{a b c e l:D}:zrD (.tup [.tup [a,b,c,e],l])=.tup [a,b,l,e]:=rfl
theorem Ju:∀{ws:List Wy}{ls:List Int},((((ws.map Wy.d).zip (ls.map D.int)).map fun p=>D.tup [p.1,p.2]).map zrD)=(jZ ws ls).map Wy.d|[],_=>by simp[jZ]|_::_,[]=>by simp[jZ]|w::ws,l::ls=>by have:=Ju (ws:=ws) (ls:=ls);simp only[map_cons,List.zip_cons_cons,jZ,this];rfl
def LX(s:Sl)(ls:List Int):Prop:=(∃b,s=.own b (ls.map D.int))\/(∃b,s=.val b (.lst (ls.map D.int)))\/(∃b,s=.val b (.tup (ls.map D.int)))
inductive FY(a b c:Sl)(ρ:List Sl):Prop where|mk(s:Sl)(t:Sl)(q0:ρ=[a,b,c,s,t])(q1:fr s=true)(q2:fr t=true)
theorem Dm{s1:Sl}(u:ws.length<=12)(hs:LX s1 ls)(k:Q (.val (aN m (jZ ws ls))) [.val false (aN m ws),s1]):(run Γ w (n+1) 17 [.val false (aN m ws),s1]).sat Q:=by refine aJ (d:=f17) rfl rfl (by decide) ?_;symm;rcases hs with⟨b,rfl⟩|⟨b,rfl⟩|⟨b,rfl⟩;all_goals
  simp[f17];refine⟨fun _=>?_,by show _<=16777216;omega⟩;refine bQ (FY _ _ _) zrD ⟨.aQ,.aQ,rfl,rfl,rfl⟩ ?_ ?_;.rintro d hd _⟨s,t,rfl,hs,ht⟩;obtain⟨⟨x,y⟩,h,rfl⟩:=mem_map.mp hd;obtain⟨v,_,rfl⟩:=mem_map.mp (of_mem_zip h).1;simp[hs,ht,Wy.d];exact⟨_,_,rfl,rfl,rfl⟩
  rintro _⟨s,t,rfl,hs,ht⟩;have e:=Ju (ws:=ws) (ls:=ls);generalize(((ws.map Wy.d).zip (ls.map D.int)).map fun p=>D.tup [p.1,p.2]).map zrD=X at*;subst e;simp;apply ak;simp;exact k
def kJ:List Wy->List Int->List Wy|v::ws,l::ls=>⟨v.t,v.s,l,v.h⟩::kJ ws ls|_,_=>[]
theorem kh:∀{ws:List Wy}{ls:List Int},ls.length=ws.length->(kJ ws ls).length=ws.length|[],[],_=>rfl|[],_::_,h=>by simp at h|_::_,[],h=>by simp at h|w::ws,l::ls,h=>by simp[kJ,kh (ws:=ws) (ls:=ls) (by simpa using h)]
theorem uY:∀{ws:List Wy}{ls:List Int}{k:Nat}{u:Wy},(kJ ws ls)[k]?=some u->∃v l,ws[k]?=some v/\ls[k]?=some l/\u=⟨v.t,v.s,l,v.h⟩|[],_,k,u,h=>by simp[kJ]at h|_::_,[],k,u,h=>by simp[kJ]at h|w::ws,l::ls,0,u,h=>by simp[kJ]at h;exact⟨w,l,rfl,rfl,h.symm⟩|w::ws,l::ls,k+1,u,h=>by simp only[kJ,getElem?_cons_succ]at h ⊢;exact uY h
def ztD:D->D|.tup [.tup [a,b,_,e],l]=>.tup [b,a,l,e]|d=>d
@[simp]theorem agp{a b c e l:D}:ztD (.tup [.tup [a,b,c,e],l])=.tup [b,a,l,e]:=rfl
theorem Jr:∀{ws:List Wy}{ls:List Int},((((ws.map Wy.d).zip (ls.map D.int)).map fun p=>D.tup [p.1,p.2]).map ztD)=(kJ ws ls).map Wy.d|[],_=>by simp[kJ]|_::_,[]=>by simp[kJ]|w::ws,l::ls=>by have:=Jr (ws:=ws) (ls:=ls);simp only[map_cons,List.zip_cons_cons,kJ,this];rfl
def gR(ws:List Wy)(fo ba:List Int):List Wy:=jZ ws fo++kJ ws ba
inductive F4l(a b c d:Sl)(ρ:List Sl):Prop where|mk(s:Sl)(t:Sl)(q0:ρ=[a,b,c,d,s,t])(q1:fr s=true)(q2:fr t=true)
theorem tD{s1 s2:Sl}(z:ws.length<=12)(h:fo.length=ws.length)(u:ba.length=ws.length)(h1:LX s1 fo)(A:LX s2 ba)(k:Q (.val (aN m (gR ws fo ba))) [.val false (aN m ws),s1,s2]):(run Γ w (n+2) 26 [.val false (aN m ws),s1,s2]).sat Q:=by
 refine aJ (d:=f26) rfl rfl (by decide) ?_;refine bK (fun ρ=>ρ=[.val false (aN m ws),s1,s2,.own false ((kJ ws ba).map Wy.d)]) ?_ ?_;.rcases A with⟨b,rfl⟩|⟨b,rfl⟩|⟨b,rfl⟩;all_goals
    simp[f26];refine⟨fun _=>?_,by show _<=16777216;omega⟩;refine bQ (F4l _ _ _ _) ztD ⟨.aQ,.aQ,rfl,rfl,rfl⟩ ?_ ?_;.rintro d hd _⟨s,t,rfl,hs,ht⟩;obtain⟨⟨x,y⟩,B,rfl⟩:=mem_map.mp hd;obtain⟨v,_,rfl⟩:=mem_map.mp (of_mem_zip B).1;simp[hs,ht,Wy.d];exact⟨_,_,rfl,rfl,rfl⟩
    rintro _⟨s,t,rfl,hs,ht⟩;have e:=Jr (ws:=ws) (ls:=ba);generalize(((ws.map Wy.d).zip (ba.map D.int)).map fun p=>D.tup [p.1,p.2]).map ztD=X at*;subst e;simp
 rintro _ rfl;have C:=gY (ws:=ws) h;have E:=kh (ws:=ws) u;symm;have G:=h1;rcases h1 with⟨b,rfl⟩|⟨b,rfl⟩|⟨b,rfl⟩;all_goals
  simp;refine Dm z (by first|exact .inl ⟨_,rfl⟩|exact .inr (.inl ⟨_,rfl⟩)|exact .inr (.inr ⟨_,rfl⟩)) ?_;simp;refine⟨by show _<=16777216;omega,?_⟩;have e:D.tup [.int m,.tup ((jZ ws fo).map Wy.d++(kJ ws ba).map Wy.d)]=aN m (gR ws fo ba):=by unfold aN gR;rw[map_append]
  rw[e];exact k
theorem Bv(e:ws.length<=6)(k:Q (.val .non) [.val false (aN m ws)]):(run Γ w (n+1) 25 [.val false (aN m ws)]).sat Q:=by refine aJ (d:=f25) rfl rfl (by decide) ?_;symm;simp[f25,show ¬(6:Int)<(ws.length:Int)by omega,show ¬ 6<ws.length by omega];exact k
def QD(d:D):D:=match d with|.tup [_,_,r,_]=>r|_=>d
@[simp]theorem adG{a b c e:D}:QD (.tup [a,b,c,e])=c:=rfl
inductive F2o(a b:Sl)(ρ:List Sl):Prop where|mk(s:Sl)(q0:ρ=[a,b,s])(q1:fr s=true)
def bB(ws:List Wy):List Int:=ws.map Wy.r
theorem j7(t:ws.length<=6)(k:Q (.val (aN m (gR ws (bB ws) (bB ws)))) [.val false (aN m ws)]):(run Γ w (n+3) 27 [.val false (aN m ws)]).sat Q:=by
 refine aJ (d:=f27) rfl rfl (by decide) ?_;symm;simp[f27];refine Bv t ?_;simp;apply ak;simp[show ws.length<=16777216 by omega];refine bQ (F2o _ _) QD ⟨.aQ,rfl,rfl⟩ ?_ ?_;.rintro d hd _⟨s,rfl,hs⟩;obtain⟨v,_,rfl⟩:=mem_map.mp hd;simp[hs,Wy.d];exact⟨_,rfl,rfl⟩
 rintro _⟨s,rfl,hs⟩;have e:(ws.map Wy.d).map QD=(bB ws).map D.int:=by unfold bB;rw[map_map,map_map];rfl
 rw[e];have h:(bB ws).length=ws.length:=length_map _;generalize bB ws=ls at*;simp;apply ak;simp;refine tD (by omega) h h (.inr (.inl ⟨_,rfl⟩)) (.inr (.inl ⟨_,rfl⟩)) ?_;simp;exact k
def fits(ws:List Wy)(ls:List Int):Prop:=ls.length=ws.length/\∀(j:Nat)v l,ws[j]?=some v->ls[j]?=some l->0<=l/\l<=v.r
theorem iG{H:Wy->Int}{b:List Wy}:∀{a:List Wy},nR H (a++b)=nR H a+nR H b|[]=>by simp[nR]|v::a=>by rw[cons_append,nR,nR,iG];omega
def Nt(v:Wy):Int×Int×Int:=(v.s,v.t,v.h)
theorem CV{k:Int}{q:Int->Int}:∀{ws t:List Wy}{fs:List Int},ws.map Nt=t.map Nt->eX (gap k q) ws fs=eX (gap k q) t fs
 |[],[],_,_=>rfl|[],_::_,_,h=>by simp at h|_::_,[],_,h=>by simp at h|v::ws,u::t,[],_=>rfl|v::ws,u::t,f::fs,h=>by
   rw[map_cons,map_cons,List.cons.injEq]at h;have e:gap k q v=gap k q u:=by have h1:=h.1;unfold Nt at h1;rw[Prod.mk.injEq,Prod.mk.injEq]at h1;unfold gap;rw[h1.1,h1.2.1,h1.2.2]
   rw[eX,eX,e,CV h.2]
theorem vy:∀{ws:List Wy}{ls:List Int},ls.length=ws.length->(jZ ws ls).map Nt=ws.map Nt|[],[],_=>rfl|[],_::_,h=>by simp at h|_::_,[],h=>by simp at h|w::ws,l::ls,h=>by rw[jZ,map_cons,map_cons,vy (by simpa using h)];rfl
theorem Cd:∀{ws:List Wy}{as bs:List Int},as.length=ws.length->bs.length=ws.length->(kJ ws as).map Nt=(kJ ws bs).map Nt|[],[],[],_,_=>rfl|[],_::_,_,h,_=>by simp at h|[],[],_::_,_,h=>by simp at h|_::_,[],_,h,_=>by simp at h|_::_,_::_,[],_,h=>by simp at h|w::ws,a::as,b::bs,h,h'=>by rw[kJ,kJ,map_cons,map_cons,Cd (as:=as) (bs:=bs) (by simpa using h) (by simpa using h')];rfl
theorem Nr{a b c d:List Int}(h1:a.length=ws.length)(e:b.length=ws.length)(h:c.length=ws.length)(t:d.length=ws.length):(gR ws a b).map Nt=(gR ws c d).map Nt:=by unfold gR;rw[map_append,map_append,vy h1,vy h,Cd e t]
def mU(as bs:List Int):Prop:=∀(j:Nat)a b,as[j]?=some a->bs[j]?=some b->a<=b
theorem mU.tail{as bs:List Int}(h:mU (a::as) (b::bs)):mU as bs:=fun j x y e t=>h (j+1) x y (by simpa using e) (by simpa using t)
theorem qP{q:Int->Int}:∀{ws:List Wy}{as bs:List Int},as.length=ws.length->bs.length=ws.length->mU as bs->dD q (jZ ws as)<=dD q (jZ ws bs)|[],[],[],_,_,_=>Int.le_refl _|[],_::_,_,h,_,_=>by simp at h|[],[],_::_,_,h,_=>by simp at h|_::_,[],_,h,_,_=>by simp at h|_::_,_::_,[],_,h,_=>by simp at h|w::ws,a::as,b::bs,h,h',e=>by have t:=qP (q:=q) (ws:=ws) (as:=as) (bs:=bs) (by simpa using h) (by simpa using h') e.tail;have h0:=e 0 a b rfl rfl;have h1:iC q {w with r:=a}<=iC q {w with r:=b}:=Int.mul_le_mul_of_nonneg_right h0 (by omega);show iC q {w with r:=a}+dD q (jZ ws as)<=iC q {w with r:=b}+dD q (jZ ws bs);omega
theorem qK{q:Int->Int}:∀{ws:List Wy}{as bs:List Int},as.length=ws.length->bs.length=ws.length->mU as bs->dD q (kJ ws as)<=dD q (kJ ws bs)|[],[],[],_,_,_=>Int.le_refl _|[],_::_,_,h,_,_=>by simp at h|[],[],_::_,_,h,_=>by simp at h|_::_,[],_,h,_,_=>by simp at h|_::_,_::_,[],_,h,_=>by simp at h|w::ws,a::as,b::bs,h,h',e=>by have u:=qK (q:=q) (ws:=ws) (as:=as) (bs:=bs) (by simpa using h) (by simpa using h') e.tail;have h0:=e 0 a b rfl rfl;have h1:iC q ⟨w.t,w.s,a,w.h⟩<=iC q ⟨w.t,w.s,b,w.h⟩:=Int.mul_le_mul_of_nonneg_right h0 (by omega);show iC q ⟨w.t,w.s,a,w.h⟩+dD q (kJ ws as)<=iC q ⟨w.t,w.s,b,w.h⟩+dD q (kJ ws bs);omega
theorem qm(h:dg m ws)(G:ws.length<=6)(h1:fo.length=ws.length)(B:ba.length=ws.length)(C:∀l∈fo,0<=l/\l<=1000000000)(E:∀l∈ba,0<=l/\l<=1000000000):dg m (gR ws fo ba):=by
 refine⟨h.m0,h.m1,by unfold gR;rw[length_append,gY h1,kh B];omega,fun u hu=>?_⟩;rcases mem_append.mp hu with hu|hu;.obtain⟨k,y,e⟩:=getElem_of_mem hu;obtain⟨v,l,z,A,rfl⟩:=yE (ws:=ws) (ls:=fo) (k:=k) (u:=u) (by rw[getElem?_eq_getElem y,e]);have t:=h.ok v (mem_of_getElem? z);have:=C l (mem_of_getElem? A);exact⟨t.s0,t.s1,t.t0,t.t1,t.ne,this.1,this.2,t.h0,t.h1⟩
 .obtain⟨k,y,e⟩:=getElem_of_mem hu;obtain⟨v,l,z,A,rfl⟩:=uY (ws:=ws) (ls:=ba) (k:=k) (u:=u) (by rw[getElem?_eq_getElem y,e]);have t:=h.ok v (mem_of_getElem? z);have:=E l (mem_of_getElem? A);exact⟨t.t0,t.t1,t.s0,t.s1,fun e=>t.ne e.symm,this.1,this.2,t.h0,t.h1⟩
theorem zj:∀{ws:List Wy}{ls:List Int}{k:Nat}{v:Wy}{l:Int},ws[k]?=some v->ls[k]?=some l->(kJ ws ls)[k]?=some ⟨v.t,v.s,l,v.h⟩|[],_,k,v,l,h,_=>by simp at h|_::_,[],k,v,l,_,h=>by simp at h|w::ws,x::ls,0,v,l,h,h'=>by simp at h h';subst h h';simp[kJ]|w::ws,x::ls,k+1,v,l,h,h'=>by simp only[kJ,getElem?_cons_succ]at h h' ⊢;exact zj h h'
structure Fth(ws:List Wy)(F fo:List Int):Prop where
 len:fo.length=ws.length
 at_:∀(j:Nat)v g,ws[j]?=some v->F[ws.length+j]?=some g->fo[j]?=some (v.r-g)
theorem gV(e:ws[j]?=some v):(bB ws)[j]?=some v.r:=by unfold bB;rw[getElem?_map,e];rfl
theorem Dz{T v1:Int}{F:List Int}{ts:List (List aC×Int)}(h:dg m ws)(L:NT m (gR ws (bB ws) (bB ws)) ts F)(hs:bO (fun x=>x.2*(T+1-bM (gR ws (bB ws) (bB ws)) x.1)) ts=v2)(l2:dJ m (gR ws (bB ws) (bB ws)) T v2)(E:Fth ws F fo)(Y:ba.length=ws.length)(M:∀(j:Nat)v g,ws[j]?=some v->F[ws.length+j]?=some g->ba[j]?=some g)(l1:dJ m (gR ws fo ba) T v1):v1=v2:=by
 have H:(bB ws).length=ws.length:=length_map _;have O:=gY (ws:=ws) H;have U:=gY (ws:=ws) E.len;have ac:F.length=ws.length+ws.length:=by rw[L.fit.len];unfold gR;rw[length_append,O,kh H]
 have I:∀j,j<ws.length+ws.length->∃g,F[j]?=some g:=fun j C=>⟨F[j]'(by omega),by simp[show j<F.length by omega]⟩;have Vo:∀(j:Nat)v,ws[j]?=some v->(gR ws (bB ws) (bB ws))[j]?=some {v with r:=v.r}:=fun j v e=>by have C:=(dB e).1;unfold gR;rw[getElem?_append_left (by omega)];exact Gd e (gV e)
 have Vp:∀(j:Nat)v,ws[j]?=some v->(gR ws (bB ws) (bB ws))[ws.length+j]?=some ⟨v.t,v.s,v.r,v.h⟩:=fun j v e=>by unfold gR;rw[getElem?_append_right (by omega),O,show ws.length+j-ws.length=j by omega];exact zj e (gV e)
 have z:∀(j:Nat)v g g',ws[j]?=some v->F[j]?=some g->F[ws.length+j]?=some g'->(0<=g/\g<=v.r)/\(0<=g'/\g'<=v.r)/\¬(0<g/\0<g'):=fun j v g g' e y A=>by have W:=L.fit.ok _ _ _ (Vo j v e) y;have Z:=L.fit.ok _ _ _ (Vp j v e) A;refine⟨W,Z,fun⟨p1,p2⟩=>?_⟩;obtain⟨G,hG,_⟩:=L.ht;have o1:=hG (j,false) _ (Vo j v e) (by rw[jr (s:=(j,false)) (Vo j v e) y];simp[nT];exact p1);have o2:=hG (ws.length+j,false) _ (Vp j v e) (by rw[jr (s:=(ws.length+j,false)) (Vp j v e) A];simp[nT];exact p2);have hh:=(h.ok v (mem_of_getElem? e)).h0;simp[too,frm,hsp]at o1 o2;omega
 have fit:Kl (gR ws fo ba) F:=by
  refine⟨by rw[ac];unfold gR;rw[length_append,U,kh Y],fun j u g y A=>?_⟩;by_cases c:j<ws.length;.unfold gR at y;rw[getElem?_append_left (by omega)]at y;obtain⟨v,l,J,a2,rfl⟩:=yE y;obtain⟨g',B⟩:=I (ws.length+j) (by omega);have b1:=z j v g g' J A B;have b2:=E.at_ j v g' J B;rw[a2]at b2;cases b2;show 0<=g/\g<=v.r-g';omega
  . unfold gR at y;rw[getElem?_append_right (by omega),U]at y;obtain⟨v,l,J,a2,rfl⟩:=uY y;have ej:ws.length+(j-ws.length)=j:=by omega
    have B:=M _ v g J (by rw[ej];exact A);rw[a2]at B;cases B;obtain⟨g0,X⟩:=I (j-ws.length) (by have:=(dB J).1;omega);have b1:=z _ v g0 g J X (by rw[ej];exact A);exact⟨b1.2.1.1,Int.le_refl _⟩
 refine Int.le_antisymm ?_ ?_
 . obtain⟨q,q0,W,Z⟩:=l2.ex;have:=l1.le q q0 W;have d1:dD q (jZ ws fo)<=dD q (jZ ws (bB ws)):=qP E.len H fun j a b y A=>by
    have C:=(dB y).1;rw[E.len]at C;have ev:ws[j]?=some ws[j]:=by simp[C]
    obtain⟨g',B⟩:=I (ws.length+j) (by omega);obtain⟨g,X⟩:=I j (by omega);have b1:=z j _ g g' ev X B;rw[E.at_ j _ g' ev B]at y;rw[gV ev]at A;cases y;cases A;omega
   have d2:dD q (kJ ws ba)<=dD q (kJ ws (bB ws)):=qK Y H fun j a b y A=>by
    have C:=(dB y).1;rw[Y]at C;have ev:ws[j]?=some ws[j]:=by simp[C]
    obtain⟨g',B⟩:=I (ws.length+j) (by omega);obtain⟨g,X⟩:=I j (by omega);have b1:=z j _ g g' ev X B;rw[M j _ g' ev B]at y;rw[gV ev]at A;cases y;cases A;omega
   have y:dD q (gR ws fo ba)=dD q (jZ ws fo)+dD q (kJ ws ba):=iG;have A:dD q (gR ws (bB ws) (bB ws))=dD q (jZ ws (bB ws))+dD q (kJ ws (bB ws)):=iG;omega
 . obtain⟨q,q0,W,Z⟩:=l1.ex;rw[<-Z,<-hs];have d:=L.dt 1 q;rw[q0,W]at d;have d2:bO (fun x=>x.2*(T+1-bM (gR ws (bB ws) (bB ws)) x.1)) ts=eX (gap 1 q) (gR ws (bB ws) (bB ws)) F:=by rw[d];refine iY fun x _=>?_;congr 1;omega
   rw[d2,CV (Nr H H E.len Y)];exact vh fit
@[simp]theorem Qa{i n:Nat}{a h:P}{is:List Nat}{one:Bool}{e:Option P}:isVar (.lC i a n is one e h)=none:=rfl
theorem afq{ds:List D}{b:YL}{ps:List P}:Mx (.lst ds) (part (.blt b ps) (.int i)) (part (.con .non) .non)=some (.own (cut ds (some i) none)):=rfl
theorem Ge{F:List Int}(h:n<=F.length):cut F (some (n:Int)) none=F.drop n:=by unfold cut dH;simp;rw[Nat.min_eq_left h,List.take_of_length_le (by simp)]
inductive F3w(a b:Sl)(ρ:List Sl):Prop where|mk(s:Sl)(t:Sl)(q0:ρ=[a,b,s,t])(q1:fr s=true)(q2:fr t=true)
theorem afg:∀{fs:List Int},((fs.map D.int).zip (ws.map Wy.d)).map (fun p=>D.tup [p.1,p.2])=(fs.zip ws).map fun p=>D.tup [.int p.1,p.2.d]:=by intro fs;rw[List.zip_map,map_map];rfl
theorem Jt{bs:List Bool}:(bs.map D.bl).mapM yO=some bs:=by induction bs with|nil=>rfl|cons b bs e=>simp[e]
theorem xm(C:ws.length<=12)(u:fits ws ls)(k:Q (.val (.bl true)) [.val false (aN m ws),.val false (.tup (ls.map D.int))]):(run Γ w (n+1) 16 [.val false (aN m ws),.val false (.tup (ls.map D.int))]).sat Q:=by
 have E:=u.1;refine aJ (d:=f16) rfl rfl (by decide) ?_;symm;simp[f16];rw[afg];refine⟨fun _=>?_,by show _<=16777216;omega⟩;refine bQ (F3w _ _) (fun _=>.bl true) ⟨.aQ,.aQ,rfl,rfl,rfl⟩ ?_ ?_
 . rintro d hd _⟨s,t,rfl,hs,ht⟩;obtain⟨⟨l,v⟩,z,rfl⟩:=mem_map.mp hd;obtain⟨j,y,e⟩:=getElem_of_mem z;have A:ls[j]?=some l:=by
    have h:j<ls.length:=by rw[List.length_zip]at y;omega
    rw[List.getElem_zip]at e;simp[h];exact congrArg Prod.fst e
   have B:ws[j]?=some v:=by
    have h:j<ws.length:=by rw[List.length_zip]at y;omega
    rw[List.getElem_zip]at e;simp[h];exact congrArg Prod.snd e
   have:=u.2 j v l B A;simp[hs,ht,Wy.d,this.1,this.2];exact⟨_,_,rfl,rfl,rfl⟩
 . rintro _⟨s,t,rfl,hs,ht⟩;have e:((ls.zip ws).map fun p=>D.tup [.int p.1,p.2.d]).map (fun _=>D.bl true)=((ls.zip ws).map fun _=>true).map D.bl:=by rw[map_map,map_map];rfl
   rw[e,Jt];simp;rw[show((ls.zip ws).all fun _=>true)=true from by rw[all_eq_true];intro _ _;rfl];exact k
theorem jG(h:ws.length<=12)(e:fits ws ls)(k:Q (.val (.bl true)) [.val false (aN m ws),.val false (.tup (ls.map D.int))]):(run Γ w (n+2) 28 [.val false (aN m ws),.val false (.tup (ls.map D.int))]).sat Q:=by have t:=e.1;refine aJ (d:=f28) rfl rfl (by decide) ?_;symm;simp[f28,t];refine xm h e ?_;simp;exact k
def uf:List Wy->List Int->List Int|v::ws,l::ls=>(v.r-l)::uf ws ls|_,_=>[]
theorem fZ:∀{ws:List Wy}{ls:List Int},ls.length=ws.length->(uf ws ls).length=ws.length|[],[],_=>rfl|[],_::_,h=>by simp at h|_::_,[],h=>by simp at h|w::ws,l::ls,h=>by simp[uf,fZ (ws:=ws) (ls:=ls) (by simpa using h)]
theorem lJ:∀{ws:List Wy}{ls:List Int}{k:Nat}{v:Wy}{l:Int},ws[k]?=some v->ls[k]?=some l->(uf ws ls)[k]?=some (v.r-l)|[],_,k,v,l,h,_=>by simp at h|_::_,[],k,v,l,_,h=>by simp at h|w::ws,x::ls,0,v,l,h,h'=>by simp at h h';subst h h';simp[uf]|w::ws,x::ls,k+1,v,l,h,h'=>by simp only[uf,getElem?_cons_succ]at h h' ⊢;exact lJ h h'
def zbD:D->D|.tup [.tup [_,_,.int r,_],.int l]=>.int (r-l)|d=>d
@[simp]theorem agn{a b e:D}{r l:Int}:zbD (.tup [.tup [a,b,.int r,e],.int l])=.int (r-l):=rfl
theorem yD:∀{ws:List Wy}{ls:List Int},((((ws.map Wy.d).zip (ls.map D.int)).map fun p=>D.tup [p.1,p.2]).map zbD)=(uf ws ls).map D.int|[],_=>by simp[uf]|_::_,[]=>by simp[uf]|w::ws,l::ls=>by have:=yD (ws:=ws) (ls:=ls);simp only[map_cons,List.zip_cons_cons,uf,this];rfl
theorem km(u:ws.length<=6)(e:fits ws ls)(k:Q (.val (aN m (gR ws ls (uf ws ls)))) [.val false (aN m ws),.val false (.tup (ls.map D.int))]):(run Γ w (n+3) 29 [.val false (aN m ws),.val false (.tup (ls.map D.int))]).sat Q:=by
 refine aJ (d:=f29) rfl rfl (by decide) ?_;symm;simp[f29];refine Bv u ?_;simp;apply ak;simp;refine jG (by omega) e ?_;simp;apply ak;simp;refine⟨fun _=>?_,by show _<=16777216;omega⟩;refine bQ (F3w _ _) zbD ⟨.aQ,.aQ,rfl,rfl,rfl⟩ ?_ ?_;.rintro d hd _⟨s,t,rfl,hs,ht⟩;obtain⟨⟨x,y⟩,h,rfl⟩:=mem_map.mp hd;obtain⟨v,_,rfl⟩:=mem_map.mp (of_mem_zip h).1;obtain⟨l,_,rfl⟩:=mem_map.mp (of_mem_zip h).2;simp[hs,ht,Wy.d];exact⟨_,_,rfl,rfl,rfl⟩
 rintro _⟨s,t,rfl,hs,ht⟩;rw[yD];simp;refine tD (by omega) e.1 (fZ e.1) (.inr (.inr ⟨_,rfl⟩)) (.inl ⟨_,rfl⟩) ?_;simp;exact k
theorem eN(h:dg m ws):∀l∈bB ws,0<=l/\l<=1000000000:=fun l t=>by obtain⟨v,e,rfl⟩:=mem_map.mp t;exact⟨(h.ok v e).r0,(h.ok v e).r1⟩
structure Bst(m T:Int)(ws:List Wy)(fo:List Int):Prop where
 fit:fits ws fo
 opt:∀v1 v2,dJ m (gR ws (bB ws) (bB ws)) T v2->dJ m (gR ws fo (uf ws fo)) T v1->v1=v2
theorem G4{T:Int}(O:13286250<=w)(h:dg m ws)(J:ws.length<=6)(h0:0<=T)(k:∀fo,Bst m T ws fo->Q (.val (.tup (fo.map D.int))) [.val false (aN m ws),.val false (.int T)]):(run Γ w (n+9) 30 [.val false (aN m ws),.val false (.int T)]).sat Q:=by
 have A:(bB ws).length=ws.length:=length_map _;have U:=qm h J A A (eN h) (eN h);refine aJ (d:=f30) rfl rfl (by decide) ?_;symm;simp[f30];refine j7 J ?_;simp;refine vG O U fun cs F ts W E B=>?_;have X:F.length=ws.length+ws.length:=by rw[E.fit.len];unfold gR;rw[length_append,gY A,kh A]
 simp[afq,Bf,Ge (F:=F) (n:=ws.length) (by omega)];apply ak;simp[<-List.map_drop];refine⟨fun _=>?_,by show _<=16777216;omega⟩;have G:(F.drop ws.length).length=ws.length:=by rw[List.length_drop];omega
 have z:∀j,(F.drop ws.length)[j]?=F[ws.length+j]?:=fun j=>List.getElem?_drop;generalize F.drop ws.length=gs at*;refine bQ (FY _ _ _) zbD ⟨.aQ,.aQ,rfl,rfl,rfl⟩ ?_ ?_;.rintro d hd _⟨s,t,rfl,hs,ht⟩;obtain⟨⟨x,y⟩,L,rfl⟩:=mem_map.mp hd;obtain⟨v,_,rfl⟩:=mem_map.mp (of_mem_zip L).1;obtain⟨l,_,rfl⟩:=mem_map.mp (of_mem_zip L).2;simp[hs,ht,Wy.d];exact⟨_,_,rfl,rfl,rfl⟩
 rintro _⟨s,t,rfl,hs,ht⟩;rw[yD];have bl:=fZ G;have H:∀(j:Nat)v g,ws[j]?=some v->gs[j]?=some g->0<=g/\g<=v.r:=fun j v g e u=>by
  rw[z]at u;have Y:(gR ws (bB ws) (bB ws))[ws.length+j]?=some ⟨v.t,v.s,v.r,v.h⟩:=by unfold gR;rw[getElem?_append_right (by rw[gY A];omega),gY A,show ws.length+j-ws.length=j by omega];exact zj e (gV e)
  have q:=E.fit.ok _ _ _ Y u;exact q
 have C:fits ws (uf ws gs):=⟨bl,fun j v l e u=>by
  have hj:=(dB e).1;have M:gs[j]?=some gs[j]:=by simp[show j<gs.length by omega]
  rw[lJ e M]at u;cases u;have:=H j v _ e M;omega⟩;have I:Bst m T ws (uf ws gs):=⟨C,fun v1 v2 l2 Z=>by
  refine Dz h E (by rw[B];exact(W.least h0).uniq l2) l2 ⟨bl,fun j v g e u=>?_⟩ (fZ bl) (fun j v g e u=>?_) Z;.rw[<-z]at u;exact lJ e u
  .rw[<-z]at u;rw[lJ e (lJ e u)];congr 1;omega⟩;simp;exact k _ I
theorem cL{T:Int}(e:13286250<=w)(h:dg m ws)(h0:0<=T)(t:T<=1000000000000000000)(k:∀v,dJ m ws T v->Q (.val (.int v)) [.val false (aN m ws),.val false (.int T)]):(run Γ w (n+6) 22 [.val false (aN m ws),.val false (.int T)]).sat Q:=yL e h t fun cs u=>k _ (u.least h0)
theorem uG{T:Int}(h:dg m ws)(E:ws.length<=6)(u:fits ws fo):dg m (gR ws fo (uf ws fo)):=by
 have key:∀(j:Nat)l,fo[j]?=some l->∃v,ws[j]?=some v/\v∈ws/\0<=l/\l<=v.r:=fun j l e=>by
  have t:=(dB e).1;rw[u.1]at t;have ev:ws[j]?=some ws[j]:=by simp[t]
  exact⟨_,ev,getElem_mem t,u.2 j _ l ev e⟩
 refine qm h E u.1 (fZ u.1) (fun l y=>?_) (fun l y=>?_);.obtain⟨j,t,e⟩:=getElem_of_mem y;obtain⟨v,_,z,G,H⟩:=key j l (by rw[getElem?_eq_getElem t,e]);have:=(h.ok v z).r1;omega
 . obtain⟨j,t,e⟩:=getElem_of_mem y;have A:j<fo.length:=by rw[fZ u.1]at t;rw[u.1];exact t
   have B:fo[j]?=some fo[j]:=by simp[A]
   obtain⟨v,ev,z,G,H⟩:=key j _ B;have C:=lJ ev B;rw[getElem?_eq_getElem t,e]at C;cases C;have:=(h.ok v z).r1;omega
theorem uh{T:Int}(u:13286250<=w)(h:dg m ws)(e:ws.length<=6)(h0:0<=T)(y:T<=1000000000000000000)(t:Bst m T ws fo)(k:Q (.val (.bl true)) [.val false (aN m ws),.val false (.int T),.val false (.tup (fo.map D.int))]):(run Γ w (n+7) 31 [.val false (aN m ws),.val false (.int T),.val false (.tup (fo.map D.int))]).sat Q:=by have z:(bB ws).length=ws.length:=length_map _;have A:=qm h e z z (eN h) (eN h);have B:=uG (T:=T) h e t.fit;refine aJ (d:=V8) rfl rfl (by decide) ?_;symm;simp[V8];refine j7 e ?_;simp;refine cL u A h0 y fun v2 l2=>?_;simp;apply ak;simp;refine jG (by omega) t.fit ?_;simp;refine km e t.fit ?_;simp;refine cL u B h0 y fun C E=>?_;obtain rfl:=t.opt C v2 l2 E;simp;exact k
theorem Hg{e:Int}(h:Dr ds)(hd:0<ds.length)(t:0<=e)(k:∀T,0<=T->T<=1000000000000000000->Q (.val (.int T)) [.own true (ds.map D.int),.val false (.int e)]):(run Γ w (n+2) 36 [.own true (ds.map D.int),.val false (.int e)]).sat Q:=by
 refine aJ (d:=f36) rfl rfl (by decide) ?_;symm;simp[f36];refine bY hd t (by omega) (by omega) fun c c0 c1=>?_;simp;apply ak;simp;refine⟨fun _=>?_,fun _=>?_⟩;.symm;simp;refine bY hd (by omega) (by omega) (by omega) fun d d0 d1=>?_;simp;exact k d d0 (by omega)
 . symm;simp;refine⟨fun _=>?_,fun _=>?_⟩;.symm;simp;refine mH h hd (by omega) (by omega) (by omega) fun d d0 d1=>?_;simp;exact k d d0 (by omega)
   .symm;simp;refine mH h hd (by omega) (by omega) (by omega) fun d d0 d1=>?_;simp;exact k _ (by omega) (by omega)
theorem Gi{T e:Int}(h1:fo.length=ws.length)(t:ba.length=ws.length)(u:mU fo (bB ws))(y:mU ba (bB ws))(l2:dJ m (gR ws (bB ws) (bB ws)) T v2)(z:dJ m (gR ws fo ba) T e):e<=v2:=by have h:(bB ws).length=ws.length:=length_map _;obtain⟨q,A,B,C⟩:=l2.ex;have:=z.le q A B;have d1:=qP (q:=q) h1 h u;have d2:=qK (q:=q) t h y;have E:dD q (gR ws fo ba)=dD q (jZ ws fo)+dD q (kJ ws ba):=iG;have G:dD q (gR ws (bB ws) (bB ws))=dD q (jZ ws (bB ws))+dD q (kJ ws (bB ws)):=iG;omega
theorem wj:∀{ws:List Wy},jZ ws (bB ws)=ws|[]=>rfl|v::ws=>by show jZ (v::ws) (v.r::bB ws)=_;rw[jZ,wj]
theorem Bb{q:Int->Int}:∀{ws:List Wy},(∀v∈ws,0<=v.r)->0<=dD q ws|[],_=>Int.le_refl _|v::ws,h=>by have h1:=h v (by simp);have t:=Bb (q:=q) (ws:=ws) fun u e=>h u (by simp[e]);have y:0<=iC q v:=Int.mul_nonneg h1 (by omega);show 0<=iC q v+dD q ws;omega
theorem RG{T h:Int}(hr:∀v∈ws,0<=v.r)(l2:dJ m (gR ws (bB ws) (bB ws)) T v2)(z:dJ m ws T h):h<=v2:=by
 have H:(bB ws).length=ws.length:=length_map _;obtain⟨q,A,B,I⟩:=l2.ex;have:=z.le q A B;have C:dD q (gR ws (bB ws) (bB ws))=dD q (jZ ws (bB ws))+dD q (kJ ws (bB ws)):=iG;have h0:0<=dD q (kJ ws (bB ws)):=Bb fun u E=>by obtain⟨k,G,e⟩:=getElem_of_mem E;obtain⟨v,l,t,y,rfl⟩:=uY (ws:=ws) (ls:=bB ws) (k:=k) (u:=u) (by rw[getElem?_eq_getElem G,e]);rw[gV t]at y;cases y;exact hr v (mem_of_getElem? t)
 rw[wj]at C;omega
theorem Cv(u:fits ws fo):mU fo (bB ws)/\mU (uf ws fo) (bB ws):=by
 have key:∀(j:Nat),j<ws.length->∃v l,ws[j]?=some v/\fo[j]?=some l/\0<=l/\l<=v.r:=fun j h=>by
  have e:ws[j]?=some ws[j]:=by simp[h]
  have t:fo[j]?=some (fo[j]'(by rw[u.1];exact h)):=by simp[show j<fo.length by rw[u.1];exact h]
  exact⟨_,_,e,t,u.2 j _ _ e t⟩
 refine⟨fun j a b e t=>?_,fun j a b e t=>?_⟩;.have h:=(dB e).1;rw[u.1]at h;obtain⟨v,l,y,z,B,A⟩:=key j h;rw[gV y]at t;rw[z]at e;cases e;cases t;exact A
 .have h:=(dB e).1;rw[fZ u.1]at h;obtain⟨v,l,y,z,B,A⟩:=key j h;rw[gV y]at t;rw[lJ y z]at e;cases e;cases t;omega
theorem qJ{T:Int}(y:13286250<=w)(h:dg m ws)(e:ws.length<=6)(h0:0<=T)(z:T<=1000000000000000000)(u:fits ws fo)(l2:dJ m (gR ws (bB ws) (bB ws)) T v2)(k:∀t,dJ m (gR ws fo (uf ws fo)) T t->Q (.val (.bl (t==v2))) [.val false (aN m ws),.val false (.int T),.val false (.tup (fo.map D.int))]):(run Γ w (n+7) 31 [.val false (aN m ws),.val false (.int T),.val false (.tup (fo.map D.int))]).sat Q:=by have A:(bB ws).length=ws.length:=length_map _;have B:=qm h e A A (eN h) (eN h);have C:=uG (T:=T) h e u;refine aJ (d:=V8) rfl rfl (by decide) ?_;symm;simp[V8];refine j7 e ?_;simp;refine cL y B h0 z fun H E=>?_;obtain rfl:=l2.uniq E;simp;apply ak;simp;refine jG (by omega) u ?_;simp;refine km e u ?_;simp;refine cL y C h0 z fun t G=>?_;simp;exact k t G
inductive aej(m:Int)(us:List Wy)(a0 a1:Sl)(i:Nat)(ρ:List Sl):Prop where|mk(ws:List Wy)(s3 s4 s5 s6 s7:Sl)(q0:ρ=[a0,a1,.own false (ws.map Wy.d),s3,s4,s5,s6,s7])(q1:A5 (fr s3=true) (fr s4=true) (fr s5=true) (fr s6=true) (fr s7=true))(q2:(∀v∈ws,v.Ok m))(q3:ws.length=i)(q4:∀(j:Nat)v,ws[j]?=some v->j<3->v.r<=2)
theorem Et{y:List Wy}(Z:Dr ds)(hd:0<ds.length)(h:dg m y)(h6:y.length<=6)(k:∀ws,dg m ws->ws.length=y.length->(∀(j:Nat)v,ws[j]?=some v->j<3->v.r<=2)->Q (.val (aN m ws)) [.own true (ds.map D.int),.val false (aN m y)]):(run Γ w (n+5) 37 [.own true (ds.map D.int),.val false (aN m y)]).sat Q:=by
 refine aJ (d:=f37) rfl rfl (by decide) ?_;symm;simp[f37];apply ak;simp[show(y.length:Int)<=1000000000 by omega];refine fc (aej m y _ _) ?_ ?_ ⟨[],.aQ,.aQ,.aQ,.aQ,.aQ,rfl,⟨rfl,rfl,rfl,rfl,rfl⟩,by simp,rfl,by simp⟩
 . rintro i _ hi⟨ws,s3,s4,s5,s6,s7,rfl,⟨L,M,O,C,U⟩,hok,G,B⟩;have H:y[i]?=some y[i]:=by simp[hi]
   have A:=h.ok _ (mem_of_getElem? H);have W:=dN (f:=Wy.d) H;generalize y[i]=v at*;simp[L];apply ak;simp[W,Wy.d,M,O,C,U];refine bK (fun ρ=>∃r:Int,ρ=[.own true (ds.map D.int),.val false (aN m y),.own false (ws.map Wy.d),.val false (.int i),.val false (.int v.s),.val false (.int v.t),.val false (.int r),.val false (.int v.h)]/\(0<=r/\r<=1000000000)/\(i<3->r<=2)) ?_ ?_;.simp;refine⟨fun E=>?_,fun E=>⟨⟨A.r0,A.r1⟩,fun z=>by omega⟩⟩;obtain⟨b,I,b0,b1⟩:=qO (ns:=[3,3,2]) (i:=(i:Int)) (lo:=2) (hi:=3) (by omega) (by simp;omega) (by simp);simp only[map_cons,map_nil]at I;apply ak;simp[I];refine bY hd (by omega) (by omega) (by omega) fun c c0 c1=>?_;simp;omega
   rintro _⟨r,rfl,⟨r0,r1⟩,X⟩;symm;simp[show ws.length<16777216 by omega];refine⟨ws++[⟨v.s,v.t,r,v.h⟩],.val false (.int i),.val false (.int v.s),.val false (.int v.t),.val false (.int r),.val false (.int v.h),by simp[Wy.d],⟨rfl,rfl,rfl,rfl,rfl⟩,fun u hu=>?_,by simp;omega,fun j u e Y=>?_⟩
   . rcases mem_append.mp hu with hu|hu;.exact hok u hu
     .rw[mem_singleton.mp hu];exact⟨A.s0,A.s1,A.t0,A.t1,A.ne,r0,r1,A.h0,A.h1⟩
   . by_cases c:j<ws.length;.rw[getElem?_append_left c]at e;exact B j u e Y
     . rw[getElem?_append_right (by omega)]at e;have:j-ws.length=0:=by have:=(dB e).1;simp at this;omega
       rw[this]at e;cases e;exact X (by omega)
 .rintro _⟨ws,s3,s4,s5,s6,s7,rfl,_,hok,G,B⟩;have J:dg m ws:=⟨h.m0,h.m1,by omega,hok⟩;symm;simp;refine xV J ?_;simp;exact k ws J G B
def su(fo:List Int):D:=.tup (fo.map D.int)
structure Wf(ws:List Wy)(i:Nat)(L:List (List Int)):Prop where
 ok:∀fo∈L,fo.length=i/\∀(j:Nat)v l,ws[j]?=some v->fo[j]?=some l->0<=l/\l<=v.r
 all:i<=3->∀fo:List Int,fo.length=i->(∀(j:Nat)v l,ws[j]?=some v->fo[j]?=some l->0<=l/\l<=v.r)->fo∈L
 len:L.length<=3^min i 3
def LO2(s:Sl)(ds:List D):Prop:=s=.own false ds\/s=.val false (.lst ds)
structure Ud(ws:List Wy)(i:Nat)(r:Int)(L:List (List Int))(t:Nat)(W:List (List Int)):Prop where
 ok:∀fo∈W,fo.length=i+1/\∀(j:Nat)v l,ws[j]?=some v->fo[j]?=some l->0<=l/\l<=v.r
 all:i<3->∀(k:Nat)fo p,k<t->L[k]?=some fo->0<=p->p<=r->fo++[p]∈W
 len:W.length<=t*(if i<3 then 3 else 1)
theorem Ud.add{i t:Nat}{L W:List (List Int)}{ps:List Int}(h:Ud ws i v.r L t W)(H:Wf ws i L)(ev:ws[i]?=some v)(E:L[t]?=some fo)(I:∀p∈ps,0<=p/\p<=v.r)(J:i<3->∀p,0<=p->p<=v.r->p∈ps)(M:ps.length<=if i<3 then 3 else 1):Ud ws i v.r L (t+1) (W++ps.map fun p=>fo++[p]):=by
 have z:=H.ok fo (mem_of_getElem? E);refine⟨fun x hx=>?_,fun hi k y p U A G p1=>?_,?_⟩
 . rcases mem_append.mp hx with hx|hx;.exact h.ok x hx
   . obtain⟨p,B,rfl⟩:=mem_map.mp hx;refine⟨by simp[z.1],fun j u l C e=>?_⟩;by_cases c:j<fo.length;.rw[getElem?_append_left c]at e;exact z.2 j u l C e
     . rw[getElem?_append_right (by omega)]at e;have O:j-fo.length=0:=by have:=(dB e).1;simp at this;omega
       rw[O]at e;cases e;rw[show j=i by rw[<-z.1];omega,ev]at C;cases C;exact I _ B
 . by_cases c:k<t;.exact List.mem_append_left _ (h.all hi k y p c A G p1)
   . obtain rfl:k=t:=by omega
     rw[E]at A;cases A;exact mem_append_right _ (mem_map.mpr ⟨p,J hi p G p1,rfl⟩)
 . have:=h.len;rw[length_append,length_map];split at M<;>rename_i c;.rw[if_pos c]at this ⊢;omega
   .rw[if_neg c]at this ⊢;omega
theorem Ud.done{i:Nat}{L W:List (List Int)}(h:Ud ws i v.r L L.length W)(z:Wf ws i L)(ev:ws[i]?=some v):Wf ws (i+1) W:=by
 refine⟨h.ok,fun hi fo A B=>?_,?_⟩
 . rcases List.eq_nil_or_concat fo with rfl|⟨f,p,rfl⟩;.simp at A
   . rw[List.concat_eq_append]at*;have y:f.length=i:=by simpa using A
     have t:=z.all (by omega) f y fun j u l H C=>B j u l H (by rw[getElem?_append_left (dB C).1];exact C);obtain⟨k,E,e⟩:=getElem_of_mem t;have G:=B i v p ev (by rw[getElem?_append_right (by omega),show i-f.length=0 by omega];rfl);exact h.all (by omega) k f p E (by rw[getElem?_eq_getElem E,e]) G.1 G.2
 . have h1:=h.len;have I:=z.len;by_cases c:i<3;.rw[if_pos c]at h1;rw[show min (i+1) 3=min i 3+1 by omega,Nat.pow_succ];omega
   .rw[if_neg c]at h1;rw[show min (i+1) 3=min i 3 by omega];omega
inductive JAf(ws:List Wy)(a0 a1:Sl)(i:Nat)(ρ:List Sl):Prop where|mk(L:List (List Int))(s2 s3 s4 s5 s6 s7:Sl)(q0:ρ=[a0,a1,s2,s3,s4,s5,s6,s7])(q1:LO2 s2 (L.map su))(q2:A5 (fr s3=true) (fr s4=true) (fr s5=true) (fr s6=true) (fr s7=true))(q3:Wf ws i L)
inductive JAg(ws:List Wy)(k:Nat)(r:Int)(L:List (List Int))(a0 a1 a3 a4:Sl)(i:Nat)(ρ:List Sl):Prop where|mk(W:List (List Int))(s2 s6 s7:Sl)(q0:ρ=[a0,a1,s2,a3,a4,.own false (W.map su),s6,s7])(q1:LO2 s2 (L.map su))(q2:(fr s6=true/\fr s7=true))(q3:Ud ws k r L i W)
inductive F8a(a0 a1 a2 a3 a4 a5 a6 a7:Sl)(ρ:List Sl):Prop where|mk(s:Sl)(q0:ρ=[a0,a1,a2,a3,a4,a5,a6,a7,s])(q1:fr s=true)
def apD(fo:List Int)(d:D):D:=su (fo++[ou d])
theorem K5{c:Call}{x:Nat}{e:P}:ex c n (.JT x e) ρ=(lift (yH ρ x) ρ).bind fun _ ρ=>(ev c e ρ).bind fun r ρ=>match ρ[x]?,r with|some (.own b ds),.own es=>if ds.length+es.length<=lim then .ok .next (ρ.set x (.own b (ds++es)))else .stuck|_,_=>.stuck:=(rfl)
theorem Jl(hD:Dr ds)(hd:0<ds.length)(h:dg m ws)(h6:ws.length<=6)(I:∀(j:Nat)v,ws[j]?=some v->j<3->v.r<=2)(k:∀(r:R)L,(r=.own (L.map su)\/r=.val (.lst (L.map su)))->Wf ws ws.length L->Q r [.own true (ds.map D.int),.val false (aN m ws)]):(run Γ w (n+2) 38 [.own true (ds.map D.int),.val false (aN m ws)]).sat Q:=by
 refine aJ (d:=f38) rfl rfl (by decide) ?_;symm;simp[f38];refine bK (JAf ws (.own true (ds.map D.int)) (.val false (aN m ws)) ws.length) ?_ ?_
 . simp[show(ws.length:Int)<=1000000000 by omega];refine fc (JAf ws (.own true (ds.map D.int)) (.val false (aN m ws))) ?_ ?_ ⟨[[]],_,.aQ,.aQ,.aQ,.aQ,.aQ,rfl,.inl rfl,⟨rfl,rfl,rfl,rfl,rfl⟩,⟨fun fo E=>?_,fun _ fo hl _=>?_,by simp⟩⟩
   . rintro i _ hi⟨L,s2,s3,s4,s5,s6,s7,rfl,u,⟨h3,h4,h5,y,B⟩,A⟩;have ev:ws[i]?=some ws[i]:=by simp[hi]
     have J:=h.ok _ (mem_of_getElem? ev);have a1:=dN (f:=Wy.d) ev;have M:=I i _ ev;generalize ws[i]=v at*;have ac:L.length<=27:=le_trans A.len (Nat.pow_le_pow_right (by decide) (by omega:min i 3<=3));simp[h3];apply ak;simp[a1,Wy.d,h4];apply ak;simp[h5];refine bK (fun ρ=>∃W s2 s6 s7,ρ=[.own true (ds.map D.int),.val false (aN m ws),s2,.val false (.int i),.val false (.int v.r),.own false (W.map su),s6,s7]/\LO2 s2 (L.map su)/\(fr s6=true/\fr s7=true)/\Ud ws i v.r L L.length W) ?_ ?_;.rcases u with rfl|rfl;all_goals
        simp[show(L.length:Int)<=1000000000 by omega];refine fc (JAg ws i v.r L _ _ _ _) ?_ ?_ ⟨[],_,s6,s7,rfl,by first|exact .inl rfl|exact .inr rfl,⟨y,B⟩,⟨by simp,fun _ k fo p hk=>by omega,by simp⟩⟩
        . rintro t _ ht⟨W,s2,s6,s7,rfl,u,⟨y,B⟩,C⟩;have O:L[t]?=some L[t]:=by simp[ht]
          have a2:=dN (f:=su) O;have E:=A.ok _ (mem_of_getElem? O);generalize L[t]=fo at*;simp[y];apply ak;simp;refine mH hD hd (by omega) (by have:=J.r0;omega) (by have:=J.r1;omega) fun q q0 q1=>?_;simp[B];refine bK (fun ρ=>∃ps:List Int,ρ=[.own true (ds.map D.int),.val false (aN m ws),s2,.val false (.int i),.val false (.int v.r),.own false (W.map su),.val false (.int t),.own false (ps.map D.int)]/\(∀p∈ps,0<=p/\p<=v.r)/\(i<3->∀p,0<=p->p<=v.r->p∈ps)/\ps.length<=if i<3 then 3 else 1) ?_ ?_
          . simp;refine⟨fun U=>?_,fun U=>⟨[q],rfl,by simp;omega,fun z=>by omega,by rw[if_neg (by omega)];simp⟩⟩;have ae:=M (by omega);have af:=J.r0;symm;simp[show v.r+1<=1000000000 by omega,show-1000000000<=v.r+1 by omega];refine⟨by omega,(List.range (v.r+1).toNat).map fun(k:Nat)=>(k:Int),by rw[map_map];rfl,fun p hp=>?_,fun _ p p0 p1=>?_,by rw[if_pos (by omega)];simp;omega⟩;.obtain⟨k,hk,rfl⟩:=mem_map.mp hp;have:=mem_range.mp hk;omega
            .exact mem_map.mpr ⟨p.toNat,mem_range.mpr (by omega),by omega⟩
          rintro _⟨ps,rfl,X,Y,G⟩;have ag:W.length<=1000:=by have:=C.len;split at this<;>omega
          have hpl:ps.length<=3:=by split at G<;>omega
          symm;rcases u with rfl|rfl;all_goals
           simp[K5,show ps.length<=16777216 by omega];refine bQ (F8a _ _ _ _ _ _ _ _) (apD fo) ⟨.aQ,rfl,rfl⟩ ?_ ?_;.rintro d Z _⟨s,rfl,hs⟩;obtain⟨p,_,rfl⟩:=mem_map.mp Z;simp[hs,a2,su,apD,ou,show fo.length+1<=lim by show _<=16777216;omega];exact⟨_,rfl,rfl⟩
           . rintro _⟨s,rfl,hs⟩;have e:(ps.map D.int).map (apD fo)=(ps.map fun p=>fo++[p]).map su:=by rw[map_map,map_map];rfl
             rw[e];have H:W.length+ps.length<=lim:=by show _<=16777216;omega
             simp only[getElem?_cons_succ,List.getElem?_cons_zero,length_map];rw[if_pos H];simp;exact⟨W++ps.map fun p=>fo++[p],_,_,_,by rw[map_append,map_map],by first|exact .inl rfl|exact .inr rfl,⟨rfl,rfl⟩,C.add A ev O X Y G⟩
        .rintro _⟨W,s2,s6,s7,rfl,u,⟨y,B⟩,C⟩;exact⟨rfl,W,s2,s6,s7,rfl,u,⟨y,B⟩,C⟩
     rintro _⟨W,s2,s6,s7,rfl,u,⟨y,B⟩,C⟩;symm;rcases u with rfl|rfl;all_goals simp;exact⟨W,_,_,_,_,_,_,rfl,.inr rfl,⟨rfl,rfl,rfl,y,B⟩,C.done A ev⟩
   .rintro _⟨L,s2,s3,s4,s5,s6,s7,rfl,u,hs,A⟩;exact⟨rfl,_,_,_,_,_,_,_,rfl,u,hs,A⟩
   .rw[mem_singleton.mp E];exact⟨rfl,fun j v l _ e=>by simp at e⟩
   .have:fo=[]:=List.eq_nil_of_length_eq_zero hl;rw[this];simp
 rintro _⟨L,s2,s3,s4,s5,s6,s7,rfl,u,hs,A⟩;symm;rcases u with rfl|rfl;all_goals simp;exact k _ L (by first|exact .inl rfl|exact .inr rfl) A
inductive J88(m T v2:Int)(ws:List Wy)(L:List (List Int))(a0 a1 a2 a3 a4 a6:Sl)(i:Nat)(ρ:List Sl):Prop where|mk(b:Bool)(s7 s8:Sl)(q0:ρ=[a0,a1,a2,a3,a4,.val false (.bl b),a6,s7,s8])(q1:(fr s7=true/\fr s8=true))(q2:∀(k:Nat)fo,k<i->L[k]?=some fo->∃v1,dJ m (gR ws fo (uf ws fo)) T v1/\(v1=v2->b=true))
theorem Kw(ns:List Int)(hn:ns.length<=63):∃as,run Γ 100000000 40 39 [.val false (.lst (ns.map D.int))]=.ok (.val (.bl true)) as:=by
 suffices h:(run Γ 100000000 40 39 [.val false (.lst (ns.map D.int))]).sat fun r _=>r=.val (.bl true)by obtain⟨a,ρ,e,rfl⟩:=sat_iff.mp h;exact⟨ρ,e⟩
 refine aJ (d:=f39) rfl rfl (by decide) ?_;symm;simp[f39];refine Mh (M:=400) hn (by omega) fun ds ax hD=>?_;have hd:0<ds.length:=by omega
 simp;apply ak;simp;refine bY hd (by omega) (by omega) (by omega) fun c c0 c1=>?_;obtain⟨mo,em,ay,aE⟩:=qO (ns:=[3,2,3,6]) (lo:=2) (hi:=6) c0 (by simpa using c1) (by simp);simp only[map_cons,map_nil]at em;simp[em];refine Jf hD hd (by omega) (by omega) (by omega) (by omega) fun m us ag _ aI=>?_;simp;refine Et hD hd ag (by omega) fun ws y aS ah=>?_;have C:ws.length<=6:=by omega
 have hR:(bB ws).length=ws.length:=length_map _;have hN:=qm y C hR hR (eN y) (eN y);have ai:∀v∈ws,0<=v.r:=fun v hv=>(y.ok v hv).r0;simp;apply ak;simp;refine Hg hD hd (by omega) fun T T0 U=>?_;obtain⟨r,ρ,eb,fb,W,rfl,rfl⟩:=sat_iff.mp (G4 (w:=100000000) (n:=30) (T:=T) (Q:=fun r ρ=>∃fo,Bst m T ws fo/\r=.val (.tup (fo.map D.int))/\ρ=[.val false (aN m ws),.val false (.int T)]) (by omega) y C T0 fun fo W=>⟨fo,W,rfl,rfl⟩);simp;apply ak;simp;refine j7 C ?_;simp;refine cL (by omega) hN T0 U fun v2 l2=>?_;simp;apply ak;simp;refine cL (by omega) y T0 U fun v0 l0=>?_;have aT:=RG ai l2 l0;simp[show ¬ v2<v0 by omega];apply ak;simp;refine bK (fun ρ=>∃(L:List (List Int))(s6:Sl),ρ=[.val false (.lst (ns.map D.int)),.own false (ds.map D.int),.val false (aN m ws),.val false (.int T),.val false (.int v2),.val false (.bl false),s6,.aQ,.aQ]/\LO2 s6 (L.map su)/\Wf ws ws.length L) ?_ ?_
 . simp;refine Jl hD hd y C ah fun rr L al X=>?_;rcases al with rfl|rfl;.simp;exact⟨L,.inl rfl,X⟩
   .simp;exact⟨L,.inr rfl,X⟩
 rintro _⟨L,s6,rfl,am,X⟩;have a9:L.length<=27:=le_trans X.len (Nat.pow_le_pow_right (by decide) (by omega:min ws.length 3<=3));refine bK (fun ρ=>∃s6,J88 m T v2 ws L (.val false (.lst (ns.map D.int))) (.own false (ds.map D.int)) (.val false (aN m ws)) (.val false (.int T)) (.val false (.int v2)) s6 L.length ρ) ?_ ?_
 . rcases am with rfl|rfl
   . simp[show(L.length:Int)<=1000000000 by omega];refine fc (J88 m T v2 ws L _ _ _ _ _ _) ?_ ?_ ⟨false,.aQ,.aQ,rfl,⟨rfl,rfl⟩,fun k fo y=>by omega⟩
     . rintro t _ ht⟨b,s7,s8,rfl,⟨h7,h8⟩,J⟩;have Y:L[t]?=some L[t]:=by simp[ht]
       have a2:=dN (f:=su) Y;have Z:=X.ok _ (mem_of_getElem? Y);generalize L[t]=fo at*;have u:fits ws fo:=Z;have Vq:=uG (T:=T) y C u;have E:=Cv u;simp[h7];apply ak;simp[a2,su];refine km C u ?_;simp;refine cL (by omega) Vq T0 U fun v1 O=>?_;have ap:=Gi u.1 (fZ u.1) E.1 E.2 l2 O;simp[h8];apply ak;simp[show ¬ v2<v1 by omega];have G:∀k A,k<t+1->L[k]?=some A->∃x,dJ m (gR ws A (uf ws A)) T x/\(x=v2->(b||v1==v2)=true):=fun k A y B=>by
        by_cases c:k<t;.obtain⟨x,H,x2⟩:=J k A c B;exact⟨x,H,fun z=>by rw[x2 z];rfl⟩
        . obtain rfl:k=t:=by omega
          rw[Y]at B;cases B;exact⟨v1,O,fun z=>by rw[z];simp⟩
       refine bK (fun ρ=>ρ=[.val false (.lst (ns.map D.int)),.own false (ds.map D.int),.val false (aN m ws),.val false (.int T),.val false (.int v2),.val false (.bl b),.own false (L.map su),.val false (.int t),.val false (.int v1)]) ?_ ?_;.simp;refine⟨fun _=>?_,fun _ _ _=>?_⟩;all_goals symm;simp[a2,su];refine qJ (by omega) y C T0 U u l2 fun ar ac=>?_;obtain rfl:=O.uniq ac;simp
       rintro _ rfl;symm;simp;refine⟨fun I=>⟨true,_,_,rfl,⟨rfl,rfl⟩,fun k A y B=>?_⟩,fun I=>⟨v1==v2,_,_,rfl,⟨rfl,rfl⟩,fun k A y B=>?_⟩⟩;.obtain⟨x,H,_⟩:=G k A y B;exact⟨x,H,fun _=>rfl⟩
       .obtain⟨x,H,x2⟩:=G k A y B;exact⟨x,H,fun z=>by have:=x2 z;rw[I]at this;simpa using this⟩
     .rintro _⟨b,s7,s8,rfl,hs,J⟩;exact⟨rfl,_,b,s7,s8,rfl,hs,J⟩
   . simp[show(L.length:Int)<=1000000000 by omega];refine fc (J88 m T v2 ws L _ _ _ _ _ _) ?_ ?_ ⟨false,.aQ,.aQ,rfl,⟨rfl,rfl⟩,fun k fo y=>by omega⟩
     . rintro t _ ht⟨b,s7,s8,rfl,⟨h7,h8⟩,J⟩;have Y:L[t]?=some L[t]:=by simp[ht]
       have a2:=dN (f:=su) Y;have Z:=X.ok _ (mem_of_getElem? Y);generalize L[t]=fo at*;have u:fits ws fo:=Z;have Vq:=uG (T:=T) y C u;have E:=Cv u;simp[h7];apply ak;simp[a2,su];refine km C u ?_;simp;refine cL (by omega) Vq T0 U fun v1 O=>?_;have ap:=Gi u.1 (fZ u.1) E.1 E.2 l2 O;simp[h8];apply ak;simp[show ¬ v2<v1 by omega];have G:∀k A,k<t+1->L[k]?=some A->∃x,dJ m (gR ws A (uf ws A)) T x/\(x=v2->(b||v1==v2)=true):=fun k A y B=>by
        by_cases c:k<t;.obtain⟨x,H,x2⟩:=J k A c B;exact⟨x,H,fun z=>by rw[x2 z];rfl⟩
        . obtain rfl:k=t:=by omega
          rw[Y]at B;cases B;exact⟨v1,O,fun z=>by rw[z];simp⟩
       refine bK (fun ρ=>ρ=[.val false (.lst (ns.map D.int)),.own false (ds.map D.int),.val false (aN m ws),.val false (.int T),.val false (.int v2),.val false (.bl b),.val false (.lst (L.map su)),.val false (.int t),.val false (.int v1)]) ?_ ?_;.simp;refine⟨fun _=>?_,fun _ _ _=>?_⟩;all_goals symm;simp[a2,su];refine qJ (by omega) y C T0 U u l2 fun ar ac=>?_;obtain rfl:=O.uniq ac;simp
       rintro _ rfl;symm;simp;refine⟨fun I=>⟨true,_,_,rfl,⟨rfl,rfl⟩,fun k A y B=>?_⟩,fun I=>⟨v1==v2,_,_,rfl,⟨rfl,rfl⟩,fun k A y B=>?_⟩⟩;.obtain⟨x,H,_⟩:=G k A y B;exact⟨x,H,fun _=>rfl⟩
       .obtain⟨x,H,x2⟩:=G k A y B;exact⟨x,H,fun z=>by have:=x2 z;rw[I]at this;simpa using this⟩
     .rintro _⟨b,s7,s8,rfl,hs,J⟩;exact⟨rfl,_,b,s7,s8,rfl,hs,J⟩
 . rintro _⟨s6,b,s7,s8,rfl,hs,J⟩;symm;have aw:ws.length<=3->b=true:=fun h3=>by have ae:=X.all h3 fb W.fit.1 W.fit.2;obtain⟨k,af,e⟩:=getElem_of_mem ae;obtain⟨v1,O,hv⟩:=J k fb af (by rw[getElem?_eq_getElem af,e]);exact hv (W.opt v1 v2 l2 O)
   by_cases h3:ws.length<=3;.simp[show(ws.length:Int)<=3 by omega,aw h3];symm;simp;rw[eb];simp;refine uh (by omega) y C T0 U W ?_;simp
   .simp[show ¬(ws.length:Int)<=3 by omega,h3];symm;simp;rw[eb];simp;refine uh (by omega) y C T0 U W ?_;simp
end T
end
structure PySem.W.Fast:Prop where(tw10828682365763636961 tw17453497947479738090 tw123115862645127229 tw6843183731711565395 tw10883016196623159704 tw1179525895804002203 tw15934261273769346668 tw5852310291568885734 tw15346704383308983874 tw17291250457018116099 tw11551890672843841213 tw8639854578979693162 tw18178274894574444244 tw16444166317108642039 tw6834310438774306502 tw14411014773436769314 tw1757738960069004137 tw4975441161716309748 tw12305514256057805994 tw845152983389023546 tw17893109747326381608 tw16546583863980240114 tw5336929192438343315 tw11246481153590257181 tw1398983072634372813 tw7297928895119846744 tw10501023632126012487 tw5011359533494574352 tw3492810334469642520 tw17847511225306457498 tw10848218235903698699 tw232560445930552835 tw16216733802187289243 tw3427336291991526100 tw17237295249720930313 tw6591548033733812823 tw5233691764440473323 tw5962993803908016617 tw17874979240423991613 tw1689760142317596817 tw11797760359889188058 tw9940097613603315106 tw4969725434549686499 tw3165068715267331960 tw12653956154210134763 tw3517904942455051039 tw15483009885627888688 tw14521782983338239960 tw16974689292963676466 tw4997669383456094310 tw14259347258316216462 tw14394025571720693913 tw12069689522324246000 tw12080674779970161926 tw4755286860063366614 tw6668232462616742557 tw331752302334477106 tw14352624764831578035 tw10045998964827023284 tw10199416229896600709 tw14002711493016254625 tw388023386691543766 tw4795674191615465498 tw6369654345410066451 tw8452258485515033102 tw2005945582324619736 tw7206569981861406669 tw2800526276598026617 tw11946644903343667622 tw11399087576549250245 tw11631746017560253344 tw11983428418827716420 tw17596308074741212786 tw12783431064944913910 tw10718378462075954078 tw2291330141740386387 tw3658945791572596092 tw2258306785826202514 tw1969745532762994528 tw9646857314444653125 tw2102147811576468194 tw12610768113025466301 tw16019618960338690450 tw15636819857250635770 tw9240845591730988995 tw11759730889695636701 tw2307480779549359954 tw18272539604164725566 tw18349288429310480379 tw5080625984180740786 tw12612010415170762035 tw2611142611042955418 tw17111915862588384640 tw1044482462628726334 tw3976720532575592008 tw589122495657154389 tw2386703910107172704 tw17904462879604574545 tw12066576866004969631 tw6596231086959892535 tw9480495998126118727 tw12566648336292623814 tw17466849179620248450 tw3143629120904889088 tw5210624075526951326 tw463176779503139206 tw2007423988173635333 tw3524997539452928919 tw18238726205462067739 tw4012081900233573237 tw11899387530179383949 tw10146645637908774332 tw10523268739720919809 tw12995440783994343523 tw2878763191237124812 tw9736345587264552880 tw3886132357838662106 tw6195411942918046442 tw6862041501597051106 tw7156999787262300843 tw16288207645045744521 tw4352763629863523083 tw11983005383379450059 tw1650632674066721749 tw1306214380210418094 tw9490240864363918538 tw772335585780134538 tw12406525577462561344 tw6237577514641664441 tw189388358337986780 tw16999490387292301164 tw16945579091997905986 tw16249271790082675813 tw14420655941342445643 tw7935787200768738354 tw9728137425309924203 tw10411812202987307248 tw15918693895983597967 tw7496158892028440322 tw5562986202059447197 tw2243425024461278691 tw3116418005154456710 tw3564100738811789142 tw13446286936633692090 tw9182263039961606231 tw10124474207195926896 tw16830525363626184866 tw6867230624304811139 tw18413332929738178248 tw1780065705403467324 tw4582399104839528716 tw7407946246679833458 tw17263376765024584248 tw12534891893838234582 tw3369775753269167261 tw10814195918515885022 tw5462934140188255 tw841160370650768416 tw1799032766371435600 tw12126055408708773264 tw3493788549696513529 tw5493841067552244509 tw6558262268140644142 tw15202050359066021816 tw12489995800993369335 tw6072777260050332308 tw12437680880065759140 tw10056968975972508471 tw13947560521983760944 tw8514516754472882968 tw10336518706131512100 tw6932021655673996664 tw9617264482742896476 tw5409637125001104715 tw9803543439454124569 tw13065546279383000437 tw18349506103618511693 tw16977800915286639194 tw2336969100262034332 tw7011215246286240747 tw14455047230797534935 tw15684022696344236969 tw7775261899070041225 tw14133024976441248707 tw10180467866327409400 tw538044944141712708 tw14686820950481142773 tw2571440175580066815 tw3447473148603350126 tw4307257077846487773 tw12240240475944707052 tw8848702887572604841 tw14646798627421386069 tw1846345891056726355 tw4321255898771837489 tw2314738192721681285 tw7994594802594603958 tw5326584532516080876 tw1402692842657047702 tw4029747000749340649 tw15274026658918517140 tw1570093621710532856 tw18119451486071673112 tw519777753103192730 tw17172975385457156809 tw14547193030103952437 tw10427640985863099989 tw14922992039108490582 tw6812245852398377451 tw12838399439672782460 tw10692313814594798054 tw1297953501567703846 tw435331851947379793 tw5357614232599678557 tw7240838192253935691 tw16456589798991578061 tw4351101279067676439 tw18129941112320200555 tw10744865054729805681 tw16435759232700903661 tw11736297828445640791 tw11402940529362149026 tw8876253625376329892 tw3808086358039581399 tw13922036053515624186 tw5670258703981486769 tw15099690432699174655 tw13564372623751439839 tw9827253738713199281 tw10734766888407819234 tw13311050183331574246 tw331637496796841500 tw5238142191188847129 tw12515397326914385397 tw8794462906949809239 tw1032609013904182286 tw3167224481021345111 tw12295457040608603497 tw4134521128018879885 tw13007781396709390347 tw3679648387805758698 tw1529811553924747207 tw10794486336691318201 tw1487120872793109402 tw7606936917500559091 tw8929609176131430283 tw13222197432843069640 tw10572509284600748299 tw12751675297956661923 tw631105619591461023 tw16919818096525692726 tw15235157593090100335 tw11828508840550771685 tw12861077562528200217 tw8196237265807650523 tw1652247015562408722 tw4202507790293928507 tw9781453259525443635 tw886040615839227286 tw10061289833705642280 tw15794212252868156717 tw2453886801605528571 tw1516493592087100547 tw7964345146724673172 tw16956313937832621429 tw17970802549502312263 tw3157638880782837395 tw7957855309224491058 tw5339312953465251054 tw3093811704134842633 tw5212482150480966328 tw3052096236241985698 tw5730934455246221459 tw6952167254557473944 tw743479424388037272 tw2836559495469732080 tw17494582739794137290 tw840110831182082785 tw5550427345141545053 tw4421212207603163858 tw1726227136566774302 tw10455331320846197469 tw614958392829799931 tw2346984724244894263 tw470852473040414411 tw5397232082020419474 tw12100283992721045000 tw3142043098546280521 tw16140337868260507266 tw4536126605913455118 tw255059350004409806 tw88533128845384029 tw56196076902781802 tw2397351867488324503 tw9431709171894716324 tw7332189534653917507 tw10828663867576772785:True)
namespace T
open PySem L2 PySem.Spec PyProof.Rows HH
theorem Xi{P:List Value → Prop}{n:Nat}(h:∀(a:Value)(b:List Value),b.length=n → P (a::b))(b:List Value)(c:b.length=n+1):P b:=by cases b with|nil=>cases c|cons a b=>exact h a b (Nat.succ.inj c)
theorem lk0{P:List Value → Prop}(h:P [])(b:List Value)(c:b.length=0):P b:=by cases b with|nil=>exact h|cons a b=>cases c
theorem zW{P:List Value → Prop}(h:∀a,P [a]):∀b:List Value,b.length=1 → P b:=Xi fun a=>lk0 (h a)
theorem gA{P:List Value → Prop}(h:∀a b,P [a,b]):∀c:List Value,c.length=2 → P c:=Xi fun a=>zW (h a)
theorem uX{P:List Value → Prop}(h:∀a b c,P [a,b,c]):∀e:List Value,e.length=3 → P e:=Xi fun a=>gA (h a)
theorem lk4{P:List Value → Prop}(h:∀a b c d,P [a,b,c,d]):∀e:List Value,e.length=4 → P e:=Xi fun a=>uX (h a)
theorem lk5{P:List Value → Prop}(h:∀a b c d e,P [a,b,c,d,e]):∀f:List Value,f.length=5 → P f:=Xi fun a=>lk4 (h a)
local macro_rules|`(term|‹$p›)=>`(fun _ _ _ _ _ _=>$p)
structure Txt(K:PySem.W.Frag):Prop where
 D0:bw K "step_places" s0
 D1:bw K "step_hours" s1
 D2:bw K "step_room" s2
 D3:bw K "steps_hours" s3
 D4:bw K "open_steps" s4
 D5:bw K "shortest_come" s5
 D6:bw K "steps_to" s6
 D7:bw K "stream_with" s7
 D8:bw K "chains_to_end" s8
 D9:bw K "cut_to_rate" s9
 D10:bw K "bends_of" nJ
 D11:bw K "is_whole" Kc
 D12:bw K "whole_within" s12
 D13:bw K "is_row" s13
 D14:bw K "is_way" s14
 D15:bw K "made_net" s15
 D16:bw K "within_rooms" s16
 D17:bw K "with_rooms" s17
 D18:bw K "found_clocks" s18
 D19:bw K "light_stream" s19
 D20:bw K "bends_by" s20
 D21:bw K "most_of" s21
 D22:bw K "most_by" s22
 D23:bw K "rate_by" s23
 D24:bw K "stream_by" s24
 D25:bw K "few_enough" s25
 D26:bw K "lanes_net" s26
 D27:bw K "open_net" s27
 D28:bw K "is_forth" s28
 D29:bw K "laned_net" s29
 D30:bw K "best_forth" s30
 D31:bw K "forth_right" s31
 D32:bw K "_law_all" s32
 D33:bw K "_law_draw" s33
 D34:bw K "_law_wide" s34
 D35:bw K "_law_net" s35
 D36:bw K "_law_last" s36
 D37:bw K "_law_small" s37
 D38:bw K "_law_all_forth" s38
 D39:bw K "law" s39
 Dl:PySem.W.nsIn K mainGlobals "abs"=some none
 J6:PySem.W.nsIn K mainGlobals "all"=some none
 Ah:PySem.W.nsIn K mainGlobals "bool"=some none
 jU:PySem.W.nsIn K mainGlobals "enumerate"=some none
 J4:PySem.W.nsIn K mainGlobals "int"=some none
 cQ:PySem.W.nsIn K mainGlobals "isinstance"=some none
 aY:PySem.W.nsIn K mainGlobals "len"=some none
 fK:PySem.W.nsIn K mainGlobals "list"=some none
 J7:PySem.W.nsIn K mainGlobals "max"=some none
 m6:PySem.W.nsIn K mainGlobals "min"=some none
 bj:PySem.W.nsIn K mainGlobals "range"=some none
 lQ:PySem.W.nsIn K mainGlobals "reversed"=some none
 rN:PySem.W.nsIn K mainGlobals "sorted"=some none
 jj:PySem.W.nsIn K mainGlobals "sum"=some none
 bT:PySem.W.nsIn K mainGlobals "tuple"=some none
 gK:PySem.W.nsIn K mainGlobals "zip"=some none
 gJ:∃t,PySem.W.nsIn K mainGlobals "LEAST_PLACES"=some (some (Value.int 2 t))jf:∃t,PySem.W.nsIn K mainGlobals "MOST_HOURS"=some (some (Value.int 1000000 t))jg:∃t,PySem.W.nsIn K mainGlobals "MOST_LANED"=some (some (Value.int 6 t))iw:∃t,PySem.W.nsIn K mainGlobals "MOST_PLACES"=some (some (Value.int 6 t))jT:∃t,PySem.W.nsIn K mainGlobals "MOST_ROOM"=some (some (Value.int 1000000000 t))jV:∃t,PySem.W.nsIn K mainGlobals "MOST_WAYS"=some (some (Value.int 12 t))
noncomputable def iy{K:PySem.W.Frag}(T:Txt K):Nat->Addr:=fun k=>0
structure Oks(Pg:Program)(w:World)(K:PySem.W.Frag)(mg:Str->Option Value)(base:Heap)(cl:Nat->Addr)(n:Nat):Prop where
 c0:aR Pg w K mg base n (run Γ 100000000 n) 0 "step_places" 2
 c1:aR Pg w K mg base n (run Γ 100000000 n) 1 "step_hours" 2
 c2:aR Pg w K mg base n (run Γ 100000000 n) 2 "step_room" 3
 c3:aR Pg w K mg base n (run Γ 100000000 n) 3 "steps_hours" 2
 c4:aR Pg w K mg base n (run Γ 100000000 n) 4 "open_steps" 2
 c5:aR Pg w K mg base n (run Γ 100000000 n) 5 "shortest_come" 3
 c6:aR Pg w K mg base n (run Γ 100000000 n) 6 "steps_to" 3
 c7:aR Pg w K mg base n (run Γ 100000000 n) 7 "stream_with" 3
 c8:aR Pg w K mg base n (run Γ 100000000 n) 8 "chains_to_end" 1
 c9:aR Pg w K mg base n (run Γ 100000000 n) 9 "cut_to_rate" 2
 c10:aR Pg w K mg base n (run Γ 100000000 n) 10 "bends_of" 1
 c11:aR Pg w K mg base n (run Γ 100000000 n) 11 "is_whole" 1
 c12:aR Pg w K mg base n (run Γ 100000000 n) 12 "whole_within" 3
 c13:aR Pg w K mg base n (run Γ 100000000 n) 13 "is_row" 1
 c14:aR Pg w K mg base n (run Γ 100000000 n) 14 "is_way" 2
 c15:aR Pg w K mg base n (run Γ 100000000 n) 15 "made_net" 2
 c16:aR Pg w K mg base n (run Γ 100000000 n) 16 "within_rooms" 2
 c17:aR Pg w K mg base n (run Γ 100000000 n) 17 "with_rooms" 2
 c18:aR Pg w K mg base n (run Γ 100000000 n) 18 "found_clocks" 2
 c19:aR Pg w K mg base n (run Γ 100000000 n) 19 "light_stream" 2
 c20:aR Pg w K mg base n (run Γ 100000000 n) 20 "bends_by" 2
 c21:aR Pg w K mg base n (run Γ 100000000 n) 21 "most_of" 2
 c22:aR Pg w K mg base n (run Γ 100000000 n) 22 "most_by" 2
 c23:aR Pg w K mg base n (run Γ 100000000 n) 23 "rate_by" 2
 c24:aR Pg w K mg base n (run Γ 100000000 n) 24 "stream_by" 2
 c25:aR Pg w K mg base n (run Γ 100000000 n) 25 "few_enough" 1
 c26:aR Pg w K mg base n (run Γ 100000000 n) 26 "lanes_net" 3
 Xh:aR Pg w K mg base n (run Γ 100000000 n) 27 "open_net" 1
 c28:aR Pg w K mg base n (run Γ 100000000 n) 28 "is_forth" 2
 c29:aR Pg w K mg base n (run Γ 100000000 n) 29 "laned_net" 2
 c30:aR Pg w K mg base n (run Γ 100000000 n) 30 "best_forth" 2
 c31:aR Pg w K mg base n (run Γ 100000000 n) 31 "forth_right" 3
 c32:aR Pg w K mg base n (run Γ 100000000 n) 32 "_law_all" 2
 Vr:aR Pg w K mg base n (run Γ 100000000 n) 33 "_law_draw" 3
 c34:aR Pg w K mg base n (run Γ 100000000 n) 34 "_law_wide" 3
 c35:aR Pg w K mg base n (run Γ 100000000 n) 35 "_law_net" 4
 c36:aR Pg w K mg base n (run Γ 100000000 n) 36 "_law_last" 2
 c37:aR Pg w K mg base n (run Γ 100000000 n) 37 "_law_small" 2
 c38:aR Pg w K mg base n (run Γ 100000000 n) 38 "_law_all_forth" 2
 c39:aR Pg w K mg base n (run Γ 100000000 n) 39 "law" 1
set_option maxHeartbeats 0 in
theorem Jj{Pg:Program}{w:World}{K:PySem.W.Frag}{mg:Str->Option Value}{base:Heap}(T:Txt K)(X:K.In base)(G:base.Ns mainGlobals mg):∀n,Oks Pg w K mg base (iy T) n
 |0=>{
   c0:=bF (ps:=["net","step"]) X G T.D0 rfl ‹gA fun _ _=>rfl›
   c1:=bF (ps:=["net","step"]) X G T.D1 rfl ‹gA fun _ _=>rfl›
   c2:=bF (ps:=["net","stream","step"]) X G T.D2 rfl ‹uX fun _ _ _=>rfl›
   c3:=bF (ps:=["net","steps"]) X G T.D3 rfl ‹gA fun _ _=>rfl›
   c4:=bF (ps:=["net","stream"]) X G T.D4 rfl ‹gA fun _ _=>rfl›
   c5:=bF (ps:=["net","stream","begun"]) X G T.D5 rfl ‹uX fun _ _ _=>rfl›
   c6:=bF (ps:=["net","come","place"]) X G T.D6 rfl ‹uX fun _ _ _=>rfl›
   c7:=bF (ps:=["stream","steps","loads"]) X G T.D7 rfl ‹uX fun _ _ _=>rfl›
   c8:=bF (ps:=["net"]) X G T.D8 rfl ‹zW fun _=>rfl›
   c9:=bF (ps:=["pairs","rate"]) X G T.D9 rfl ‹gA fun _ _=>rfl›
   c10:=bF (ps:=["net"]) X G T.D10 rfl ‹zW fun _=>rfl›
   c11:=bF (ps:=["thing"]) X G T.D11 rfl ‹zW fun _=>rfl›
   c12:=bF (ps:=["thing","least","most"]) X G T.D12 rfl ‹uX fun _ _ _=>rfl›
   c13:=bF (ps:=["thing"]) X G T.D13 rfl ‹zW fun _=>rfl›
   c14:=bF (ps:=["many","thing"]) X G T.D14 rfl ‹gA fun _ _=>rfl›
   c15:=bF (ps:=["many","ways"]) X G T.D15 rfl ‹gA fun _ _=>rfl›
   c16:=bF (ps:=["net","stream"]) X G T.D16 rfl ‹gA fun _ _=>rfl›
   c17:=bF (ps:=["net","rooms"]) X G T.D17 rfl ‹gA fun _ _=>rfl›
   c18:=bF (ps:=["net","stream"]) X G T.D18 rfl ‹gA fun _ _=>rfl›
   c19:=bF (ps:=["net","rate"]) X G T.D19 rfl ‹gA fun _ _=>rfl›
   c20:=bF (ps:=["net","last"]) X G T.D20 rfl ‹gA fun _ _=>rfl›
   c21:=bF (ps:=["bends","last"]) X G T.D21 rfl ‹gA fun _ _=>rfl›
   c22:=bF (ps:=["net","last"]) X G T.D22 rfl ‹gA fun _ _=>rfl›
   c23:=bF (ps:=["net","last"]) X G T.D23 rfl ‹gA fun _ _=>rfl›
   c24:=bF (ps:=["net","last"]) X G T.D24 rfl ‹gA fun _ _=>rfl›
   c25:=bF (ps:=["net"]) X G T.D25 rfl ‹zW fun _=>rfl›
   c26:=bF (ps:=["net","forth","back"]) X G T.D26 rfl ‹uX fun _ _ _=>rfl›
   Xh:=bF (ps:=["net"]) X G T.D27 rfl ‹zW fun _=>rfl›
   c28:=bF (ps:=["net","forth"]) X G T.D28 rfl ‹gA fun _ _=>rfl›
   c29:=bF (ps:=["net","forth"]) X G T.D29 rfl ‹gA fun _ _=>rfl›
   c30:=bF (ps:=["net","last"]) X G T.D30 rfl ‹gA fun _ _=>rfl›
   c31:=bF (ps:=["net","last","forth"]) X G T.D31 rfl ‹uX fun _ _ _=>rfl›
   c32:=bF (ps:=["script","many"]) X G T.D32 rfl ‹gA fun _ _=>rfl›
   Vr:=bF (ps:=["draws","at","many"]) X G T.D33 rfl ‹uX fun _ _ _=>rfl›
   c34:=bF (ps:=["draws","at","many"]) X G T.D34 rfl ‹uX fun _ _ _=>rfl›
   c35:=bF (ps:=["draws","at","places","most"]) X G T.D35 rfl ‹lk4 fun _ _ _ _=>rfl›
   c36:=bF (ps:=["draws","at"]) X G T.D36 rfl ‹gA fun _ _=>rfl›
   c37:=bF (ps:=["draws","net"]) X G T.D37 rfl ‹gA fun _ _=>rfl›
   c38:=bF (ps:=["draws","net"]) X G T.D38 rfl ‹gA fun _ _=>rfl›
   c39:=bF (ps:=["script"]) X G T.D39 rfl ‹zW fun _=>rfl›}|n+1=>have a:=Jj (Pg:=Pg) (w:=w) (base:=base) T X G n
   {c0:=bG (ps:=["net","step"]) X G T.D0 rfl rfl ‹gA fun _ _=>rfl› fun _ _ F=>d0 (cl:=iy T) F
    c1:=bG (ps:=["net","step"]) X G T.D1 rfl rfl ‹gA fun _ _=>rfl› fun _ _ F=>d1 (cl:=iy T) F
    c2:=bG (ps:=["net","stream","step"]) X G T.D2 rfl rfl ‹uX fun _ _ _=>rfl› fun _ _ F=>d2 (cl:=iy T) F
    c3:=bG (ps:=["net","steps"]) X G T.D3 rfl rfl ‹gA fun _ _=>rfl› fun _ _ F=>d3 (cl:=iy T) F (mg_none_of X G T.jj) a.c1
    c4:=bG (ps:=["net","stream"]) X G T.D4 rfl rfl ‹gA fun _ _=>rfl› fun _ _ F=>d4 (cl:=iy T) F (mg_none_of X G T.aY) (mg_none_of X G T.bj) a.c0 a.c2
    c5:=bG (ps:=["net","stream","begun"]) X G T.D5 rfl rfl ‹uX fun _ _ _=>rfl› fun _ _ F=>d5 (cl:=iy T) F (mg_none_of X G T.aY) (mg_none_of X G T.fK) a.c4 a.c1 a.c0
    c6:=bG (ps:=["net","come","place"]) X G T.D6 rfl rfl ‹uX fun _ _ _=>rfl› fun _ _ F=>d6 (cl:=iy T) F (mg_none_of X G T.lQ) (mg_none_of X G T.bT) a.c0
    c7:=bG (ps:=["stream","steps","loads"]) X G T.D7 rfl rfl ‹uX fun _ _ _=>rfl› fun _ _ F=>d7 (cl:=iy T) F (mg_none_of X G T.fK)
    c8:=bG (ps:=["net"]) X G T.D8 rfl rfl ‹zW fun _=>rfl› fun _ _ F=>d8 (cl:=iy T) F (mg_none_of X G T.aY) (mg_none_of X G T.m6) a.c5 a.c2 a.c6 a.c7
    c9:=bG (ps:=["pairs","rate"]) X G T.D9 rfl rfl ‹gA fun _ _=>rfl› fun _ _ F=>d9 (cl:=iy T) F (mg_none_of X G T.m6)
    c10:=bG (ps:=["net"]) X G T.D10 rfl rfl ‹zW fun _=>rfl› fun _ _ F=>d10 (cl:=iy T) F (mg_none_of X G T.rN) a.c8 a.c3
    c11:=bG (ps:=["thing"]) X G T.D11 rfl rfl ‹zW fun _=>rfl› fun _ _ F=>d11 (cl:=iy T) F (mg_none_of X G T.Ah) (mg_none_of X G T.J4) (mg_none_of X G T.cQ)
    c12:=bG (ps:=["thing","least","most"]) X G T.D12 rfl rfl ‹uX fun _ _ _=>rfl› fun _ _ F=>d12 (cl:=iy T) F a.c11
    c13:=bG (ps:=["thing"]) X G T.D13 rfl rfl ‹zW fun _=>rfl› fun _ _ F=>d13 (cl:=iy T) F (mg_none_of X G T.cQ) (mg_none_of X G T.fK) (mg_none_of X G T.bT)
    c14:=bG (ps:=["many","thing"]) X G T.D14 rfl rfl ‹gA fun _ _=>rfl› fun _ _ F=>d14 (cl:=iy T) F (mg_none_of X G T.aY) (T.jf.elim fun t e=>⟨t,mg_of X G e⟩) (T.jT.elim fun t e=>⟨t,mg_of X G e⟩) a.c13 a.c12
    c15:=bG (ps:=["many","ways"]) X G T.D15 rfl rfl ‹gA fun _ _=>rfl› fun _ _ F=>d15 (cl:=iy T) F (mg_none_of X G T.jU) (mg_none_of X G T.aY) (mg_none_of X G T.bT) (T.gJ.elim fun t e=>⟨t,mg_of X G e⟩) (T.iw.elim fun t e=>⟨t,mg_of X G e⟩) (T.jV.elim fun t e=>⟨t,mg_of X G e⟩) a.c13 a.c14 a.c12
    c16:=bG (ps:=["net","stream"]) X G T.D16 rfl rfl ‹gA fun _ _=>rfl› fun _ _ F=>d16 (cl:=iy T) F (mg_none_of X G T.J6) (mg_none_of X G T.gK)
    c17:=bG (ps:=["net","rooms"]) X G T.D17 rfl rfl ‹gA fun _ _=>rfl› fun _ _ F=>d17 (cl:=iy T) F (mg_none_of X G T.bT) (mg_none_of X G T.gK)
    c18:=bG (ps:=["net","stream"]) X G T.D18 rfl rfl ‹gA fun _ _=>rfl› fun _ _ F=>d18 (cl:=iy T) F (mg_none_of X G T.bj) (mg_none_of X G T.jj) a.c5
    c19:=bG (ps:=["net","rate"]) X G T.D19 rfl rfl ‹gA fun _ _=>rfl› fun _ _ F=>d19 (cl:=iy T) F (mg_none_of X G T.aY) a.c8 a.c9 a.c18 a.c7
    c20:=bG (ps:=["net","last"]) X G T.D20 rfl rfl ‹gA fun _ _=>rfl› fun _ _ F=>d20 (cl:=iy T) F a.c10
    c21:=bG (ps:=["bends","last"]) X G T.D21 rfl rfl ‹gA fun _ _=>rfl› fun _ _ F=>d21 (cl:=iy T) F (mg_none_of X G T.jj)
    c22:=bG (ps:=["net","last"]) X G T.D22 rfl rfl ‹gA fun _ _=>rfl› fun _ _ F=>d22 (cl:=iy T) F a.c10 a.c21
    c23:=bG (ps:=["net","last"]) X G T.D23 rfl rfl ‹gA fun _ _=>rfl› fun _ _ F=>d23 (cl:=iy T) F (mg_none_of X G T.jj) a.c20
    c24:=bG (ps:=["net","last"]) X G T.D24 rfl rfl ‹gA fun _ _=>rfl› fun _ _ F=>d24 (cl:=iy T) F a.c19 a.c23
    c25:=bG (ps:=["net"]) X G T.D25 rfl rfl ‹zW fun _=>rfl› fun _ _ F=>d25 (cl:=iy T) F (mg_none_of X G T.aY) (T.jg.elim fun t e=>⟨t,mg_of X G e⟩)
    c26:=bG (ps:=["net","forth","back"]) X G T.D26 rfl rfl ‹uX fun _ _ _=>rfl› fun _ _ F=>d26 (cl:=iy T) F (mg_none_of X G T.bT) (mg_none_of X G T.gK) a.c17
    Xh:=bG (ps:=["net"]) X G T.D27 rfl rfl ‹zW fun _=>rfl› fun _ _ F=>d27 (cl:=iy T) F a.c25 a.c26
    c28:=bG (ps:=["net","forth"]) X G T.D28 rfl rfl ‹gA fun _ _=>rfl› fun _ _ F=>d28 (cl:=iy T) F (mg_none_of X G T.aY) a.c16
    c29:=bG (ps:=["net","forth"]) X G T.D29 rfl rfl ‹gA fun _ _=>rfl› fun _ _ F=>d29 (cl:=iy T) F (mg_none_of X G T.gK) a.c25 a.c28 a.c26
    c30:=bG (ps:=["net","last"]) X G T.D30 rfl rfl ‹gA fun _ _=>rfl› fun _ _ F=>d30 (cl:=iy T) F (mg_none_of X G T.aY) (mg_none_of X G T.bT) (mg_none_of X G T.gK) a.Xh a.c24
    c31:=bG (ps:=["net","last","forth"]) X G T.D31 rfl rfl ‹uX fun _ _ _=>rfl› fun _ _ F=>d31 (cl:=iy T) F a.c28 a.c29 a.c22 a.Xh
    c32:=bG (ps:=["script","many"]) X G T.D32 rfl rfl ‹gA fun _ _=>rfl› fun _ _ F=>d32 (cl:=iy T) F (mg_none_of X G T.Dl) (mg_none_of X G T.aY) (mg_none_of X G T.bj)
    Vr:=bG (ps:=["draws","at","many"]) X G T.D33 rfl rfl ‹uX fun _ _ _=>rfl› fun _ _ F=>d33 (cl:=iy T) F (mg_none_of X G T.aY)
    c34:=bG (ps:=["draws","at","many"]) X G T.D34 rfl rfl ‹uX fun _ _ _=>rfl› fun _ _ F=>d34 (cl:=iy T) F (mg_none_of X G T.aY)
    c35:=bG (ps:=["draws","at","places","most"]) X G T.D35 rfl rfl ‹lk4 fun _ _ _ _=>rfl› fun _ _ F=>d35 (cl:=iy T) F (mg_none_of X G T.J7) (mg_none_of X G T.m6) (mg_none_of X G T.bj) a.Vr a.c34 a.c15
    c36:=bG (ps:=["draws","at"]) X G T.D36 rfl rfl ‹gA fun _ _=>rfl› fun _ _ F=>d36 (cl:=iy T) F a.Vr a.c34
    c37:=bG (ps:=["draws","net"]) X G T.D37 rfl rfl ‹gA fun _ _=>rfl› fun _ _ F=>d37 (cl:=iy T) F (mg_none_of X G T.aY) (mg_none_of X G T.bj) a.Vr a.c15
    c38:=bG (ps:=["draws","net"]) X G T.D38 rfl rfl ‹gA fun _ _=>rfl› fun _ _ F=>d38 (cl:=iy T) F (mg_none_of X G T.aY) (mg_none_of X G T.fK) (mg_none_of X G T.bj) a.c34
    c39:=bG (ps:=["script"]) X G T.D39 rfl rfl ‹zW fun _=>rfl› fun _ _ F=>d39 (cl:=iy T) F (mg_none_of X G T.aY) (mg_none_of X G T.bj) a.c32 a.c38 a.Vr a.c36 a.c35 a.c37 a.c30 a.c31 a.c29 a.c22 a.Xh}
theorem V9{K:PySem.W.Frag}{x:Str}{i:Int}{t:Tok}(a:PySem.W.nsIn K mainGlobals x=some (some (Value.int i t))):∃t,PySem.W.nsIn K mainGlobals x=some (some (Value.int i t)):=⟨t,a⟩
set_option maxHeartbeats 0 in
theorem Rp{Pg:Program}{w:World}{K:PySem.W.Frag}{mg:Str->Option Value}{h:Heap}{i:Addr}(T:Txt K)(X:K.In h)(G:h.Ns mainGlobals mg)(g:mg "law"=some (.ref i)):∃fd:FuncData,(∀(s:Shared)(u:Value),BindsTo s fd ⟨[u],[]⟩ [("script",u)])/\∀base:Heap,K.In base->base.Ns mainGlobals mg->nH Pg w K mg base Hu 40 i fd ["script"] (Kr K 1 (run Γ 100000000 40 39)):=by
 obtain⟨f,fd,a,F⟩:=T.D39.ex;have e:=g.symm.trans (mg_of X G a);cases e;refine⟨fd,fun s u=>?_,fun base j l=>?_⟩;.obtain⟨oc,q,kV,m,r,t,cdv,ct,o,rfl,lk,p⟩:=F.ex;exact .of_eq rfl
 .have b:=Jj (Pg:=Pg) (w:=w) (base:=base) T j l 39;exact d39 (cl:=iy T) (k:=39) (n:=100000000) (c:=run Γ 100000000 39) F (mg_none_of X G T.aY) (mg_none_of X G T.bj) b.c32 b.c38 b.Vr b.c36 b.c35 b.c37 b.c30 b.c31 b.c29 b.c22 b.Xh
end T
open PySem PySem.W PyProof.Rows
set_option maxRecDepth 100000 in
set_option maxHeartbeats 0 in
theorem PySem.Challenge.cw_hourhaul_k88_whole_no_lanes_bring_more_holds : PySem.Challenge.rw_hourhaul_k88_whole_no_lanes_bring_more.Holds := by
 w_on;o_law;k_head;(case hw=>w_witness2);k_fill;refine L2.Hb (l:=PySem.Challenge.rw_hourhaul_k88_whole_no_lanes_bring_more) (n:=63) (k:=40) (x:="script") (CX:=L2.Hu) (sp:=fun K=>HH.Kr K 1 (HH.run T.Γ 100000000 40 39)) rfl (by decide) rfl ⟨rfl,by decide,by decide⟩ (fun w h Y=>PySem.W.kIn_of Y) ?F ?S ?C;case F=>
  intro w mg j h f G b;refine T.Rp ?T f G b;constructor;iterate 40(· refine' HH.QK ?a ?l ?c ?k;case a|l|c|k=>k_is)
  iterate 16(· k_is)
  . (refine' T.V9 ?a);(case a=>k_is)
  . (refine' T.V9 ?a);(case a=>k_is)
  . (refine' T.V9 ?a);(case a=>k_is)
  . (refine' T.V9 ?a);(case a=>k_is)
  . (refine' T.V9 ?a);(case a=>k_is)
  . (refine' T.V9 ?a);(case a=>k_is)
 case S=>intro K H a ns g m i;obtain⟨as,e⟩:=T.Kw ns g;exact HH.Ds i e
 case C=>exact fun H s e o z=>z
