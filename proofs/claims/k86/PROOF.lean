import PyProof.Rows.All
import Wide.All
import OpenK.AllK
import Wide.FinOn
import Lean
import PyProof.EqAt
import PyProof.EqKinds
import PyProof.TupleCall
import PySem.Str
import PySem.Builtin.Int.W1All
import PyProof.NeKinds
import PyProof.ZipIter
import PyProof.SumWalkG
import PyProof.MinMaxWalk
import PyProof.WalksMore
import PyProof.SeqI3
import PyProof.WalkInts
import PyProof.Rows.CallKwBuiltin
import PyProof.Rows.Tup
import PyProof.CollectIter
import PyProof.EnumMake
import PyProof.TupleOfSeq
import PyProof.ListNew
import PyProof.ReprLoop
import PyProof.StationsW
import PyProof.ExcClass3
import PyProof.Rows.CatchBare
import OpenK.KOwn
import KE.KIsAll
import PyProof.NsDelKeeps
import PyProof.RulesAs
import PyProof.ExcArgsOwn
import PyProof.ListRange
import KE.RegKIsAll
import KE.KRevIter
import PyProof.Rows.SortRuns
import KE.KSortTup
import PyProof.DictWalks
import KE.KDictList
import KE.KItemsList
import PyProof.ExcBaseAll.ValueError
import PySem.Challenge.RW_hourhaul_k86_best_forth_told
set_option Elab.async false
set_option linter.all false
set_option maxRecDepth 100000
set_option genSizeOf false
set_option compiler.extract_closed false
set_option bootstrap.genMatcherCode false
open PySem.W(mg_none_of mg_of keepIn methodObj kitx_dict)
open List(replicate getElem?_set_ne mem_map mem_cons map_cons getElem?_set_self size_toArray map_map length_map mem_of_getElem? length_cons mem_cons_of_mem length_append nodup_cons mem_singleton getElem?_append_left mem_append getElem?_map all_eq_true append_nil append_assoc lookup_cons find?_cons map_append mem_append_right of_mem_zip getElem?_append_right mem_cons_self replicate_succ getElem?_cons_succ getElem_mem not_mem_nil getElem?_eq_getElem mem_range filterMap_cons foldl map_nil any_cons cons_append map_congr_left length_take getElem_of_mem length_range drop_eq_getElem_cons ext_getElem nodup_append contains_iff_mem mem_filter reverse_cons flatten_cons foldl_cons nil_append drop_eq_nil_iff all_cons map getElem?_set any_eq_true sum_cons forIn_cons forIn_nil length_nil map_set)
open PySem.Heap(get?_push_of_some lt_size get?_push_size size_push get?_update_other SameBut)
open Nat(le_refl ne_of_lt lt_of_lt_of_le zero_le le_trans lt_irrefl le_of_lt ne_of_gt le_succ)
open PySem.Builtin.Tuple(tupleExact tupleItemsOf)
open Option(map_eq_some_iff bind_some isSome_map getD_none)
open Bool(and_eq_true false_eq_true or_eq_true not_eq_true')
open PySem.Builtin.Slice(slicePlaces sliceAdjust sliceApplied)
open PySem.Builtin.List(listExtendWith listTooLong listLengthHint listSameRef)
open Array(length_toList toList)
open PySem.F(slot_tuple_add entry_tuple_add args_tuple_add_2 slot_tuple_mul slot_dict_get)
open PySem.SeqAt.EqAt(int_str str_int)
open PySem.SeqAt.RcAt(lists_lengths)
open Int(toNat_natCast sub_zero mul_comm mul_one mul_add mul_neg)
open PySem.SeqAt.RcNeAt(none_int none_str bool_int bool_str int_none int_bool int_int int_list str_none str_bool str_str str_list list_int list_str)
theorem dC{h:PySem.Heap}{o o1:PySem.Obj}{a:PySem.Addr}(e:h.get? a=some o):(h.push o1).get? a=some o:=PySem.Heap.get?_push_of_some _ e
theorem dI{α:Type}{l:List α}{i:Nat}{a:α}(h:l[i]?=some a):∃h:i<l.length,l[i]=a:=List.getElem?_eq_some_iff.mp h
theorem eV{α:Type}{l:List α}{i j:Nat}{a:α}(h:j≠i):(l.set i a)[j]?=l[j]?:=List.getElem?_set_ne (Ne.symm h)
theorem uW{n:Nat}:0<=n:=Nat.zero_le n
theorem dh{n:Nat}:n<=n:=Nat.le_refl n
section
namespace L2
open PySem PySem.Spec PyProof.Rows
variable{w:World}{h:Heap}{t' i:Nat}{M:Model}{A:Around}{s:Shared}{pos:Pos}{pins:List (Addr×Obj)}{op:CmpOp}{K:PySem.W.Frag}{tg:Expr}{us:List Value}
noncomputable abbrev Key:=Sum Int Str
noncomputable def oh:Key->Value->Bool|.inl k,v=>Value.isInt k v|.inr x,v=>Value.isStrOf x v
noncomputable def aeF(w:World):Key->Int|.inl k=>hashInt k|.inr x=>hashStr w x
theorem bJ:∀{k:Key}{v:Value},oh k v=true->(∃i t,k=Sum.inl i/\v=Value.int i t)\/(∃x t,k=Sum.inr x/\v=Value.str x t)|.inl i,v,h=>by obtain⟨t,e⟩:=Value.isInt_shape (k:=i) (v:=v) h;exact .inl ⟨i,t,rfl,e⟩|.inr x,v,h=>by obtain⟨t,e⟩:=Value.isStrOf_shape (x:=x) (v:=v) h;exact .inr ⟨x,t,rfl,e⟩
theorem DN(i:Int)(t:Tok):oh (.inl i) (.int i t)=true:=by simp[oh,Value.isInt]
theorem De(x:Str)(t:Tok):oh (.inr x) (.str x t)=true:=by simp[oh,Value.isStrOf]
theorem TQ(a b:Int):decide ((Sum.inl a:Key)=Sum.inl b)=(a==b):=by
 by_cases e:a=b;.subst e;simp
 .have h:¬(Sum.inl a:Key)=Sum.inl b:=fun q=>e (Sum.inl.inj q);rw[decide_eq_false h];exact(beq_eq_false_iff_ne.mpr e).symm
theorem Uv(a b:Str):decide ((Sum.inr a:Key)=Sum.inr b)=decide (a=b):=by
 by_cases e:a=b;.subst e;simp
 .have h:¬(Sum.inr a:Key)=Sum.inr b:=fun q=>e (Sum.inr.inj q);rw[decide_eq_false h,decide_eq_false e]
theorem Qo(a:Int)(b:Str):decide ((Sum.inl a:Key)=Sum.inr b)=false:=decide_eq_false (fun q=>nomatch q)
theorem Uw(a:Str)(b:Int):decide ((Sum.inr a:Key)=Sum.inl b)=false:=decide_eq_false (fun q=>nomatch q)
noncomputable def bh(prog:Program)(w:World):PySem.KeyKind prog w Key where
 is:=oh;hash:=aeF w;inj:=fun v a b ha hb=>by
  rcases bJ ha with⟨i,t,rfl,rfl⟩|⟨x,t,rfl,rfl⟩
  . rcases bJ hb with⟨j,u,rfl,e⟩|⟨y,u,rfl,e⟩;.injection e with e1 _;rw[e1]
    .exact nomatch e
  . rcases bJ hb with⟨j,u,rfl,e⟩|⟨y,u,rfl,e⟩;.exact nomatch e
    .injection e with e1 _;rw[e1]
 byValue:=fun k v h=>by rcases bJ h with⟨i,t,rfl,rfl⟩|⟨x,t,rfl,rfl⟩<;>rfl
 pyHash:=fun hv h=>by
  rcases bJ hv with⟨i,t,rfl,rfl⟩|⟨x,t,rfl,rfl⟩;.exact wpAny_pyHash_int h
  .exact wpAny_pyHash_str h
 eqBool:=fun hu hv h=>by
  rcases bJ hu with⟨i,t,rfl,rfl⟩|⟨x,t,rfl,rfl⟩
  . rcases bJ hv with⟨j,u,rfl,rfl⟩|⟨y,u,rfl,rfl⟩;.rw[TQ]at h;exact wpAny_eqBool_int h
    .rw[Qo]at h;exact int_str i t y u _ _ _ _ h
  . rcases bJ hv with⟨j,u,rfl,rfl⟩|⟨y,u,rfl,rfl⟩;.rw[Uw]at h;exact str_int x t j u _ _ _ _ h
    .rw[Uv]at h;exact wpAny_eqBool_str h
 «strs»:=fun k x t v h=>by
  rcases bJ h with⟨i,u,rfl,e⟩|⟨y,u,rfl,e⟩;.exact nomatch e
  .injection e with e1 _;subst e1;cases v<;>rfl
theorem wX(prog:Program)(w:World)(i:Int)(t:Tok):(bh prog w).is (.inl i) (.int i t)=true:=DN i t
theorem wC(prog:Program)(w:World)(x:Str)(t:Tok):(bh prog w).is (.inr x) (.str x t)=true:=De x t
inductive V where|non|bl(b:Bool)|int(i:Int)|str(x:Str)|byt(b:Array UInt8)|flt(b:UInt64)|ref(a:Addr)|ty(n:String)deriving DecidableEq
def RelV:V->Value->Prop|.non,u=>u=Value.none|.bl b,u=>u=Value.bool b|.int i,u=>∃t,u=Value.int i t|.str x,u=>∃t,u=Value.str x t|.byt b,u=>∃t,u=Value.bytes b t|.flt b,u=>∃t,u=Value.float b t|.ref a,u=>u=Value.ref a|.ty n,u=>u=Value.type n
abbrev Vals:List V->List Value->Prop:=Paired RelV
theorem Vals.length{xs:List V}{us:List Value}(r:Vals xs us):xs.length=us.length:=Paired.length r
theorem Vals.get:∀{xs:List V}{us:List Value}{i:Nat}{x:V},Vals xs us->xs[i]?=some x->∃u,us[i]?=some u/\RelV x u|_,_,_,_,.nil,e=>by simp at e|_,_,0,_,.cons r _,e=>by simp at e;subst e;exact⟨_,rfl,r⟩|_,_,i+1,x,.cons _ t,e=>by obtain⟨u,h1,h2⟩:=Vals.get (i:=i) (x:=x) t (by simpa using e);exact⟨u,by simpa using h1,h2⟩
theorem Vals.set{x:V}{u:Value}(r:RelV x u):∀{xs:List V}{us:List Value}(i:Nat),Vals xs us->Vals (xs.set i x) (us.set i u)|_,_,_,.nil=>.nil|_,_,0,.cons _ t=>.cons r t|_,_,i+1,.cons q t=>.cons q (Vals.set r i t)
theorem Vals.append:∀{xs ys:List V}{us ws:List Value},Vals xs us->Vals ys ws->Vals (xs++ys) (us++ws)|_,_,_,_,.nil,s=>s|_,_,_,_,.cons r t,s=>.cons r (Vals.append t s)
theorem Vals.take:∀{xs:List V}{us:List Value}(n:Nat),Vals xs us->Vals (xs.take n) (us.take n)|_,_,0,_=>.nil|_,_,_+1,.nil=>.nil|_,_,n+1,.cons r t=>.cons r (Vals.take n t)
theorem Vals.drop:∀{xs:List V}{us:List Value}(n:Nat),Vals xs us->Vals (xs.drop n) (us.drop n)|_,_,0,r=>r|_,_,_+1,.nil=>.nil|_,_,n+1,.cons _ t=>Vals.drop n t
def o6:Option V->Option Value->Prop|some v,some u=>RelV v u|none,none=>True|_,_=>False
def KV{κ:Type}:List (κ×V)->List (κ×Value)->Prop:=Paired fun(p:κ×V)(q:κ×Value)=>p.1=q.1/\RelV p.2 q.2
noncomputable def kV:Key->V|.inl i=>.int i|.inr x=>.str x
inductive HO where|lst(xs:List V)|tup(xs:List V)|dK(kvs:List (Key×V))|dT(kvs:List (List Key×V))|set(S:Int->Bool)(n:Nat)|ins(C dx:Addr)(fs:List (Str×V))|own(x:Addr)|xd(fs:List (Str×V))|met(f x:Addr)|sy(lo hi:Int)|cX(o:Obj)(u:HO)|UL(ps:Array Value)|ext(φ:Heap->Prop)
noncomputable abbrev Hp:=Addr->Option HO
variable{H:Hp}
noncomputable def upd(H:Hp)(a:Addr)(o:HO):Hp:=fun b=>if b=a then some o else H b
theorem aM{a:Addr}{o:HO}:upd H a o a=some o:=by unfold upd;rw[if_pos rfl]
theorem aC{a b:Addr}{o:HO}(h:b≠a):upd H a o b=H b:=by unfold upd;rw[if_neg h]
theorem uF{a:Addr}{o u:HO}:upd (upd H a o) a u=upd H a u:=by funext b;unfold upd;split<;>rfl
theorem Yg{a b:Addr}{o u:HO}(h:H a=some o)(h':H b=some u)(d:o≠u):a≠b:=by intro e;subst e;rw[h]at h';exact d (Option.some.inj h')
theorem gk{a b:Addr}{o:HO}(h:H a=some o)(h':H b=none):a≠b:=by intro e;subst e;rw[h]at h';cases h'
section
variable(P:Program)(w:World)
def bI(H:Hp)(h:Heap)(a:Addr):HO->Prop|.lst xs=>xs.length<=sizeLine/\∃(its:List Value)(n:Nat),Vals xs its/\h.get? a=some {cls:=.type "list",data:=.seq its.toArray n}|.tup xs=>xs.length<=sizeLine/\∃its:List Value,Vals xs its/\IsTup h a its.toArray|.dK kvs=>kvs.length<=sizeLine/\(a==sysModules)=false/\∃vs,KV kvs vs/\h.DictOf (bh P w) a vs|.dT kvs=>kvs.length<=sizeLine/\(a==sysModules)=false/\∃xs:List (List Key×Addr×Value),Paired (fun(p:List Key×V)(q:List Key×Addr×Value)=>p.1=q.1/\H q.2.1=some (.tup (p.1.map kV))/\RelV p.2 q.2.2) kvs xs/\∃o es ep,h.get? a=some o/\o.ExactDict/\o.data=.dict es ep/\es.toList=xs.map (entryOfKey (tupleKind (bh P w)))/\(xs.map (·.1)).Nodup|.set S n=>h.SetOf (intKind P w) a S n|.ins C dx fs=>H dx=some (.own a)/\fs.length<=1000/\dx≠a/\h.get? a=some (PySem.W.instObj C dx)/\∃mA,h.Ns1 dx mA/\(∀f,o6 (fs.lookup f) (mA f))/\PySem.Within mA (fs.map (·.1))|.own _=>∃o,h.get? a=some o|.xd fs=>∃mA,h.Ns1 a mA/\∀f,o6 (fs.lookup f) (mA f)|.sy lo hi=>∃t u v,h.get? a=some {cls:=.type "range",data:=.fields #[.int lo t,.int hi u,.int 1 v]}|.cX o u=>h.get? a=some o/\bI H h a u|.UL ps=>h.get? a=some {cls:=.none,data:=.fields ps}|.met f x=>h.get? a=some (methodObj (.ref f) (.ref x))|.ext φ=>φ h/\(∃o,h.get? a=some o)/\∀h1 h2:Heap,φ h1->(∀o,h1.get? a=some o->h2.get? a=some o)->φ h2
def mV(H:Hp)(h:Heap):Prop:=∀a o,H a=some o->bI P w H h a o
end
section
variable{P:Program}{w:World}{H H':Hp}{h h':Heap}{a:Addr}{o:HO}
theorem bI.lt(x:bI P w H h a o):a<h.objs.size:=by cases o with|lst xs=>obtain⟨_,_,_,_,e⟩:=x;exact lt_size e|tup xs=>obtain⟨_,_,_,p⟩:=x;exact p.lt|dK kvs=>obtain⟨_,_,_,_,o,_,_,e,_⟩:=x;exact lt_size e|dT kvs=>obtain⟨_,_,_,_,o,_,_,e,_⟩:=x;exact lt_size e|set S n=>obtain⟨o,_,_,_,e,_⟩:=x;exact lt_size e|ins C dx fs=>obtain⟨_,_,_,e,_⟩:=x;exact lt_size e|own y=>obtain⟨_,e⟩:=x;exact lt_size e|xd fs=>obtain⟨_,⟨_,_,_,e,_⟩,_⟩:=x;exact lt_size e|sy lo hi=>obtain⟨_,_,_,e⟩:=x;exact lt_size e|cX ob u=>obtain⟨e,_⟩:=x;exact lt_size e|UL ps=>exact lt_size (show h.get? a=some _ from x)|met f y=>exact lt_size (show h.get? a=some _ from x)|ext φ=>obtain⟨_,⟨_,e⟩,_⟩:=x;exact lt_size e
theorem Paired.RP{α β:Type}{F G:α->β->Prop}:∀{l₁:List α}{l₂:List β},Paired F l₁ l₂->(∀a b,F a b->G a b)->Paired G l₁ l₂|_,_,.nil,_=>.nil|_,_,.cons r t,f=>.cons (f _ _ r) (Paired.RP t f)
theorem bI.stay(x:bI P w H h a o)(k:∀b u,(b=a\/H b=some (.own a))->h.get? b=some u->h'.get? b=some u)(ho:∀b,H b=some (.own a)->H' b=some (.own a))(ht:∀b xs,H b=some (.tup xs)->H' b=some (.tup xs)):bI P w H' h' a o:=by induction o with|lst xs=>obtain⟨z,its,n,r,e⟩:=x;exact⟨z,its,n,r,k _ _ (.inl rfl) e⟩|tup xs=>obtain⟨z,its,r,ob,e,c⟩:=x;exact⟨z,its,r,ob,k _ _ (.inl rfl) e,c⟩|dK kvs=>obtain⟨z,y,vs,r,ob,es,ep,e,c⟩:=x;exact⟨z,y,vs,r,ob,es,ep,k _ _ (.inl rfl) e,c⟩|dT kvs=>obtain⟨z,y,xs,r,ob,es,ep,e,c⟩:=x;exact⟨z,y,xs,Paired.RP r fun p q z=>⟨z.1,ht _ _ z.2.1,z.2.2⟩,ob,es,ep,k _ _ (.inl rfl) e,c⟩|set S n=>obtain⟨ob,es,ep,t,e,c⟩:=x;exact⟨ob,es,ep,t,k _ _ (.inl rfl) e,c⟩|ins C dx fs=>obtain⟨d,z,ne,e,mA,⟨od,es,ep,e2,c⟩,r⟩:=x;exact⟨ho _ d,z,ne,k _ _ (.inl rfl) e,mA,⟨od,es,ep,k _ _ (.inr d) e2,c⟩,r⟩|own y=>obtain⟨ob,e⟩:=x;exact⟨ob,k _ _ (.inl rfl) e⟩|xd fs=>obtain⟨mA,⟨od,es,ep,e,c⟩,r⟩:=x;exact⟨mA,⟨od,es,ep,k _ _ (.inl rfl) e,c⟩,r⟩|sy lo hi=>obtain⟨t,u,v,e⟩:=x;exact⟨t,u,v,k _ _ (.inl rfl) e⟩|cX ob u ih=>obtain⟨e,q⟩:=x;exact⟨k _ _ (.inl rfl) e,ih q⟩|UL ps=>have e:h.get? a=some {cls:=.none,data:=.fields ps}:=x;show h'.get? a=some {cls:=.none,data:=.fields ps};exact k a _ (.inl rfl) e|met f y=>have e:h.get? a=some (methodObj (.ref f) (.ref y)):=x;show h'.get? a=some (methodObj (.ref f) (.ref y));exact k a _ (.inl rfl) e|ext φ=>obtain⟨p,⟨o,e⟩,st⟩:=x;exact⟨st _ _ p fun o q=>k _ _ (.inl rfl) q,⟨o,k _ _ (.inl rfl) e⟩,st⟩
theorem mV.lt(x:mV P w H h)(e:H a=some o):a<h.objs.size:=(x a o e).lt
theorem mV.fresh(x:mV P w H h)(e:h.objs.size<=a):H a=none:=by cases q:H a with|none=>rfl|some u=>exact absurd (lt_of_lt_of_le (x.lt q) e) (lt_irrefl _)
theorem mV.kept(x:mV P w H h)(k:∀b u,h.get? b=some u->h'.get? b=some u):mV P w H h':=fun a o e=>(x a o e).stay (fun b u _ q=>k b u q) (fun _ q=>q) fun _ _ q=>q
theorem mV.laid(x:mV P w H h)(k:∀b u,h.get? b=some u->h'.get? b=some u)(hp:h.objs.size<=a)(new:bI P w (upd H a o) h' a o):mV P w (upd H a o) h':=fun b u e=>by
 have hn:=x.fresh hp;by_cases hb:b=a;.subst hb;rw[aM]at e;cases e;exact new
 .rw[aC hb]at e;exact(x b u e).stay (fun c v _ q=>k c v q) (fun c q=>by rw[aC (gk q hn)];exact q) fun c xs q=>by rw[aC (gk q hn)];exact q
end
def Rd(H:Hp)(a:Addr)(u:HO):Prop:=H a=some u\/∃o,H a=some (.cX o u)
theorem Rd.ok{P:Program}{a:Addr}{u:HO}(r:Rd H a u)(x:mV P w H h):bI P w H h a u:=by
 rcases r with r|⟨o,r⟩;.exact x a u r
 .obtain⟨_,q⟩:=x a _ r;exact q
def YZ:Option HO->Prop|some (.lst _)=>True|some (.dK _)=>True|some (.dT _)=>True|some (.set _ _)=>True|some (.ins _ _ _)=>True|some (.ext _)=>True|_=>False
section
variable{P:Program}{w:World}{H:Hp}{h h':Heap}{x e:Addr}{o':HO}
theorem mV.write(ok:mV P w H h)(mu:YZ (H x))(he:e=x\/H e=some (.own x))(k:∀b u,b≠e->h.get? b=some u->h'.get? b=some u)(heo:∃u,h'.get? e=some u)(new:bI P w (upd H x o') h' x o'):mV P w (upd H x o') h':=fun b u q=>by
 have Zr:∀c y,H c=some (.own y)->c≠x:=fun c y r z=>by subst z;rw[r]at mu;exact mu
 have ae0:∀c xs,H c=some (.tup xs)->c≠x:=fun c xs r z=>by subst z;rw[r]at mu;exact mu
 by_cases hb:b=x;.subst hb;rw[aM]at q;cases q;exact new
 . rw[aC hb]at q;by_cases hbe:b=e
   . have q':H b=some (.own x):=by
      rcases he with z|z;.exact absurd (hbe.trans z) hb
      .rw[hbe];exact z
     rw[q]at q';cases q';obtain⟨v,hv⟩:=heo;exact⟨v,by rw[hbe];exact hv⟩
   . refine(ok b u q).stay (fun c v hc r=>k c v ?_ r) (fun c r=>by rw[aC (Zr c b r)];exact r) fun c xs r=>by rw[aC (ae0 c xs r)];exact r
     rcases hc with rfl|hc;.exact hbe
     . rintro rfl;rcases he with z|z;.exact Zr c b hc z
       .rw[hc]at z;cases z;exact hb rfl
end
structure Un(fs ex:List Addr)(H H':Hp)(h h':Heap):Prop where
 keep:∀b o,h.get? b=some o->H b=none->b∉fs->b∉ex->h'.get? b=some o
 slot:∀b o,h.get? b=some o->H b=none->b∈fs->b∉ex->∃sl,h'.get? b=some {o with slots:=sl}free:∀b o,h.get? b=some o->H b=none->b∉ex->H' b=none
 there:∀b o,h.get? b=some o->b∉ex->∃o',h'.get? b=some o'
 tups:∀b xs,H b=some (.tup xs)->H' b=some (.tup xs)vH:∀b o u,H b=some (.cX o u)->H' b=some (.cX o u)xU:∀b ps,H b=some (.UL ps)->∃more,H' b=some (.UL (ps++more))
section
variable{fs fs' ex ex':List Addr}{H H1 H2:Hp}{h h1 h2 h':Heap}{a x e:Addr}{o:HO}
theorem Un.any(u:Un fs ex H H1 h h1){b:Addr}{ob:Obj}(q:h.get? b=some ob)(n:H b=none)(hx:b∉ex):∃sl,h1.get? b=some {ob with slots:=sl}:=by
 by_cases hb:b∈fs;.exact u.slot b ob q n hb hx
 .exact⟨ob.slots,u.keep b ob q n hb hx⟩
theorem Un.kept(k:∀b u,h.get? b=some u->h'.get? b=some u):Un fs ex H H h h':=⟨fun b ob q _ _ _=>k b ob q,fun b ob q _ _ _=>⟨ob.slots,k b ob q⟩,fun _ _ _ n _=>n,fun b ob q _=>⟨ob,k b ob q⟩,fun _ _ q=>q,fun _ _ _ q=>q,fun _ ps q=>⟨#[],by rw[q];simp⟩⟩
theorem Un.refl:Un fs ex H H h h:=Un.kept fun _ _ q=>q
theorem Un.laid(k:∀b u,h.get? b=some u->h'.get? b=some u)(hp:h.objs.size<=a)(hn:H a=none):Un fs ex H (upd H a o) h h' where
 keep:=fun b u q _ _ _=>k b u q;slot:=fun b u q _ _ _=>⟨u.slots,k b u q⟩;free:=fun b u q n _=>by rw[aC (ne_of_lt (lt_of_lt_of_le (lt_size q) hp))];exact n
 there:=fun b u q _=>⟨u,k b u q⟩;tups:=fun b xs q=>by rw[aC (gk q hn)];exact q
 vH:=fun b u xs q=>by rw[aC (gk q hn)];exact q
 xU:=fun b ps q=>⟨#[],by rw[aC (gk q hn),q];simp⟩
theorem Un.write(mu:YZ (H x))(he:e=x\/H e=some (.own x))(k:∀b u,b≠e->h.get? b=some u->h'.get? b=some u)(heo:∃u,h'.get? e=some u):Un fs ex H (upd H x o) h h':=by
 have hx:∀b,H b=none->b≠x:=fun b n z=>by subst z;rw[n]at mu;exact mu
 have hb:∀b,H b=none->b≠e:=fun b n z=>by
  subst z;rcases he with r|r;.exact hx b n r
  .rw[n]at r;cases r
 have hm:∀b u,H b=some u->¬ YZ (some u)->b≠x:=fun b u q nm z=>by subst z;rw[q]at mu;exact nm mu
 refine⟨fun b u q n _ _=>k b u (hb b n) q,fun b u q n _ _=>⟨u.slots,k b u (hb b n) q⟩,fun b u q n _=>by rw[aC (hx b n)];exact n,fun b u q _=>?_,fun b xs q=>by rw[aC (hm b _ q fun z=>z)];exact q,fun b u xs q=>by rw[aC (hm b _ q fun z=>z)];exact q,fun b ps q=>⟨#[],by rw[aC (hm b _ q fun z=>z),q];simp⟩⟩;by_cases hbe:b=e;.subst hbe;exact heo
 .exact⟨u,k b u hbe q⟩
end
noncomputable def trk(h:Heap)(H:Hp):List Addr:=(List.range h.objs.size).filter fun a=>(H a).isSome
noncomputable def uU(h:Heap)(H:Hp):Heap:=PySem.W.hideAll h (trk h H)
theorem DP(h:Heap)(H:Hp):(uU h H).objs.size=h.objs.size:=PySem.W.hideAll_size _ _
theorem HD{b:Addr}{o:Obj}(e:h.get? b=some o)(n:H b=none):(uU h H).get? b=some o:=PySem.W.hideAll_get _ e fun hm=>by have q:(H b).isSome=true:=(mem_filter.mp hm).2;rw[n]at q;simp at q
theorem Mu{b:Addr}{o:Obj}(e:(uU h H).get? b=some o):h.get? b=some o/\H b=none:=by have e':h.get? b=some o:=PySem.W.of_hideAll (trk h H) e;refine⟨e',?_⟩;cases q:H b with|none=>rfl|some x=>have hm:b∈trk h H:=mem_filter.mpr ⟨mem_range.mpr (lt_size e'),by simp[q]⟩;have z:(uU h H).get? b=none:=PySem.W.hideAll_none (trk h H) hm;rw[z]at e;cases e
structure Mod(K:PySem.W.Frag)(mg:Str->Option Value)(base:Heap):Prop where
 oX:K.In base
 glob:base.Ns mainGlobals mg
 blt:∃mb,base.Ns builtinsNs mb/\∀x:Str,x≠"__name__"->mb x=bootBuiltins x
 nolimit:base.NoLimit
structure Cx where
 prog:Program
 w:World
 K:PySem.W.Frag
 mg:Str->Option Value
 base:Heap
 A:Around
 N:List Str
 s₀:Shared
 H₀:Hp
 env:Env
 outer:List Env
 stack:List Env
 ex:List Addr
 fn:Str->Bool
 calm:Bool
 pn:List (Addr×Obj)xe:Value->Shared->Prop
variable{X:Cx}
noncomputable def frs(l:List Env):List Addr:=l.filterMap (·.frame)
noncomputable abbrev Cx.fs(X:Cx):List Addr:=frs X.outer
def xg(sc:Scope)(x:Str):Prop:=sc.names.lookup x=some .local\/sc.names.lookup x=some .cell\/sc.names.lookup x=some .free
def Loc(sc:Scope)(x:Str):Prop:=sc.names.lookup x=some .local\/sc.names.lookup x=some .cell
def Look(env:Env)(h:Heap)(m:Str->Option Value)(x:Str)(u:Value):Prop:=(env.kindOf x=some .local/\m x=some u)\/((env.kindOf x=some .cell\/env.kindOf x=some .free)/\∃c,env.cells.lookup x=some c/\h.IsCell c (some u))
structure Cx.Ok(X:Cx):Prop where
 mod:Mod X.K X.mg X.base
 kind:X.env.scope.kind=.function
 glob:X.env.globals=mainGlobals
 blt:X.env.builtins=builtinsNs
 above:X.s₀.heap.objs.size<=X.env.locals
 inj:∀x y c,X.env.cells.lookup x=some c->X.env.cells.lookup y=some c->x=y
 has:∀x,(X.env.kindOf x=some .cell\/X.env.kindOf x=some .free)->∃c,X.env.cells.lookup x=some c
 cab:∀x c,X.fn x=true->X.env.cells.lookup x=some c->X.s₀.heap.objs.size<=c
 hd:X.calm=true->X.A.handled=none
 frames:X.A.frames=some X.stack
 stk:X.stack=X.outer\/(X.stack=X.env::X.outer/\X.env.frame=some X.env.locals)exf:∀b∈X.ex,b≠X.env.locals/\∀x c,X.env.cells.lookup x=some c->c≠b
 bs:∀b o,X.base.get? b=some o->X.s₀.heap.get? b=some o/\X.H₀ b=none
 PX:X.base.objs.size<=X.s₀.heap.objs.size
 Jz:∀b o,X.base.get? b=some o->b∉X.ex
 Nr:∀b∈X.ex,b∉X.fs
 pW:X.s₀.heap.FunFrames X.base X.outer
 Wx:∀b∈X.fs,X.H₀ b=none
structure Inv(X:Cx)(pins:List (Addr×Obj))(σ:List (Option V))(H:Hp)(s:Shared):Prop where
 ok:X.Ok
 os:s.os=X.s₀.os
 bare:AllBare s.gens
 base:Un X.fs X.ex X.H₀ H X.s₀.heap s.heap
 loc:∃m,s.heap.Ns X.env.locals m/\∀(i:Nat)(x:Str)(v:V),X.N[i]?=some x->σ[i]?=some (some v)->xg X.env.scope x->∃u,RelV v u/\Look X.env s.heap m x u
 cell:∀x c,X.env.cells.lookup x=some c->∃v,s.heap.IsCell c v
 free:H X.env.locals=none
 kY:∀x c,X.env.cells.lookup x=some c->H c=none
 pin:∀p∈X.pn++pins,s.heap.get? p.1=some p.2/\H p.1=none/\p.1≠X.env.locals/\p.1∉X.fs/\∀v,p.2.data≠.cell v
 hok:mV X.prog X.w H s.heap
 len:σ.length=X.N.length
section
variable{X:Cx}{pins:List (Addr×Obj)}{σ:List (Option V)}{H H':Hp}{s:Shared}{h':Heap}
theorem Cx.Ok.adl(ok:X.Ok){b:Addr}{o:Obj}(e:X.base.get? b=some o):b∉X.fs:=fun hb=>by have:=(ok.pW.mem hb).1;rw[e]at this;cases this
theorem Inv.bs(I:Inv X pins σ H s):∀b o,X.base.get? b=some o->s.heap.get? b=some o/\H b=none:=fun b o e=>⟨I.base.keep b o (I.ok.bs b o e).1 (I.ok.bs b o e).2 (I.ok.adl e) (I.ok.Jz b o e),I.base.free b o (I.ok.bs b o e).1 (I.ok.bs b o e).2 (I.ok.Jz b o e)⟩
theorem Inv.bk(I:Inv X pins σ H s):∀b o,X.base.get? b=some o->s.heap.get? b=some o:=fun b o e=>(I.bs b o e).1
theorem Inv.mod(I:Inv X pins σ H s):Mod X.K X.mg X.base:=I.ok.mod
theorem Inv.Pu(I:Inv X pins σ H s):X.K.In s.heap:=I.ok.mod.oX.keeps I.bk
theorem Inv.lt(I:Inv X pins σ H s):X.env.locals<s.heap.objs.size:=let⟨_,hn,_⟩:=I.loc;hn.lt
theorem Inv.sz(I:Inv X pins σ H s):X.s₀.heap.objs.size<=s.heap.objs.size:=le_trans I.ok.above (le_of_lt I.lt)
theorem Inv.ac5(I:Inv X pins σ H s){a:Addr}(h:s.heap.objs.size<=a):a∉X.fs:=fun hb=>by obtain⟨_,o,ho,_⟩:=I.ok.pW.mem hb;exact absurd (lt_of_lt_of_le (lt_size ho) (le_trans I.sz h)) (lt_irrefl _)
theorem Inv.QR(I:Inv X pins σ H s):∀x c,X.env.cells.lookup x=some c->c≠X.env.locals:=fun x c e z=>by obtain⟨v,o,ho,hd⟩:=I.cell x c e;obtain⟨m,⟨o',es,ep,ho',hd',_⟩,_⟩:=I.loc;rw[z,ho']at ho;cases ho;rw[hd']at hd;cases hd
theorem Inv.pW(I:Inv X pins σ H s):s.heap.FunFrames X.base X.outer:=by
 have all:∀(l:List Env),(∀b∈frs l,b∈X.fs)->X.s₀.heap.FunFrames X.base l->s.heap.FunFrames X.base l:=by intro l;induction l with|nil=>intro _ _;trivial|cons env r ih=>intro hs hl;obtain⟨hk,⟨L,o,hf,hn,ho,hd⟩,hr⟩:=hl;have hL:L∈X.fs:=hs L (by unfold frs;rw[filterMap_cons,hf];exact mem_cons_self);obtain⟨sl,e⟩:=I.base.slot L o ho (I.ok.Wx L hL) hL fun z=>I.ok.Nr L z hL;exact⟨hk,⟨L,_,hf,hn,e,hd⟩,ih (fun b hb=>hs b (by unfold frs;rw[filterMap_cons,hf];exact mem_cons_of_mem _ hb)) hr⟩
 exact all X.outer (fun _ hb=>hb) I.ok.pW
theorem Inv.stack(I:Inv X pins σ H s):s.heap.FunFrames X.base X.stack:=by
 rcases I.ok.stk with e|⟨e,hf⟩;.rw[e];exact I.pW
 .rw[e];obtain⟨m,hn,_⟩:=I.loc;refine .cons (by rw[I.ok.kind];decide) hf hn ?_ I.pW;exact Heap.get?_none_of_le (le_trans I.ok.PX I.ok.above)
theorem Inv.vf(I:Inv X pins σ H s):∀b∈frs X.stack,b∈X.env.locals::X.fs:=fun b hb=>by
 rcases I.ok.stk with e|⟨e,hf⟩;.rw[e]at hb;exact mem_cons_of_mem _ hb
 .rw[e]at hb;unfold frs at hb;rw[filterMap_cons,hf]at hb;exact hb
theorem Inv.Bd(I:Inv X pins σ H s):∀b∈frs X.stack,H b=none:=fun b hb=>by
 rcases mem_cons.mp (I.vf b hb)with e|hb;.rw[e];exact I.free
 .obtain⟨_,o,ho,_⟩:=I.ok.pW.mem hb;exact I.base.free b o ho (I.ok.Wx b hb) fun z=>I.ok.Nr b z hb
theorem Inv.step{g':Array GenState}{d':Drawn}{ch:List Addr}(I:Inv X pins σ H s)(hch:∀b∈ch,(b∈X.ex\/X.s₀.heap.objs.size<=b)/\b≠X.env.locals/\(∀x c,X.env.cells.lookup x=some c->c≠b)/\∀p∈X.pn++pins,p.1≠b)(keep:∀b o,b≠X.env.locals->b∉X.fs->b∉ch->s.heap.get? b=some o->H b=none->h'.get? b=some o)(slot:∀b o,b≠X.env.locals->b∈X.fs->b∉ch->s.heap.get? b=some o->H b=none->∃sl,h'.get? b=some {o with slots:=sl})(free:∀b o,b∉ch->s.heap.get? b=some o->H b=none->H' b=none)(there:∀b o,b∉ch->s.heap.get? b=some o->∃o',h'.get? b=some o')(tups:∀b xs,H b=some (.tup xs)->H' b=some (.tup xs))(vH:∀b o u,H b=some (.cX o u)->H' b=some (.cX o u))(xU:∀b ps,H b=some (.UL ps)->∃more,H' b=some (.UL (ps++more)))(ns:∀m,s.heap.Ns X.env.locals m->h'.Ns X.env.locals m)(hok:mV X.prog X.w H' h')(hg:AllBare g'):Inv X pins σ H' {s with heap:=h',gens:=g',drawn:=d',toks:=t'}:=by
 have neL:∀b o,X.s₀.heap.get? b=some o->b≠X.env.locals:=fun b o e=>ne_of_lt (lt_of_lt_of_le (lt_size e) I.ok.above);have neC:∀b o,X.s₀.heap.get? b=some o->b∉X.ex->b∉ch:=fun b o e hx hb=>by
  rcases(hch b hb).1 with z|z;.exact hx z
  .exact absurd (lt_of_lt_of_le (lt_size e) z) (lt_irrefl _)
 have cellK:∀x c,X.env.cells.lookup x=some c->∀v,s.heap.IsCell c v->h'.IsCell c v:=fun x c e v⟨o,ho,hd⟩=>by
  have JB:c∉ch:=fun z=>(hch c z).2.2.1 x c e rfl;by_cases hc:c∈X.fs;.obtain⟨sl,q⟩:=slot c o (I.QR x c e) hc JB ho (I.kY x c e);exact⟨_,q,hd⟩
  .exact⟨o,keep c o (I.QR x c e) hc JB ho (I.kY x c e),hd⟩
 refine⟨I.ok,I.os,hg,⟨fun b o e n hb hx=>?_,fun b o e n hb hx=>?_,fun b o e n hx=>?_,fun b o e hx=>?_,fun b xs e=>tups b xs (I.base.tups b xs e),fun b o xs e=>vH b o xs (I.base.vH b o xs e),fun b ps e=>?_⟩,?_,fun x c e=>?_,?_,fun x c e=>?_,fun p hp=>?_,hok,I.len⟩;.exact keep b o (neL b o e) hb (neC b o e hx) (I.base.keep b o e n hb hx) (I.base.free b o e n hx)
 .obtain⟨sl,e1⟩:=I.base.slot b o e n hb hx;obtain⟨sl',e2⟩:=slot b _ (neL b o e) hb (neC b o e hx) e1 (I.base.free b o e n hx);exact⟨sl',e2⟩
 .obtain⟨o',e1⟩:=I.base.there b o e hx;exact free b o' (neC b o e hx) e1 (I.base.free b o e n hx)
 .obtain⟨o',e1⟩:=I.base.there b o e hx;exact there b o' (neC b o e hx) e1
 .obtain⟨m1,e1⟩:=I.base.xU b ps e;obtain⟨m2,e2⟩:=xU b _ e1;exact⟨m1++m2,by rw[e2,Array.append_assoc]⟩
 . obtain⟨m,hn,hl⟩:=I.loc;refine⟨m,ns m hn,fun i x v e1 e2 e3=>?_⟩;obtain⟨u,r,l⟩:=hl i x v e1 e2 e3;refine⟨u,r,?_⟩;rcases l with l|⟨k,c,e,z⟩;.exact .inl l
   .exact .inr ⟨k,c,e,cellK x c e _ z⟩
 .obtain⟨v,z⟩:=I.cell x c e;exact⟨v,cellK x c e v z⟩
 .obtain⟨m,⟨o,_,_,ho,_⟩,_⟩:=I.loc;exact free _ o (fun z=>(hch _ z).2.1 rfl) ho I.free
 .obtain⟨v,o,ho,hd⟩:=I.cell x c e;exact free c o (fun z=>(hch c z).2.2.1 x c e rfl) ho (I.kY x c e)
 .obtain⟨e,n,ne,nf,d⟩:=I.pin p hp;have JB:p.1∉ch:=fun z=>(hch p.1 z).2.2.2 p hp rfl;exact⟨keep p.1 p.2 ne nf JB e n,free p.1 p.2 JB e n,ne,nf,d⟩
theorem Inv.un(I:Inv X pins σ H s)(u:Un X.fs [] H H' s.heap h')(hok:mV X.prog X.w H' h'):Inv X pins σ H' {s with heap:=h',toks:=t'}:=by obtain⟨m,⟨o,es,ep,ho,r⟩,_⟩:=id I.loc;obtain⟨sl,hL⟩:=u.any ho I.free (by simp);exact I.step (g':=s.gens) (d':=s.drawn) (ch:=[]) (fun _ z=>nomatch z) (fun b o _ hb _ e n=>u.keep b o e n hb (by simp)) (fun b o _ hb _ e n=>u.slot b o e n hb (by simp)) (fun b o _ e n=>u.free b o e n (by simp)) (fun b o _ e=>u.there b o e (by simp)) u.tups u.vH u.xU (fun m' hm=>by obtain⟨o',es',ep',ho',r'⟩:=hm;rw[ho]at ho';cases ho';exact⟨_,es',ep',hL,r'⟩) hok I.bare
theorem Inv.call{g':Array GenState}{d':Drawn}{ch:List Addr}(I:Inv X pins σ H s)(u:Un (frs X.stack) ch H H' s.heap h')(hok:mV X.prog X.w H' h')(hg:AllBare g')(hch:∀b∈ch,(b∈X.ex\/X.s₀.heap.objs.size<=b)/\b≠X.env.locals/\(∀x c,X.env.cells.lookup x=some c->c≠b)/\∀p∈X.pn++pins,p.1≠b):Inv X pins σ H' {s with heap:=h',gens:=g',drawn:=d',toks:=t'}:=by obtain⟨m,⟨o,es,ep,ho,r⟩,_⟩:=id I.loc;obtain⟨sl,hL⟩:=u.any ho I.free fun z=>(hch _ z).2.1 rfl;exact I.step (ch:=ch) hch (fun b o hL hb hc e n=>u.keep b o e n (fun z=>(mem_cons.mp (I.vf b z)).elim hL hb) hc) (fun b o _ _ hc e n=>u.any e n hc) (fun b o hc e n=>u.free b o e n hc) (fun b o hc e=>u.there b o e hc) u.tups u.vH u.xU (fun m' hm=>by obtain⟨o',es',ep',ho',r'⟩:=hm;rw[ho]at ho';cases ho';exact⟨_,es',ep',hL,r'⟩) hok hg
theorem Inv.turned{it:Addr}(I:Inv X pins σ H s)(k:∀b o,b≠it->s.heap.get? b=some o->h'.get? b=some o)(hn:H it=none)(hL:it≠X.env.locals)(h1:it∈X.ex\/X.s₀.heap.objs.size<=it)(h2:∀x c,X.env.cells.lookup x=some c->c≠it)(h3:∀p∈X.pn++pins,p.1≠it):Inv X pins σ H {s with heap:=h',toks:=t'}:=by
 have nit:∀b u,H b=some u->b≠it:=fun b u e z=>by rw[z,hn]at e;cases e
 refine I.step (g':=s.gens) (d':=s.drawn) (ch:=[it]) (fun b hb=>?_) (fun b o _ _ hc e _=>k b o (fun z=>hc (by simp[z])) e) (fun b o _ _ hc e _=>⟨o.slots,k b o (fun z=>hc (by simp[z])) e⟩) (fun _ _ _ _ n=>n) (fun b o hc e=>⟨o,k b o (fun z=>hc (by simp[z])) e⟩) (fun _ _ e=>e) (fun _ _ _ e=>e) (fun b ps e=>⟨#[],by rw[e];simp⟩) (fun m hm=>?_) (fun b u e=>?_) I.bare
 . have e:b=it:=by simpa using hb
   subst e;exact⟨h1,hL,h2,h3⟩
 .obtain⟨o,es,ep,ho,r⟩:=hm;exact⟨o,es,ep,k _ o (Ne.symm hL) ho,r⟩
 . refine(I.hok b u e).stay (fun c v hc q=>k c v ?_ q) (fun _ q=>q) fun _ _ q=>q;rcases hc with z|z;.rw[z];exact nit b u e
   .exact nit c _ z
theorem Inv.tok(I:Inv X pins σ H s)(t:Nat):Inv X pins σ H {s with toks:=t}:=I.un (h':=s.heap) (t':=t) Un.refl I.hok
theorem Inv.kept{t':Nat}(I:Inv X pins σ H s)(k:∀b u,s.heap.get? b=some u->h'.get? b=some u):Inv X pins σ H {s with heap:=h',toks:=t'}:=I.un (Un.kept k) (I.hok.kept k)
theorem Inv.laid{a:Addr}{o:HO}{t':Nat}(I:Inv X pins σ H s)(k:∀b u,s.heap.get? b=some u->h'.get? b=some u)(hp:s.heap.objs.size<=a)(new:bI X.prog X.w (upd H a o) h' a o):Inv X pins σ (upd H a o) {s with heap:=h',toks:=t'}:=I.un (Un.laid k hp (I.hok.fresh hp)) (I.hok.laid k hp new)
theorem Inv.write{x e:Addr}{o:HO}{t':Nat}(I:Inv X pins σ H s)(mu:YZ (H x))(he:e=x\/H e=some (.own x))(k:∀b u,b≠e->s.heap.get? b=some u->h'.get? b=some u)(heo:∃u,h'.get? e=some u)(new:bI X.prog X.w (upd H x o) h' x o):Inv X pins σ (upd H x o) {s with heap:=h',toks:=t'}:=I.un (Un.write mu he k heo) (I.hok.write mu he k heo new)
theorem Inv.BP{P0:List (Addr×Obj)}(I:Inv X pins σ H s)(h:∀p∈P0,s.heap.get? p.1=some p.2/\H p.1=none/\p.1≠X.env.locals/\p.1∉X.fs/\∀v,p.2.data≠.cell v):Inv X P0 σ H s:=⟨I.ok,I.os,I.bare,I.base,I.loc,I.cell,I.free,I.kY,fun p hp=>(mem_append.mp hp).elim (fun z=>I.pin p (List.mem_append_left _ z)) (h p),I.hok,I.len⟩
theorem v8{N:List Str}(hN:N.Nodup){j:Nat}{x:Str}(a:N[i]?=some x)(b:N[j]?=some x):i=j:=by obtain⟨h1,e1⟩:=dI a;obtain⟨h2,e2⟩:=dI b;exact(List.getElem_inj hN).mp (e1.trans e2.symm)
theorem sX{E:Value->Shared->Prop}{x:Str}{v:V}{u:Value}{Q:Unit->Shared->Prop}(I:Inv X pins σ H s)(hN:X.N.Nodup)(hi:X.N[i]?=some x)(hx:Loc X.env.scope x)(r:RelV v u)(h:∀s',Inv X pins (σ.set i (some v)) H s'->(∃a,SameBut a s.heap s'.heap/\(a=X.env.locals\/X.env.cells.lookup x=some a))->Q () s')(hf:X.fn x=true\/X.env.scope.names.lookup x=some .local:=by first|exact .inl rfl|exact .inr rfl|assumption):wpAny M A (storeName X.env x u) Q E s:=by
 obtain⟨m,hn,hl⟩:=id I.loc;have hcls:(X.env.scope.kind==.class||(X.env.scope.kind==.module&&X.env.locals !=X.env.globals))=false:=by rw[I.ok.kind];rfl
 have hiσ:i<σ.length:=by rw[I.len];exact(dI hi).1
 have QR:=I.QR;have tracked:∀{a:Addr}{h':Heap},(∃o,s.heap.get? a=some o/\H a=none)->SameBut a s.heap h'->mV X.prog X.w H h':=fun{a h'}ha hs b ob e=>by
  obtain⟨_,_,hfree⟩:=ha;refine(I.hok b ob e).stay (fun c w' hc q=>(hs.2 c ?_).trans q) (fun _ q=>q) fun _ _ q=>q;rintro rfl;rcases hc with rfl|hc;.rw[hfree]at e;cases e
  .rw[hfree]at hc;cases hc
 rcases hx with hk|hk
 . refine wpAny_storeName_local hk hn (fun h' hn' hs=>?_) hcls;obtain⟨oL,_,_,hoL,_⟩:=id hn;refine h _ ⟨I.ok,I.os,I.bare,⟨fun b o e n hb hx=>?_,fun b o e n hb hx=>?_,I.base.free,fun b o e hx=>?_,I.base.tups,I.base.vH,I.base.xU⟩,⟨_,hn',fun j y v' e1 e2 e3=>?_⟩,fun y c e=>?_,I.free,I.kY,fun p hp=>?_,tracked ⟨oL,hoL,I.free⟩ hs,by simpa using I.len⟩ ⟨_,hs,.inl rfl⟩;.exact(hs.2 b (ne_of_lt (lt_of_lt_of_le (lt_size e) I.ok.above))).trans (I.base.keep b o e n hb hx)
   .obtain⟨sl,e1⟩:=I.base.slot b o e n hb hx;exact⟨sl,(hs.2 b (ne_of_lt (lt_of_lt_of_le (lt_size e) I.ok.above))).trans e1⟩
   .obtain⟨o',e1⟩:=I.base.there b o e hx;exact⟨o',(hs.2 b (ne_of_lt (lt_of_lt_of_le (lt_size e) I.ok.above))).trans e1⟩
   . by_cases hj:j=i;.subst hj;rw[hi]at e1;cases e1;rw[getElem?_set_self hiσ]at e2;cases e2;exact⟨u,r,.inl ⟨hk,by simp⟩⟩
     . rw[eV hj]at e2;obtain⟨u',r',q⟩:=hl j y v' e1 e2 e3;refine⟨u',r',?_⟩;rcases q with⟨k,e⟩|⟨k,c,e,z⟩;.refine .inl ⟨k,?_⟩;have:y≠x:=fun e=>hj (v8 hN e1 (e▸hi));simp[this,e]
       .exact .inr ⟨k,c,e,z.sameBut hs (QR y c e)⟩
   .obtain⟨w',z⟩:=I.cell y c e;exact⟨w',z.sameBut hs (QR y c e)⟩
   .obtain⟨e,n,ne,nf,d⟩:=I.pin p hp;exact⟨(hs.2 p.1 ne).trans e,n,ne,nf,d⟩
 . have hfn:X.fn x=true:=by
    rcases hf with z|z;.exact z
    .rw[z]at hk;cases hk
   obtain⟨c,hc⟩:=I.ok.has x (.inl hk);obtain⟨w',z⟩:=I.cell x c hc;refine wpAny_storeName_cell I.ok.kind hk hc z (fun h' hc' hs=>?_);obtain⟨oc,hoc,ae1⟩:=id z;refine h {s with heap:=h'} ⟨I.ok,I.os,I.bare,⟨fun b o e n hb hx=>?_,fun b o e n hb hx=>?_,I.base.free,fun b o e hx=>?_,I.base.tups,I.base.vH,I.base.xU⟩,⟨m,hn.sameBut hs (Ne.symm (QR x c hc)),fun j y v' e1 e2 e3=>?_⟩,fun y c' e=>?_,I.free,I.kY,fun p hp=>?_,tracked ⟨oc,hoc,I.kY x c hc⟩ hs,by simpa using I.len⟩ ⟨c,hs,.inr hc⟩;.exact(hs.2 b (ne_of_lt (lt_of_lt_of_le (lt_size e) (I.ok.cab x c hfn hc)))).trans (I.base.keep b o e n hb hx)
   .obtain⟨sl,e1⟩:=I.base.slot b o e n hb hx;exact⟨sl,(hs.2 b (ne_of_lt (lt_of_lt_of_le (lt_size e) (I.ok.cab x c hfn hc)))).trans e1⟩
   .obtain⟨o',e1⟩:=I.base.there b o e hx;exact⟨o',(hs.2 b (ne_of_lt (lt_of_lt_of_le (lt_size e) (I.ok.cab x c hfn hc)))).trans e1⟩
   . by_cases hj:j=i;.subst hj;rw[hi]at e1;cases e1;rw[getElem?_set_self hiσ]at e2;cases e2;exact⟨u,r,.inr ⟨.inl hk,c,hc,hc'⟩⟩
     . rw[eV hj]at e2;obtain⟨u',r',q⟩:=hl j y v' e1 e2 e3;refine⟨u',r',?_⟩;rcases q with q|⟨k,c',e,z'⟩;.exact .inl q
       .refine .inr ⟨k,c',e,z'.sameBut hs ?_⟩;rintro rfl;exact hj (v8 hN e1 (I.ok.inj _ _ _ e hc▸hi))
   . by_cases hcc:c'=c;.subst hcc;exact⟨_,hc'⟩
     .obtain⟨w2,z2⟩:=I.cell y c' e;exact⟨w2,z2.sameBut hs hcc⟩
   .obtain⟨e,n,ne,nf,d⟩:=I.pin p hp;refine⟨(hs.2 p.1 ?_).trans e,n,ne,nf,d⟩;intro q;rw[q,hoc]at e;have q':oc=p.2:=Option.some.inj e;exact d w' (by rw[<-q'];exact ae1)
theorem jy{E:Value->Shared->Prop}{x:Str}{v:V}{u:Value}{Q:Unit->Shared->Prop}(I:Inv X pins σ H s)(hN:X.N.Nodup)(hi:X.N[i]?=some x)(hx:Loc X.env.scope x)(r:RelV v u)(h:∀s',Inv X pins (σ.set i (some v)) H s'->Q () s')(hf:X.fn x=true\/X.env.scope.names.lookup x=some .local:=by first|exact .inl rfl|exact .inr rfl|assumption):wpAny M A (storeName X.env x u) Q E s:=sX I hN hi hx r (fun s' I' _=>h s' I') hf
end
abbrev XK:=Value->Option Addr->Hp->Prop
noncomputable abbrev St:=List (Option V)
abbrev VK:=V->Hp->Prop
abbrev TE:=St->Hp->VK->Prop
variable{te:TE}
abbrev TT:=St->Hp->(Bool->Hp->Prop)->Prop
abbrev TA:=St->Hp->(List V->Hp->Prop)->Prop
structure Ends where
 nx:St->Hp->Prop
 rt:VK
 bk:St->Hp->Prop:=fun _ _=>False
 ct:St->Hp->Prop:=fun _ _=>False
abbrev TS:=Ends->St->Hp->Prop
inductive EP(X:Cx)(pins:List (Addr×Obj))(σ:St)(Q:VK)(u:Value)(s':Shared):Prop where|mk(v:V)(H':Hp)(q0:Inv X pins σ H' s')(q1:RelV v u)(q2:Q v H')
def TP(X:Cx)(pins:List (Addr×Obj))(σ:St)(Q:Bool->Hp->Prop)(b:Bool)(s':Shared):Prop:=∃H',Inv X pins σ H' s'/\Q b H'
inductive AP(X:Cx)(pins:List (Addr×Obj))(σ:St)(Q:List V->Hp->Prop)(us:List Value)(s':Shared):Prop where|mk(vs:List V)(H':Hp)(q0:Inv X pins σ H' s')(q1:Vals vs us)(q2:Q vs H')
def SP(X:Cx)(pins:List (Addr×Obj))(D:Ends)(f:Flow)(s':Shared):Prop:=match f with|.next=>∃σ' H',Inv X pins σ' H' s'/\D.nx σ' H'|.brk=>∃σ' H',Inv X pins σ' H' s'/\D.bk σ' H'|.cont=>∃σ' H',Inv X pins σ' H' s'/\D.ct σ' H'|.ret u=>∃v σ' H',Inv X pins σ' H' s'/\RelV v u/\D.rt v H'
def PE(X:Cx)(e:Expr)(t:TE):Prop:=∀(pins:List (Addr×Obj))(s:Shared)(σ:St)(H:Hp)(Q:VK),Inv X pins σ H s->t σ H Q->wpAny (model X.prog X.w) X.A (eval e X.env) (EP X pins σ Q) X.xe s
def PT(X:Cx)(e:Expr)(t:TT):Prop:=∀(pins:List (Addr×Obj))(s:Shared)(σ:St)(H:Hp)(Q:Bool->Hp->Prop),Inv X pins σ H s->t σ H Q->wpAny (model X.prog X.w) X.A (isTrue e X.env (eval e X.env)) (TP X pins σ Q) X.xe s
def PW(X:Cx)(e:Expr)(t:TT):Prop:=∀(whole:Sem Value)(pins:List (Addr×Obj))(s:Shared)(σ:St)(H:Hp)(Q:Bool->Hp->Prop),Inv X pins σ H s->t σ H Q->wpAny (model X.prog X.w) X.A (isTrue e X.env whole) (TP X pins σ Q) X.xe s
theorem PW.pt{e:Expr}{t:TT}(h:PW X e t):PT X e t:=h _
def PA(X:Cx)(es:List Expr)(t:TA):Prop:=∀(pos:Pos)(pins:List (Addr×Obj))(s:Shared)(σ:St)(H:Hp)(Q:List V->Hp->Prop),Inv X pins σ H s->t σ H Q->wpAny (model X.prog X.w) X.A (spliced (backTo pos (starEach es X.env))) (AP X pins σ Q) X.xe s
def PS(X:Cx)(st:Stmt)(t:TS):Prop:=∀(pins:List (Addr×Obj))(s:Shared)(σ:St)(H:Hp)(D:Ends),Inv X pins σ H s->t D σ H->wpAny (model X.prog X.w) X.A (exec st X.env) (SP X pins D) X.xe s
def wI(X:Cx)(st:List Stmt)(t:TS):Prop:=∀(pins:List (Addr×Obj))(s:Shared)(σ:St)(H:Hp)(D:Ends),Inv X pins σ H s->t D σ H->wpAny (model X.prog X.w) X.A (execs st X.env) (SP X pins D) X.xe s
theorem bR{α:Type}{t:Sem α}{Q Q':α->Shared->Prop}{E:Value->Shared->Prop}(h:wpAny M A t Q E s)(hQ:∀a s,Q a s->Q' a s):wpAny M A t Q' E s:=wpAny_mono h hQ fun _ _ x=>x
section
variable{X:Cx}
def Td(i:Nat):TE:=fun σ H Q=>∃v,σ[i]?=some (some v)/\Q v H
def tC(v:V):TE:=fun _ H Q=>Q v H
theorem fH{x:Str}(hN:X.N[i]?=some x)(hv:xg X.env.scope x)(hd:(x==("__debug__":Str))=false:=by decide)(hcd:(x==("__classdict__":Str))=false:=by decide):PE X (.Name x pos) (Td i):=by
 intro pins s σ H Q I h;obtain⟨v,e,h⟩:=h;obtain⟨m,hn,hl⟩:=I.loc;obtain⟨u,r,l⟩:=hl i x v hN e hv;have fin:EP X pins σ Q u s:=⟨v,H,I,r,h⟩;rcases l with⟨hk,hm⟩|⟨hk,c,hc,hcell⟩;.exact wpAny_Name (wpAny_loadName_local I.ok.kind hk hn hm fin) hd
 . rcases hk with hk|hk;.exact wpAny_Name (wpAny_loadName_cell I.ok.kind hk hc hcell fin) hd
   .exact wpAny_Name (wpAny_loadName_free I.ok.kind hk hc hcell fin hcd) hd
theorem qO{i j pos}:PE X (.Constant (.int i) j pos) (tC (.int i)):=fun _ _ _ H _ I h=>wpAny_Constant_int ⟨.int i,H,I.tok _,⟨_,rfl⟩,h⟩
theorem Xn{b j pos}:PE X (.Constant (.bool b) j pos) (tC (.bl b)):=fun _ _ _ H _ I h=>Constant_bool ⟨.bl b,H,I,rfl,h⟩
theorem TV{j pos}:PE X (.Constant .none j pos) (tC .non):=fun _ _ _ H _ I h=>Constant_none ⟨.non,H,I,rfl,h⟩
def Gl(X:Cx)(x:Str):Prop:=X.env.kindOf x=some .globalImplicit
theorem Bk{E:Value->Shared->Prop}{σ:St}{x:Str}{u:Value}{Q:Value->Shared->Prop}(I:Inv X pins σ H s)(hg:Gl X x)(hm:X.mg x=some u)(h:Q u s)(hd:(x==("__debug__":Str))=false:=by decide):wpAny (model X.prog X.w) X.A (eval (.Name x pos) X.env) Q E s:=Calls.Name_function_global I.ok.kind hg (Calls.loadGlobal_global (by rw[I.ok.glob];exact I.mod.glob.keeps I.bk) hm h) hd
theorem iM{E:Value->Shared->Prop}{σ:St}{x:Str}{u:Value}{Q:Value->Shared->Prop}(I:Inv X pins σ H s)(hg:Gl X x)(hm:X.mg x=none)(hv:bootBuiltins x=some u)(h:Q u s)(hn:x≠"__name__":=by decide)(hd:(x==("__debug__":Str))=false:=by decide):wpAny (model X.prog X.w) X.A (eval (.Name x pos) X.env) Q E s:=by obtain⟨mb,h1,h2⟩:=I.mod.blt;exact Calls.Name_function_global I.ok.kind hg (Calls.loadGlobal_builtin (by rw[I.ok.glob];exact I.mod.glob.keeps I.bk) hm (by rw[I.ok.blt];exact h1.keeps I.bk) ((h2 x hn).trans hv) h) hd
theorem Lg{x:Str}{v:V}{u:Value}(hg:Gl X x)(hm:X.mg x=some u)(r:RelV v u)(hd:(x==("__debug__":Str))=false:=by decide):PE X (.Name x pos) (tC v):=fun _ _ _ H _ I h=>Bk I hg hm ⟨v,H,I,r,h⟩ hd
theorem Cw{x:Str}{v:V}{u:Value}(hg:Gl X x)(hm:X.mg x=none)(hv:bootBuiltins x=some u)(r:RelV v u)(hn:x≠"__name__":=by decide)(hd:(x==("__debug__":Str))=false:=by decide):PE X (.Name x pos) (tC v):=fun _ _ _ H _ I h=>iM I hg hm hv ⟨v,H,I,r,h⟩ hn hd
variable{a b:Expr}{ta tb:TE}{pos:Pos}
def PC(X:Cx)(op:CmpOp)(a b:Expr)(t:TE):Prop:=∀(pins:List (Addr × Obj))(s:Shared)(σ:St)(H:Hp)(Q:VK),Inv X pins σ H s->t σ H Q->wpAny (model X.prog X.w) X.A (eval a X.env) (fun v s₁=>wpAny (model X.prog X.w) X.A (eval b X.env) (fun u s₂=>wpAny (model X.prog X.w) X.A (compareOp op v u) (EP X pins σ Q) X.xe s₂) X.xe s₁) X.xe s
def tB(t:TE):TT:=fun σ H Q=>t σ H fun x H1=>∃c,x=.bl c/\Q c H1
theorem RW{t:TE}(h:PC X op a b t)(h1:behindInMarks op b=false:=by first|exact Zt _ (by decide) (by decide)|rfl):PT X (.Compare a [op] [b] pos) (tB t):=by intro pins s σ H Q I hw;refine wpAny_isTrue_Compare1 (bR (h pins s σ H _ I hw) fun v s1 h1=>bR h1 fun u s2 h2=>bR h2 fun c s3⟨x,H1,I1,r1,q1⟩=>?_) h1;obtain⟨d,rfl,q⟩:=q1;cases r1;exact wpAny_truthy_bool ⟨H1,I1,q⟩
theorem R7{e:Expr}{t:TE}(h:PE X e t)(he:∀whole,isTrue e X.env whole=(do let v<-whole;standAt e.pos;holding [v] (truthy v)):=by intro _;rfl):PT X e (tB t):=by intro pins s σ H Q I hw;refine isTrue_plain (bR (h pins s σ H _ I hw) fun v s1⟨x,H1,I1,r1,q1⟩=>?_) (he _);obtain⟨d,rfl,q⟩:=q1;cases r1;exact wpAny_truthy_bool ⟨H1,I1,q⟩
variable{tA tB':TT}{rest:List Expr}
def adS(t u:TT):TT:=fun σ H Q=>t σ H fun c H1=>if c=true then u σ H1 Q else Q false H1
def tOr(t u:TT):TT:=fun σ H Q=>t σ H fun c H1=>if c=true then Q true H1 else u σ H1 Q
def acv(t:TT):TT:=fun σ H Q=>t σ H fun c H1=>Q (!c) H1
theorem KQ(ha:PT X a tA):PW X (.BoolOp .And [a] pos) tA:=by intro wh pins s σ H Q I h;refine isTrue_and (bR (ha pins s σ H Q I h) fun c s1 e=>?_);cases c with|true=>exact isTrue_and_nil e|false=>exact e
theorem Tv(ha:PT X a tA):PW X (.BoolOp .Or [a] pos) tA:=by intro wh pins s σ H Q I h;refine isTrue_or (bR (ha pins s σ H Q I h) fun c s1 e=>?_);cases c with|false=>exact isTrue_or_nil e|true=>exact e
theorem Uc(ha:PT X a tA)(hb:PW X (.BoolOp .And (b::rest) pos) tB'):PW X (.BoolOp .And (a::b::rest) pos) (adS tA tB'):=by intro wh pins s σ H Q I h;refine isTrue_and (bR (ha pins s σ H _ I h) fun c s1⟨H1,I1,q1⟩=>?_);cases c with|true=>exact hb wh pins s1 σ H1 Q I1 q1|false=>exact⟨H1,I1,q1⟩
theorem W4(ha:PT X a tA)(hb:PW X (.BoolOp .Or (b::rest) pos) tB'):PW X (.BoolOp .Or (a::b::rest) pos) (tOr tA tB'):=by intro wh pins s σ H Q I h;refine isTrue_or (bR (ha pins s σ H _ I h) fun c s1⟨H1,I1,q1⟩=>?_);cases c with|true=>exact⟨H1,I1,q1⟩|false=>exact hb wh pins s1 σ H1 Q I1 q1
theorem R3(ha:PT X a tA):PT X (.UnaryOp .Not a pos) (acv tA):=by intro pins s σ H Q I h;exact isTrue_not (ha pins s σ H (fun c H1=>Q (!c) H1) I h)
def Za(ta tb:TE):TE:=fun σ H Q=>ta σ H fun x H1=>∃c,x=.bl c/\if c=true then tb σ H1 Q else Q (.bl false) H1
def Yp(ta:TE):TE:=fun σ H Q=>ta σ H fun x H1=>∃c,x=.bl c/\Q (.bl (!c)) H1
theorem TJ{op}{t:TE}(h:PE X a t):PE X (.BoolOp op [a] pos) t:=fun pins s σ H Q I hw=>BoolOp_one (h pins s σ H Q I hw)
theorem Q4(ha:PE X a ta)(hb:PE X (.BoolOp .And (b::rest) pos) tb):PE X (.BoolOp .And (a::b::rest) pos) (Za ta tb):=by intro pins s σ H Q I h;refine BoolOp_and (bR (ha pins s σ H _ I h) fun v s1⟨x,H1,I1,r1,q1⟩=>?_);obtain⟨c,rfl,q1⟩:=q1;cases r1;refine wpAny_truthy_bool ?_;cases c with|true=>exact hb pins s1 σ H1 Q I1 q1|false=>exact⟨.bl false,H1,I1,rfl,q1⟩
theorem Sy(ha:PE X a ta):PE X (.UnaryOp .Not a pos) (Yp ta):=by intro pins s σ H Q I h;refine UnaryOp_ (bR (ha pins s σ H _ I h) fun v s1⟨x,H1,I1,r1,q1⟩=>?_);obtain⟨c,rfl,q1⟩:=q1;cases r1;exact not_of (wpAny_truthy_bool ⟨.bl (!c),H1,I1,rfl,q1⟩)
def tIf(t:TT)(ta tb:TE):TE:=fun σ H Q=>t σ H fun c H1=>if c=true then ta σ H1 Q else tb σ H1 Q
theorem Ja{c:Expr}(hc:PT X c tA)(ha:PE X a ta)(hb:PE X b tb):PE X (.IfExp c a b pos) (tIf tA ta tb):=by intro pins s σ H Q I h;refine wpAny_IfExp (bR (hc pins s σ H _ I h) fun d s1⟨H1,I1,q1⟩=>?_);cases d with|true=>exact ha pins s1 σ H1 Q I1 q1|false=>exact hb pins s1 σ H1 Q I1 q1
end
def dX(K:PySem.W.Frag)(H:Hp)(a:Addr)(xs:List V):Prop:=Rd H a (.lst xs)\/∃(o:Obj)(its:Array Value)(n:Nat),K.lookup a=some o/\o.cls=.type "list"/\o.dict=none/\o.data=.seq its n/\its.size<=sizeLine/\Vals xs its.toList
def iD(K:PySem.W.Frag)(H:Hp)(a:Addr)(xs:List V):Prop:=Rd H a (.tup xs)\/∃(o:Obj)(its:Array Value)(n:Nat),K.lookup a=some o/\o.cls=.type "tuple"/\o.data=.seq its n/\its.size<=sizeLine/\Vals xs its.toList
noncomputable def aet:Value->Option V|.none=>some .non|.bool b=>some (.bl b)|.int i _=>some (.int i)|.str x _=>some (.str x)|.bytes b _=>some (.byt b)|.float b _=>some (.flt b)|.ref a=>some (.ref a)|.type n=>some (.ty n)|_=>none
theorem RelV.abs{x:V}{u:Value}(r:RelV x u):aet u=some x:=by cases x with|non=>cases r;rfl|bl _=>cases r;rfl|int _=>obtain⟨t,rfl⟩:=r;rfl|str _=>obtain⟨t,rfl⟩:=r;rfl|byt _=>obtain⟨t,rfl⟩:=r;rfl|flt _=>obtain⟨t,rfl⟩:=r;rfl|ref _=>cases r;rfl|ty _=>cases r;rfl
theorem RelV.inj{x y:V}{u:Value}(r:RelV x u)(q:RelV y u):x=y:=Option.some.inj (r.abs.symm.trans q.abs)
theorem Vals.inj:∀{xs ys:List V}{us:List Value},Vals xs us->Vals ys us->xs=ys|_,_,_,.nil,.nil=>rfl|_,_,_,.cons r t,.cons r' t'=>by rw[r.inj r',Vals.inj t t']
section
variable{X:Cx}{pins:List (Addr×Obj)}{σ:St}{H:Hp}{s:Shared}{a:Addr}{xs ys:List V}
theorem dX.of(h:H a=some (.lst xs)):dX K H a xs:=.inl (.inl h)
theorem iD.of(h:H a=some (.tup xs)):iD K H a xs:=.inl (.inl h)
theorem Inv.list(I:Inv X pins σ H s)(h:dX X.K H a xs):∃its:List Value,Vals xs its/\PlainL s.heap a its.toArray/\xs.length<=sizeLine:=by
 rcases h with h|⟨o,its,n,hk,hc,hd,hs,hz,r⟩;.obtain⟨z,its,n,r,e⟩:=h.ok I.hok;exact⟨its,r,⟨_,n,e,rfl,rfl,rfl⟩,z⟩
 .refine⟨its.toList,r,⟨o,n,I.Pu a o hk,hc,hd,by simpa using hs⟩,?_⟩;have e:=r.length;simp only[length_toList]at e;omega
theorem Inv.tuple(I:Inv X pins σ H s)(h:iD X.K H a xs):∃its:List Value,Vals xs its/\IsTup s.heap a its.toArray/\xs.length<=sizeLine:=by
 rcases h with h|⟨o,its,n,hk,hc,hs,hz,r⟩;.obtain⟨z,its,r,p⟩:=h.ok I.hok;exact⟨its,r,p,z⟩
 .refine⟨its.toList,r,⟨o,I.Pu a o hk,hc,n,by simpa using hs⟩,?_⟩;have e:=r.length;simp only[length_toList]at e;omega
theorem Inv.mJ(I:Inv X pins σ H s)(h:dX X.K H a xs)(h':dX X.K H a ys):xs=ys:=by
 obtain⟨its,r,⟨o,n,e,_,_,d⟩,_⟩:=I.list h;obtain⟨its',r',⟨o',n',e',_,_,d'⟩,_⟩:=I.list h';rw[e]at e';cases e';rw[d]at d';injection d' with d1 _;have:its=its':=by simpa using congrArg toList d1
 subst this;exact r.inj r'
theorem Inv.j8(I:Inv X pins σ H s)(h:iD X.K H a xs)(h':iD X.K H a ys):xs=ys:=by
 obtain⟨its,r,⟨o,e,_,n,d⟩,_⟩:=I.tuple h;obtain⟨its',r',⟨o',e',_,n',d'⟩,_⟩:=I.tuple h';rw[e]at e';cases e';rw[d]at d';injection d' with d1 _;have:its=its':=by simpa using congrArg toList d1
 subst this;exact r.inj r'
end
noncomputable abbrev Cx.wish(X:Cx)(E:Value->Shared->Prop):Cx:={X with xe:=E}
noncomputable abbrev Cx.Zn(X:Cx):Cx:=X.wish fun _ _=>False
theorem Cx.Ok.wish{X:Cx}(ok:X.Ok)(E:Value->Shared->Prop):(X.wish E).Ok:=⟨ok.mod,ok.kind,ok.glob,ok.blt,ok.above,ok.inj,ok.has,ok.cab,ok.hd,ok.frames,ok.stk,ok.exf,ok.bs,ok.PX,ok.Jz,ok.Nr,ok.pW,ok.Wx⟩
theorem Cx.Ok.jr{E:Value->Shared->Prop}(ok:(X.wish E).Ok):X.Ok:=⟨ok.mod,ok.kind,ok.glob,ok.blt,ok.above,ok.inj,ok.has,ok.cab,ok.hd,ok.frames,ok.stk,ok.exf,ok.bs,ok.PX,ok.Jz,ok.Nr,ok.pW,ok.Wx⟩
section
variable{X:Cx}{pins:List (Addr×Obj)}{σ:St}{H:Hp}{s:Shared}{E:Value->Shared->Prop}
theorem Inv.wish(I:Inv X pins σ H s)(E:Value->Shared->Prop):Inv (X.wish E) pins σ H s:=⟨I.ok.wish E,I.os,I.bare,I.base,I.loc,I.cell,I.free,I.kY,I.pin,I.hok,I.len⟩
theorem Inv.jr(I:Inv (X.wish E) pins σ H s):Inv X pins σ H s:=⟨I.ok.jr,I.os,I.bare,I.base,I.loc,I.cell,I.free,I.kY,I.pin,I.hok,I.len⟩
theorem SP.jr{D:Ends}{f:Flow}{s':Shared}(h:SP (X.wish E) pins D f s'):SP X pins D f s':=by cases f with|next=>obtain⟨σ',H',I,q⟩:=h;exact⟨σ',H',I.jr,q⟩|brk=>obtain⟨σ',H',I,q⟩:=h;exact⟨σ',H',I.jr,q⟩|cont=>obtain⟨σ',H',I,q⟩:=h;exact⟨σ',H',I.jr,q⟩|ret u=>obtain⟨v,σ',H',I,r,q⟩:=h;exact⟨v,σ',H',I.jr,r,q⟩
theorem wI.Zn{st:List Stmt}{t:TS}(h:wI X.Zn st t):wI X st t:=fun pins s σ H D I hw=>wpAny_mono (h pins s σ H D (I.wish _) hw) (fun _ _ q=>q.jr) fun _ _ z=>False.elim z
end
section
variable{X:Cx}{st:Stmt}{rest:List Stmt}{t u:TS}{e:Expr}{te:TE}{pos:Pos}
def Yk:TS:=fun D σ H=>D.nx σ H
def adz(t u:TS):TS:=fun D σ H=>t {D with nx:=u D} σ H
theorem An:wI X [] Yk:=fun _ _ σ H _ I h=>wpAny_execs_nil ⟨σ,H,I,h⟩
theorem mL(h1:PS X st t)(h2:wI X rest u):wI X (st::rest) (adz t u):=by intro pins s σ H D I h;refine wpAny_execs_cons (bR (h1 pins s σ H {D with nx:=u D} I h) fun f s1 q=>?_);cases f with|next=>obtain⟨σ',H',I',q⟩:=q;exact h2 pins s1 σ' H' D I' q|ret v=>exact q|brk=>exact q|cont=>exact q
theorem Inv.quiet{σ:St}(I:Inv X pins σ H s):interactive X.env=false:=by simp[interactive,I.ok.kind]
def Ye(te:TE):TS:=fun D σ H=>te σ H fun _ H1=>D.nx σ H1
theorem uI(he:PE X e te)(hs:swapsWith e none pos.line X.env=pure false:=by rfl):PS X (.Expr e pos) (Ye te):=by intro pins s σ H D I h;exact wpAny_Expr_any (bR (he pins s σ H _ I h) fun v s1⟨x,H1,I1,r1,q1⟩=>⟨σ,H1,I1,q1⟩) I.quiet hs
def adT(te:TE):TS:=fun D σ H=>te σ H D.rt
theorem G5(he:PE X e te):PS X (.Return (some e) pos) (adT te):=by intro pins s σ H D I h;exact wpAny_Return_some (bR (he pins s σ H _ I h) fun v s1⟨x,H1,I1,r1,q1⟩=>⟨x,σ,H1,I1,r1,q1⟩)
def aeC(c:TT)(t u:TS):TS:=fun D σ H=>c σ H fun b H1=>if b=true then t D σ H1 else u D σ H1
theorem N7{c:Expr}{a b:List Stmt}{tc:TT}(hc:PT X c tc)(ha:wI X a t)(hb:wI X b u):PS X (.If c a b pos) (aeC tc t u):=by intro pins s σ H D I h;refine wpAny_If (bR (hc pins s σ H _ I h) fun d s1⟨H1,I1,q1⟩=>?_);cases d with|true=>exact ha pins s1 σ H1 D I1 q1|false=>exact hb pins s1 σ H1 D I1 q1
def Sg:TS:=fun _ _ _=>False
theorem Gf:PS X st Sg:=fun _ _ _ _ _ _ h=>h.elim
end
abbrev TG:=V->St->Hp->(St->Hp->Prop)->Prop
abbrev Fp:=List V->St->Hp->(St->Hp->Prop)->Prop
def PG(X:Cx)(target:Expr)(t:TG):Prop:=∀(pins:List (Addr × Obj))(s:Shared)(σ:St)(H:Hp)(v:V)(u:Value)(Q:St->Hp->Prop),Inv X pins σ H s->RelV v u->t v σ H Q->wpAny (model X.prog X.w) X.A (assign target X.env u) (fun _ s'=>∃σ' H',Inv X pins σ' H' s'/\Q σ' H') X.xe s
def PGs(X:Cx)(ts:List Expr)(t:Fp):Prop:=∀(pins:List (Addr × Obj))(s:Shared)(σ:St)(H:Hp)(vs:List V)(us:List Value)(Q:St->Hp->Prop),Inv X pins σ H s->Vals vs us->t vs σ H Q->wpAny (model X.prog X.w) X.A (assignInOrder ((assignEach ts X.env).map (·.2)) us) (fun _ s'=>∃σ' H',Inv X pins σ' H' s'/\Q σ' H') X.xe s
abbrev Gm:=V->V->V->Hp->(Hp->Prop)->Prop
def Ro(X:Cx)(t:Gm):Prop:=∀(pins:List (Addr × Obj))(s:Shared)(σ:St)(H:Hp)(o i v:V)(ov iv u:Value)(Q:Hp->Prop),Inv X pins σ H s->RelV o ov->RelV i iv->RelV v u->t o i v H Q->wpAny (model X.prog X.w) X.A (setItem ov iv u) (fun _ s'=>∃H',Inv X pins σ H' s'/\Q H') X.xe s
abbrev Ve:=V->V->Hp->VK->Prop
def Pr(X:Cx)(op:Operator)(t:Ve):Prop:=∀(pins:List (Addr × Obj))(s:Shared)(σ:St)(H:Hp)(x y:V)(v u:Value)(Q:VK),Inv X pins σ H s->RelV x v->RelV y u->t x y H Q->wpAny (model X.prog X.w) X.A (inplaceOp op v u) (EP X pins σ Q) X.xe s
section
variable{X:Cx}{pos:Pos}
def jl(i:Nat):TG:=fun v σ H Q=>Q (σ.set i (some v)) H
theorem aJ{x:Str}(hN:X.N.Nodup)(hi:X.N[i]?=some x)(hx:Loc X.env.scope x)(hf:X.fn x=true\/X.env.scope.names.lookup x=some .local:=by first|exact .inl rfl|exact .inr rfl|assumption):PG X (.Name x pos) (jl i):=by intro pins s σ H v u Q I r h;exact wpAny_assign_Name (jy I hN hi hx r (fun s' I'=>⟨_,H,I',h⟩) hf)
def Te:Fp:=fun vs σ H Q=>vs=[]/\Q σ H
def FJ(t:TG)(u:Fp):Fp:=fun vs σ H Q=>∃v r,vs=v::r/\t v σ H fun σ' H'=>u r σ' H' Q
theorem di:PGs X [] Te:=by intro pins s σ H vs us Q I r h;obtain⟨e,h⟩:=h;subst e;cases r;exact assignInOrder_nil ⟨σ,H,I,h⟩
theorem aU{e:Expr}{es:List Expr}{t:TG}{u:Fp}(h1:PG X e t)(h2:PGs X es u)(hs:(assignEach (e::es) X.env).map (·.2)=assign e X.env::(assignEach es X.env).map (·.2):=by rfl):PGs X (e::es) (FJ t u):=by intro pins s σ H vs us Q I r h;obtain⟨v,vr,e1,h⟩:=h;subst e1;cases r with|cons r rr=>rw[hs];refine assignInOrder_cons (bR (h1 pins s σ H _ _ _ I r h) fun _ s1⟨σ1,H1,I1,q1⟩=>?_);exact h2 pins s1 σ1 H1 _ _ Q I1 rr q1
def Tr(K:PySem.W.Frag)(n:Nat)(t:Fp):TG:=fun v σ H Q=>∃a xs,v=.ref a/\iD K H a xs/\xs.length=n/\t xs σ H Q
theorem eY{es:List Expr}{k:Nat}{t:Fp}{n:Nat}(hc:X.calm=true)(h:PGs X es t)(hn:(assignEach es X.env).length=n:=by rfl)(hst:(assignEach es X.env).findIdx? (·.1)=none:=by rfl):PG X (.Tuple es k pos) (Tr X.K n t):=by intro pins s σ H v u Q I r hw;obtain⟨a,xs,e1,hq,hl,hw⟩:=hw;subst e1;cases r;obtain⟨its,rv,ht,hz⟩:=I.tuple hq;refine assign_Tuple_tuple (I.ok.hd hc) ht (by simp[hn,<-hl,rv.length]) hst fun h' hx=>?_;have I1:Inv X pins σ H {s with heap:=h'}:=I.kept (t':=s.toks) fun b o e=>hx b o (ne_of_lt (lt_size e)) e;exact h pins _ σ H xs _ Q I1 (by simpa using rv) hw
def adM(to ti:TE)(t:Gm):TG:=fun v σ H Q=>to σ H fun o H1=>ti σ H1 fun i H2=>t o i v H2 fun H3=>Q σ H3
theorem SM{o i:Expr}{to ti:TE}{t:Gm}(ho:PE X o to)(hi:PE X i ti)(hs:Ro X t)(ha:∀ v,assign (.Subscript o i pos) X.env v=(do
  let ov<-holding [v] (eval o X.env)let iv<-holding [v,ov] (eval i X.env)standAt pos
  holding [v,ov,iv] (setItem ov iv v)release [v,ov,iv] []):=by intro _;rfl):PG X (.Subscript o i pos) (adM to ti t):=by intro pins s σ H v u Q I r h;rw[ha];refine wpAny_bind (wpAny_holding (bR (ho pins s σ H _ I h) fun ov s1⟨x,H1,I1,r1,q1⟩=>?_));refine wpAny_bind (wpAny_holding (bR (hi pins s1 σ H1 _ I1 q1) fun iv s2⟨y,H2,I2,r2,q2⟩=>?_));refine wpAny_bind (wpAny_standAt (wpAny_bind (wpAny_holding (bR (hs pins s2 σ H2 x y v ov iv u _ I2 r1 r2 r q2) fun _ s3⟨H3,I3,q3⟩=>?_))));exact wpAny_release ⟨σ,H3,I3,q3⟩
def RJ(te:TE)(g:TG):TS:=fun D σ H=>te σ H fun x H1=>g x σ H1 D.nx
theorem Ir{e:Expr}{g:TG}(he:PE X e te)(hg:PG X tg g)(hs:swapsWithSole [tg] e pos.line X.env=pure false:=by rfl)(hw:swappedStores [tg] e X.env=pure none:=by rfl)(h1:(assignEach [tg] X.env).map (·.2)=[assign tg X.env]:=by rfl):PS X (.Assign [tg] e pos) (RJ te g):=by intro pins s σ H D I h;refine wpAny_Assign_stores (bR (he pins s σ H _ I h) fun v s1⟨x,H1,I1,r1,q1⟩=>?_) hs hw;rw[h1];exact bR (hg pins s1 σ H1 x v _ I1 r1 q1) fun _ s2 q=>q
theorem uE{x:Str}{e:Expr}{pos':Pos}(hN:X.N.Nodup)(hi:X.N[i]?=some x)(hx:Loc X.env.scope x)(he:PE X e te)(hs:swapsWith e (some (.Name x pos')) pos.line X.env=pure false:=by rfl)(hf:X.fn x=true\/X.env.scope.names.lookup x=some .local:=by first|exact .inl rfl|exact .inr rfl|assumption):PS X (.Assign [.Name x pos'] e pos) (RJ te (jl i)):=by intro pins s σ H D I h;refine wpAny_Assign_Name (bR (he pins s σ H _ I h) fun v s1⟨y,H1,I1,r1,q1⟩=>?_) hs;exact jy I1 hN hi hx r1 (fun s2 I2=>⟨_,H1,I2,q1⟩) hf
def ael(i j:Nat)(ta:TA):TS:=fun D σ H=>ta σ H fun vs H1=>∃v w,vs=[v,w]/\D.nx ((σ.set i (some v)).set j (some w)) H1
theorem Qy{j:Nat}{x y:Str}{a b:Expr}{ta:TA}{px py pt:Pos}{kt k2 UT}(hc:X.calm=true)(hN:X.N.Nodup)(hi:X.N[i]?=some x)(hj:X.N[j]?=some y)(hij:i≠j)(hx:X.env.scope.names.lookup x=some .local)(hy:X.env.scope.names.lookup y=some .local)(ha:PA X [a,b] ta)(hw:swappedStores [.Tuple [.Name x px,.Name y py] kt pt] (.Tuple [a,b] k2 UT) X.env=pure (some [x,y]))(hs:swapsWithSole [.Tuple [.Name x px,.Name y py] kt pt] (.Tuple [a,b] k2 UT) pos.line X.env=pure false:=by rfl):PS X (.Assign [.Tuple [.Name x px,.Name y py] kt pt] (.Tuple [a,b] k2 UT) pos) (ael i j ta):=by
 intro pins s σ H D I h;rw[exec_Assign_arm];refine wpAny_bind (wpAny_standAt ?_);rw[hs];refine wpAny_bind (wpAny_pure ?_);rw[if_neg (by decide)];refine wpAny_bind (Tuple_ (bR (ha _ pins s σ H _ I h) fun us s1⟨vs,H1,I1,r1,q1⟩=>?_));obtain⟨v,w,e1,q1⟩:=q1;subst e1;obtain⟨u1,u2,rfl,rv,vI⟩:∃u1 u2,us=[u1,u2]/\RelV v u1/\RelV w u2:=by cases r1 with|cons p q=>cases q with|cons p' q'=>cases q';exact⟨_,_,rfl,p,p'⟩
 refine wpAny_newObj_type ?_ (by show 2<=sizeLine;decide);have I2:Inv X pins σ H1 {s1 with heap:=s1.heap.push {cls:=.type "tuple",data:=.seq [u1,u2].toArray}}:=I1.kept (t':=s1.toks) fun b o e=>dC e;rw[hw];refine wpAny_bind (wpAny_pure ?_);show wpAny (model X.prog X.w) X.A (do rule "assign.swapped-stores";let items<-unpackItems (.ref s1.heap.objs.size) 2 none;assignInOrder [fun v=>bindName X.env y v,fun v=>bindName X.env x v] items.reverse;pure Flow.next) _ _ _;refine wpAny_bind (wpAny_rule (wpAny_bind (unpackItems_tuple (items:=#[u1,u2]) (I.ok.hd hc) (IsTup.new s1.heap _) fun h' hx'=>?_)));have I3:=I2.kept (h':=h') (t':=s1.toks) fun b o e=>hx' b o (ne_of_lt (lt_size e)) e;show wpAny _ _ (assignInOrder [fun v=>bindName X.env y v,fun v=>bindName X.env x v] [u2,u1]>>=fun _=>pure Flow.next) _ _ _;refine wpAny_bind (assignInOrder_cons (wpAny_bindName (jy I3 hN hj (.inl hy) vI (fun s2 I4=>?_) (.inr hy))));refine assignInOrder_cons (wpAny_bindName (jy I4 hN hi (.inl hx) rv (fun s3 I5=>assignInOrder_nil (wpAny_pure ?_)) (.inr hx)));rw[List.set_comm _ _ (Ne.symm hij)]at I5;exact⟨_,H1,I5,q1⟩
def adw(i:Nat)(te:TE)(ti:Ve):TS:=fun D σ H=>∃x,σ[i]?=some (some x)/\te σ H fun y H1=>ti x y H1 fun z H2=>D.nx (σ.set i (some z)) H2
theorem Ri{x:Str}{e:Expr}{op:Operator}{ti:Ve}{pos':Pos}(hN:X.N.Nodup)(hi:X.N[i]?=some x)(hx:Loc X.env.scope x)(he:PE X e te)(ho:Pr X op ti)(hf:X.fn x=true\/X.env.scope.names.lookup x=some .local:=by first|exact .inl rfl|exact .inr rfl|assumption):PS X (.AugAssign (.Name x pos') op e pos) (adw i te ti):=by
 intro pins s σ H D I h;obtain⟨v,e1,h⟩:=h;obtain⟨m,hn,hl⟩:=I.loc;have vis:xg X.env.scope x:=by rcases hx with k|k;exact .inl k;exact .inr (.inl k)
 obtain⟨u,r,l⟩:=hl i x v hi e1 vis;refine wpAny_AugAssign_Name ?_;have go:wpAny (model X.prog X.w) X.A (eval e X.env) (fun w s₂=>wpAny (model X.prog X.w) X.A (inplaceOp op u w) (fun r s₃=>wpAny (model X.prog X.w) X.A (storeName X.env x r) (fun _=>SP X pins D .next) X.xe s₃) X.xe s₂) X.xe s:=by refine bR (he pins s σ H _ I h) fun w s1⟨y,H1,I1,r1,q1⟩=>?_;refine bR (ho pins s1 σ H1 v y u w _ I1 r r1 q1) fun z s2⟨zv,H2,I2,r2,q2⟩=>?_;exact jy I2 hN hi hx r2 (fun s3 I3=>⟨_,H2,I3,q2⟩) hf
 rcases l with⟨hk,hm⟩|⟨hk,c,hc,hcell⟩;.exact wpAny_loadName_local I.ok.kind hk hn hm go
 . rcases hk with hk|hk;.exact wpAny_loadName_cell I.ok.kind hk hc hcell go
   . rcases hx with k|k;.have:X.env.scope.names.lookup x=some .free:=hk;rw[k]at this;cases this
     .have:X.env.scope.names.lookup x=some .free:=hk;rw[k]at this;cases this
def XC(to ti te:TE)(Nt:V->V->Hp->VK->Prop)(tip:Ve)(Nu:Gm):TS:=fun D σ H=>to σ H fun o H1=>ti σ H1 fun i H2=>Nt o i H2 fun x H3=>te σ H3 fun y H4=>tip x y H4 fun z H5=>Nu o i z H5 fun H6=>D.nx σ H6
def WW(X:Cx)(t:V->V->Hp->VK->Prop):Prop:=∀(pins:List (Addr × Obj))(s:Shared)(σ:St)(H:Hp)(o i:V)(ov iv:Value)(Q:VK),Inv X pins σ H s->RelV o ov->RelV i iv->t o i H Q->wpAny (model X.prog X.w) X.A (getItem ov iv) (EP X pins σ Q) X.xe s
theorem M9{o i e:Expr}{to ti:TE}{Nt:V->V->Hp->VK->Prop}{tip:Ve}{Nu:Gm}{op:Operator}{tpos:Pos}(ho:PE X o to)(hi:PE X i ti)(hg:WW X Nt)(he:PE X e te)(hp:Pr X op tip)(hs:Ro X Nu)(ha:∀ov iv new,augStore i ov iv new=(do holding [new,ov,iv] (setItem ov iv new);release [new,ov,iv] [];pure .next):=by intros;rfl):PS X (.AugAssign (.Subscript o i tpos) op e pos) (XC to ti te Nt tip Nu):=by intro pins s σ H D I h;refine wpAny_AugAssign_SubscriptAny (bR (ho pins s σ H _ I h) fun ov s1⟨x1,H1,I1,r1,q1⟩=>?_) ha;refine bR (hi pins s1 σ H1 _ I1 q1) fun iv s2⟨x2,H2,I2,r2,q2⟩=>?_;refine bR (hg pins s2 σ H2 x1 x2 ov iv _ I2 r1 r2 q2) fun old s3⟨x3,H3,I3,r3,q3⟩=>?_;refine bR (he pins s3 σ H3 _ I3 q3) fun v s4⟨x4,H4,I4,r4,q4⟩=>?_;refine bR (hp pins s4 σ H4 x3 x4 old v _ I4 r3 r4 q4) fun new s5⟨x5,H5,I5,r5,q5⟩=>?_;exact bR (hs pins s5 σ H5 x1 x2 x5 ov iv new _ I5 r1 r2 r5 q5) fun _ s6⟨H6,I6,q6⟩=>⟨σ,H6,I6,q6⟩
def Wa(f:Int->Int->Int):Ve:=fun x y H Q=>∃i j,x=.int i/\y=.int j/\Q (.int (f i j)) H
theorem Qq:Pr X .Add (Wa fun i j=>i+j):=by intro pins s σ H x y v u Q I r1 r2 h;obtain⟨i,j,e1,e2,q⟩:=h;subst e1;subst e2;obtain⟨t,rfl⟩:=r1;obtain⟨t',rfl⟩:=r2;exact iadd_int ⟨.int _,H,I.tok _,⟨_,rfl⟩,q⟩
theorem Ti:Pr X .Sub (Wa fun i j=>i-j):=by intro pins s σ H x y v u Q I r1 r2 h;obtain⟨i,j,e1,e2,q⟩:=h;subst e1;subst e2;obtain⟨t,rfl⟩:=r1;obtain⟨t',rfl⟩:=r2;exact isub_int ⟨.int _,H,I.tok _,⟨_,rfl⟩,q⟩
end
section
variable{X:Cx}{pos:Pos}
def Q5(c:TT)(tb:TS):TS:=fun D σ H=>∃W:Nat->St->Hp->Prop,(∃m,W m σ H)/\∀m σ H,W m σ H->c σ H fun b H1=>if b=true then ∃N:St->Hp->Prop,(∀σ' H',N σ' H'->∃m',m'<m/\W m' σ' H')/\tb {D with nx:=N,ct:=N,bk:=D.nx} σ H1 else D.nx σ H1
theorem Hz{c:Expr}{body:List Stmt}{tc:TT}{tb:TS}(hp:PassesOwn (model X.prog X.w) X.A X.env X.xe)(hc:PT X c tc)(hb:wI X body tb):PS X (.While c body [] pos) (Q5 tc tb):=by intro pins s σ H D I h;obtain⟨W,⟨m0,w0⟩,turn⟩:=h;refine wpAny_While (codeAny_whileLoop (fun n s'=>∃σ' H',Inv X pins σ' H' s'/\W n σ' H') ?_ m0 ⟨σ,H,I,w0⟩);rintro n s1⟨σ1,H1,I1,w1⟩;refine wpAny_passesOwn hp (bR (hc pins s1 σ1 H1 _ I1 (turn n σ1 H1 w1)) fun b s2⟨H2,I2,q2⟩=>?_);cases b with
 |true=>obtain⟨N,hN,q2⟩:=q2;rw[if_pos rfl];refine wpAny_passesOwn hp (bR (hb pins s2 σ1 H2 _ I2 q2) fun f s3 q3=>?_);cases f with|next=>obtain⟨σ3,H3,I3,n3⟩:=q3;obtain⟨m',hm,w3⟩:=hN σ3 H3 n3;exact⟨m',hm,σ3,H3,I3,w3⟩|cont=>obtain⟨σ3,H3,I3,n3⟩:=q3;obtain⟨m',hm,w3⟩:=hN σ3 H3 n3;exact⟨m',hm,σ3,H3,I3,w3⟩|brk=>exact q3|ret v=>exact q3
 |false=>rw[if_neg Bool.false_ne_true];exact wpAny_execs_nil ⟨σ1,H2,I2,q2⟩
end
structure It where
 go:Nat->Hp->Prop
 JC:Nat->Hp->V->Hp->Prop
 stop:Nat->Hp->Prop
def nY(X:Cx)(pins:List (Addr×Obj))(H:Hp)(b:Addr):Prop:=H b=none/\b≠X.env.locals/\b∉X.fs/\(b∈X.ex\/X.s₀.heap.objs.size<=b)/\(∀x c,X.env.cells.lookup x=some c->c≠b)/\∀p∈X.pn++pins,p.1≠b
theorem Inv.yw{σ:St}{H':Hp}{b:Addr}(I:Inv X pins σ H s)(hb:s.heap.objs.size<=b)(hn:H' b=none):nY X pins H' b:=by
 refine⟨hn,ne_of_gt (lt_of_lt_of_le I.lt hb),I.ac5 hb,.inr (le_trans I.sz hb),fun x c e z=>?_,fun p hp z=>?_⟩;.obtain⟨v,q⟩:=I.cell x c e;exact absurd (lt_of_lt_of_le q.lt (by rw[z];exact hb)) (lt_irrefl _)
 .exact absurd (lt_of_lt_of_le (lt_size (I.pin p hp).1) (by rw[z];exact hb)) (lt_irrefl _)
structure Turn(P:Program)(w:World)(K:PySem.W.Frag)(tg:Expr)(J:It)(fp:List Addr)(it:Addr)(tn:Nat->Heap->Prop):Prop where
 mem:it∈fp
 obj:∀i h,tn i h->∀b∈fp,∃o,h.get? b=some o/\∀v,o.data≠.cell v
 keep:∀i h h',tn i h->(∀b∈fp,∀o,h.get? b=some o->h'.get? b=some o)->tn i h'
 item:∀(X:Cx),X.prog=P->X.w=w->X.K=K->X.calm=true->∀(i:Nat)(pins:List (Addr×Obj))(s:Shared)(σ:St)(H:Hp)(E:Value->Shared->Prop),Inv X pins σ H s->(∀b∈fp,nY X pins H b)->tn i s.heap->J.go i H->wpAny (model P w) X.A (pyNext (.ref it)) (fun r s1=>∃u,r=some u/\wpAny (model P w) X.A (letOwnedTupleGo tg (.ref it) u) (fun _ s2=>∃x H',Inv X pins σ H' s2/\RelV x u/\J.JC i H x H'/\tn (i+1) s2.heap/\∀b∈fp,H' b=none) E s1) E s
 done:∀(X:Cx),X.prog=P->X.w=w->X.K=K->X.calm=true->∀(i:Nat)(pins:List (Addr×Obj))(s:Shared)(σ:St)(H:Hp)(E:Value->Shared->Prop),Inv X pins σ H s->(∀b∈fp,nY X pins H b)->tn i s.heap->J.stop i H->wpAny (model P w) X.A (pyNext (.ref it)) (fun r s1=>r=none/\Inv X pins σ H s1) E s
 self:∀(A:Around)(i:Nat)(s:Shared)(Q:Value->Shared->Prop)(E:Value->Shared->Prop),tn i s.heap->Q (.ref it) s->wpAny (model P w) A (pyIter (.ref it)) Q E s
abbrev TI:=St->Hp->(It->Hp->Prop)->Prop
def PIE(X:Cx)(pins:List (Addr×Obj))(σ:St)(tg:Expr)(R:It->Hp->Prop)(itv:Value)(s2:Shared):Prop:=∃(it:Addr)(fp:List Addr)(tn:Nat->Heap->Prop)(J:It)(H':Hp),itv=.ref it/\Inv X pins σ H' s2/\Turn X.prog X.w X.K tg J fp it tn/\tn 0 s2.heap/\(∀b∈fp,nY X pins H' b)/\R J H'
def PI(X:Cx)(tg iter:Expr)(wi:TI):Prop:=∀(pins:List (Addr × Obj))(s:Shared)(σ:St)(H:Hp)(R:It->Hp->Prop),Inv X pins σ H s->wi σ H R->wpAny (model X.prog X.w) X.A (eval iter X.env) (fun v s1=>wpAny (model X.prog X.w) X.A (pyIter v) (PIE X pins σ tg R) X.xe s1) X.xe s
theorem Cr{E:Value->Shared->Prop}{it:Addr}{u:Value}{o:Obj}{n:String}{vs:Array Value}{Q:Unit->Shared->Prop}(ho:s.heap.get? it=some o)(hc:o.cls=.type n)(hd:o.data=.fields vs)(hn:["enumerate","zip","dict_itemiterator","dict_reverseitemiterator","odict_iterator","itertools.zip_longest","itertools.pairwise"].contains n=false)(hQ:Q () s):wpAny M A (letOwnedTupleGo tg (.ref it) u) Q E s:=by unfold letOwnedTupleGo;cases tg<;>first|exact wpAny_pure hQ|(cases u<;>first|exact wpAny_pure hQ|(refine wpAny_bind (wpAny_load ho ?_);rw[hc,hd];show wpAny M A (if(["enumerate","zip","dict_itemiterator","dict_reverseitemiterator","odict_iterator","itertools.zip_longest","itertools.pairwise"].contains n&&vs[0]?==some (rawInt _))=true then _ else _) Q E s;rw[if_neg (by intro h;rw[hn,Bool.false_and]at h;cases h)];exact wpAny_pure hQ))
noncomputable def Su(K:PySem.W.Frag)(a:Addr):It:=⟨fun i H=>∃xs x,dX K H a xs/\xs[i]?=some x,fun i H x H'=>H'=H/\∀xs,dX K H a xs->xs[i]?=some x,fun i H=>∃xs,dX K H a xs/\xs.length<=i⟩
noncomputable def Wv(K:PySem.W.Frag)(a:Addr):It:=⟨fun i H=>∃xs x,iD K H a xs/\xs[i]?=some x,fun i H x H'=>H'=H/\∀xs,iD K H a xs->xs[i]?=some x,fun i H=>∃xs,iD K H a xs/\xs.length<=i⟩
noncomputable def Vb(lo:Int)(n:Nat):It:=⟨fun i _=>i<n,fun i H x H'=>H'=H/\x=.int (lo+i),fun i _=>n<=i⟩
theorem El{P:Program}(a it:Addr):Turn P w K tg (Su K a) [it] it (fun i h=>h.IsListIter it a i)where
 mem:=by simp
 obj:=fun i h st b hb=>by
  have e:b=it:=by simpa using hb
  subst e;obtain⟨o,e,c,d⟩:=st;exact⟨o,e,fun v z=>by rw[d]at z;cases z⟩
 keep:=fun i h h' st k=>st.at fun o e=>k it (by simp) o e;item:=by intro X hP hw hK hc i pins s σ H E I hf st hg;subst hP hw hK;obtain⟨xs,x,hq,hx⟩:=hg;obtain⟨its,rv,p,hz⟩:=I.list hq;obtain⟨u,hu,ru⟩:=rv.get hx;obtain⟨f0,f1,f2,f3,f4,f5⟩:=hf it (by simp);refine wpAny_pyNext_list_item st p.isList (x:=u) (by simpa using hu) fun h' st' sb=>?_;have I1:Inv X pins σ H {s with heap:=h'}:=I.turned (t':=s.toks) (fun b o hb e=>(sb.2 b hb).trans e) f0 f1 f3 f4 f5;obtain⟨o,e,c,d⟩:=id st';exact⟨u,rfl,Cr (s:={s with heap:=h'}) e c d (by decide) ⟨x,H,I1,ru,⟨rfl,fun ys hy=>by rw[I.mJ hy hq];exact hx⟩,st',fun b hb=>(hf b hb).1⟩⟩
 done:=by intro X hP hw hK hc i pins s σ H E I hf st hg;subst hP hw hK;obtain⟨xs,hq,hx⟩:=hg;obtain⟨its,rv,p,hz⟩:=I.list hq;obtain⟨f0,f1,f2,f3,f4,f5⟩:=hf it (by simp);have hl:=rv.length;exact wpAny_pyNext_list_end (I.ok.hd hc) st p.isList (by simp;omega) fun h' eb=>⟨rfl,I.turned (t':=s.toks) (fun b o hb e=>eb b o hb e) f0 f1 f3 f4 f5⟩
 self:=fun _ _ _ _ _ st h=>wpAny_pyIter_listiter st h
theorem yp{P:Program}(a it:Addr):Turn P w K tg (Wv K a) [it] it (fun i h=>h.IsTupleIter it a i)where
 mem:=by simp
 obj:=fun i h st b hb=>by
  have e:b=it:=by simpa using hb
  subst e;obtain⟨o,e,c,d⟩:=st;exact⟨o,e,fun v z=>by rw[d]at z;cases z⟩
 keep:=fun i h h' st k=>st.at fun o e=>k it (by simp) o e;item:=by intro X hP hw hK hc i pins s σ H E I hf st hg;subst hP hw hK;obtain⟨xs,x,hq,hx⟩:=hg;obtain⟨its,rv,p,hz⟩:=I.tuple hq;obtain⟨u,hu,ru⟩:=rv.get hx;obtain⟨f0,f1,f2,f3,f4,f5⟩:=hf it (by simp);refine wpAny_pyNext_tuple_item st (show s.heap.IsTuple a its.toArray from p) (x:=u) (by simpa using hu) fun h' st' sb=>?_;have I1:Inv X pins σ H {s with heap:=h'}:=I.turned (t':=s.toks) (fun b o hb e=>(sb.2 b hb).trans e) f0 f1 f3 f4 f5;obtain⟨o,e,c,d⟩:=id st';exact⟨u,rfl,Cr (s:={s with heap:=h'}) e c d (by decide) ⟨x,H,I1,ru,⟨rfl,fun ys hy=>by rw[I.j8 hy hq];exact hx⟩,st',fun b hb=>(hf b hb).1⟩⟩
 done:=by intro X hP hw hK hc i pins s σ H E I hf st hg;subst hP hw hK;obtain⟨xs,hq,hx⟩:=hg;obtain⟨its,rv,p,hz⟩:=I.tuple hq;obtain⟨f0,f1,f2,f3,f4,f5⟩:=hf it (by simp);have hl:=rv.length;exact wpAny_pyNext_tuple_end (I.ok.hd hc) st (show s.heap.IsTuple a its.toArray from p) (by simp;omega) fun h' eb=>⟨rfl,I.turned (t':=s.toks) (fun b o hb e=>eb b o hb e) f0 f1 f3 f4 f5⟩
 self:=fun _ _ _ _ _ st h=>wpAny_pyIter_tupleiter st h
theorem zg{P:Program}(it:Addr)(lo:Int)(n:Nat):Turn P w K tg (Vb lo n) [it] it (fun i h=>IsRangeIter h it (lo+(i:Nat)*1) ((n:Int)-(i:Nat)) 1)where
 mem:=by simp
 obj:=fun i h st b hb=>by
  have e:b=it:=by simpa using hb
  subst e;exact⟨_,st,fun v z=>by have z':Data.fields _=Data.cell v:=z;cases z'⟩
 keep:=fun i h h' st k=>k it (by simp) _ st;item:=by intro X hP hw hK hc i pins s σ H E I hf st hg;subst hP hw hK;obtain⟨f0,f1,f2,f3,f4,f5⟩:=hf it (by simp);have W:=Walks.range (prog:=X.prog) (w:=X.w) (I.ok.hd hc) it lo 1 n;refine W.item i s _ _ hg st fun v h' tk hv st' kk=>?_;obtain⟨t,rfl⟩:=hv;have I1:Inv X pins σ H {s with heap:=h',toks:=tk}:=I.turned (fun b o hb e=>kk b o (by simpa using hb) e) f0 f1 f3 f4 f5;refine⟨_,rfl,Cr (s:={s with heap:=h',toks:=tk}) (n:="range_iterator") st' rfl rfl (by decide) ⟨.int (lo+i),H,I1,⟨t,?_⟩,⟨rfl,rfl⟩,st',fun b hb=>(hf b hb).1⟩⟩;rw[mul_one]
 done:=by intro X hP hw hK hc i pins s σ H E I hf st hg;subst hP hw hK;obtain⟨f0,f1,f2,f3,f4,f5⟩:=hf it (by simp);exact wpAny_pyNext_range_end (I.ok.hd hc) st (by have:n<=i:=hg;omega) fun h' eb=>⟨rfl,I.turned (t':=s.toks) (fun b o hb e=>eb b o hb e) f0 f1 f3 f4 f5⟩
 self:=fun _ _ _ _ _ st h=>wpAny_pyIter_rangeiter st h
section
variable{X:Cx}{tg:Expr}
theorem wG{σ:St}{R:It->Hp->Prop}{E:Value->Shared->Prop}{lo hi:Int}{t u v:Tok}{tk:Nat}(I:Inv X pins σ H s)(h1:-(2^62)<=lo)(h2:lo<2^62)(h3:-(2^62)<=hi)(h4:hi<2^62)(q:R (Vb lo (hi-lo).toNat) H):wpAny (model X.prog X.w) X.A (pyIter (.ref s.heap.objs.size)) (PIE X pins σ tg R) E {s with heap:=s.heap.push {cls:=.type "range",data:=.fields #[.int lo t,.int hi u,.int 1 v]},toks:=tk}:=by
 refine wpAny_pyIter_range (IsRange.new ..) (small_one h1 h2 h3 h4) ?_;have I1:Inv X pins σ H {s with heap:=s.heap.push {cls:=.type "range",data:=.fields #[.int lo t,.int hi u,.int 1 v]},toks:=tk}:=I.kept fun b o e=>dC e;refine⟨(s.heap.push {cls:=.type "range",data:=.fields #[.int lo t,.int hi u,.int 1 v]}).objs.size,[(s.heap.push {cls:=.type "range",data:=.fields #[.int lo t,.int hi u,.int 1 v]}).objs.size],_,_,H,rfl,I1.kept (t':=tk) fun b o e=>dC e,zg _ lo (hi-lo).toNat,?_,fun b hb=>?_,q⟩
 . have e1:lo+((0:Nat):Int)*1=lo:=by simp
   have e2:(((hi-lo).toNat:Nat):Int)-((0:Nat):Int)=Builtin.Range.rangeSize lo hi 1:=by rw[rangeSize_one];split<;>omega
   show IsRangeIter _ _ (lo+((0:Nat):Int)*1) ((((hi-lo).toNat:Nat):Int)-((0:Nat):Int)) 1;rw[e1,e2];exact get?_push_size _ rfl
 . have e:b=(s.heap.push {cls:=.type "range",data:=.fields #[.int lo t,.int hi u,.int 1 v]}).objs.size:=by simpa using hb
   subst e;exact I1.yw (dh) (I1.hok.fresh (dh))
def YD(ta:TA):TI:=fun σ H R=>ta σ H fun vs H1=>∃j:Int,vs=[.int j]/\-(2^62)<=j/\j<2^62/\R (Vb 0 j.toNat) H1
def XM(ta:TA):TI:=fun σ H R=>ta σ H fun vs H1=>∃i j:Int,vs=[.int i,.int j]/\(-(2^62)<=i/\i<2^62/\-(2^62)<=j/\j<2^62)/\R (Vb i (j-i).toNat) H1
theorem ue{a:Expr}{ta:TA}{p:Pos}(hg:Gl X "range")(hm:X.mg "range"=none)(ha:PA X [a] ta)(hs:starEach [a] X.env=[(false,eval a X.env)]:=by rfl):PI X tg (.Call (.Name "range" p) [a] [] pos) (YD ta):=by intro pins s σ H R I h;refine Call_ (iM I hg hm boot_range (PyProof.Rows.callWith_type1 (bR (ha pos pins s σ H _ I h) fun us s1⟨vs,H1,I1,r1,q1⟩=>?_) hs rfl));obtain⟨j,e,q1,q2,q⟩:=q1;subst e;cases r1 with|cons r rr=>cases rr;obtain⟨t,rfl⟩:=r;exact call_range_1 (wG I1 (by omega) (by omega) q1 q2 (by simpa using q))
theorem CV{a b:Expr}{ta:TA}{p:Pos}(hg:Gl X "range")(hm:X.mg "range"=none)(ha:PA X [a,b] ta)(hs:starEach [a,b] X.env=[(false,eval a X.env),(false,eval b X.env)]:=by rfl)(hs2:starEach [b] X.env=[(false,eval b X.env)]:=by rfl):PI X tg (.Call (.Name "range" p) [a,b] [] pos) (XM ta):=by intro pins s σ H R I h;refine Call_ (iM I hg hm boot_range (PyProof.Rows.callWith_type1 (bR (ha pos pins s σ H _ I h) fun us s1⟨vs,H1,I1,r1,q1⟩=>?_) (by rw[hs,hs2]) (by rw[hs2];rfl)));obtain⟨i,j,e,⟨q1,q2,q3,q4⟩,q⟩:=q1;subst e;cases r1 with|cons r rr=>cases rr with|cons r' rr=>cases rr;obtain⟨t,rfl⟩:=r;obtain⟨t',rfl⟩:=r';exact call_range_2 (wG I1 q1 q2 q3 q4 q)
def aeM(wi:TI)(g:TG)(tb:TS):TS:=fun D σ H=>wi σ H fun J H1=>∃W:Nat->Nat->St->Hp->Prop,(∃m,W 0 m σ H1)/\∀i m σ H,W i m σ H->(J.stop i H/\D.nx σ H)\/(J.go i H/\∃N:St->Hp->Prop,(∀σ' H',N σ' H'->∃m',m'<m/\W (i+1) m' σ' H')/\∀x H',J.JC i H x H'->g x σ H' fun σ2 H2=>tb {D with nx:=N,ct:=N,bk:=D.nx} σ2 H2)
noncomputable def qp(fp:List Addr)(h:Heap):List (Addr×Obj):=fp.filterMap fun b=>(h.get? b).map fun o=>(b,o)
theorem iQ{fp:List Addr}{b:Addr}{o:Obj}(hb:b∈fp)(e:h.get? b=some o):(b,o)∈qp fp h:=List.mem_filterMap.mpr ⟨b,hb,by rw[e];rfl⟩
theorem Ed{fp:List Addr}{p:Addr×Obj}(hp:p∈qp fp h):p.1∈fp/\h.get? p.1=some p.2:=by obtain⟨b,hb,e⟩:=List.mem_filterMap.mp hp;cases q:h.get? b with|none=>rw[q]at e;cases e|some o=>rw[q]at e;have e':(b,o)=p:=Option.some.inj e;subst e';exact⟨hb,q⟩
theorem Inv.pinned{σ:St}{fp:List Addr}(I:Inv X pins σ H s)(hf:∀b∈fp,nY X pins H b)(ho:∀b∈fp,∃o,s.heap.get? b=some o/\∀v,o.data≠.cell v):Inv X (pins++qp fp s.heap) σ H s:=I.BP fun p hp=>(mem_append.mp hp).elim (fun z=>I.pin p (mem_append_right _ z)) fun z=>by obtain⟨hb,e⟩:=Ed z;obtain⟨f0,f1,f2,_⟩:=hf p.1 hb;obtain⟨o,e',d⟩:=ho p.1 hb;rw[e]at e';cases e';exact⟨e,f0,f1,f2,d⟩
theorem Inv.mC{pl:List (Addr×Obj)}{σ:St}(I:Inv X (pins++pl) σ H s):Inv X pins σ H s:=I.BP fun p hp=>I.pin p (mem_append_right _ (List.mem_append_left _ hp))
theorem Hf{iter:Expr}{body:List Stmt}{wi:TI}{g:TG}{tb:TS}(hp:PassesOwn (model X.prog X.w) X.A X.env X.xe)(hc:X.calm=true)(hi:PI X tg iter wi)(hg:PG X tg g)(hb:wI X body tb)(hs:∀x,foldedSetIterable iter X.env x=pure x:=by intro _;rfl):PS X (.For tg iter body [] pos) (aeM wi g tb):=by
 intro pins s σ H D I h;refine wpAny_For (bR (hi pins s σ H _ I h) fun v s1 h1=>bR h1 fun itv s2 h2=>?_) hs;obtain⟨it,fp,tn,J,H2,e,I2,T,st2,f2,W,⟨m0,w0⟩,turn⟩:=h2;subst e--what stays true of the iterator's objects through the loop
 have stat:∀{H':Hp},(∀b∈fp,H' b=none)->∀b∈fp,nY X pins H' b:=fun hn b hb=>⟨hn b hb,(f2 b hb).2⟩;refine codeAny_forLoop_any (fun n s'=>∃i σ' H',Inv X pins σ' H' s'/\tn i s'.heap/\(∀b∈fp,H' b=none)/\W i n σ' H') ?_ m0 ⟨0,σ,H2,I2,st2,fun b hb=>(f2 b hb).1,w0⟩;rintro n s3⟨i,σ3,H3,I3,st3,fr3,w3⟩;rcases turn i n σ3 H3 w3 with⟨stop,qn⟩|⟨go,N,hN,step⟩;.refine wpAny_passesOwn hp (bR (T.done X rfl rfl rfl hc i pins s3 σ3 H3 X.xe I3 (stat fr3) st3 stop) fun r s4⟨hr,I4⟩=>?_);subst hr;exact wpAny_execs_nil ⟨σ3,H3,I4,qn⟩
 . refine wpAny_passesOwn hp (bR (T.item X rfl rfl rfl hc i pins s3 σ3 H3 X.xe I3 (stat fr3) st3 go) fun r s4⟨u,hr,h4⟩=>?_);subst hr;refine wpAny_passesOwn hp (bR h4 fun _ s5⟨x,H5,I5,r5,y5,st5,fr5⟩=>?_);have I5':=I5.pinned (stat fr5) (T.obj _ _ st5);refine wpAny_passesOwn hp (bR (hg _ s5 σ3 H5 x u _ I5' r5 (step x H5 y5)) fun _ s6⟨σ6,H6,I6,q6⟩=>?_);refine wpAny_passesOwn hp (bR (hb _ s6 σ6 H6 _ I6 q6) fun f s7 q7=>?_);have again:∀{σ7:St}{H7:Hp},Inv X (pins++qp fp s5.heap) σ7 H7 s7->N σ7 H7->∃m,m<n/\∃i σ' H',Inv X pins σ' H' s7/\tn i s7.heap/\(∀b∈fp,H' b=none)/\W i m σ' H':=fun{σ7 H7}I7 n7=>by obtain⟨m',hm,w7⟩:=hN σ7 H7 n7;refine⟨m',hm,i+1,σ7,H7,I7.mC,T.keep _ _ _ st5 fun b hb o e=>(I7.pin (b,o) (mem_append_right _ (mem_append_right _ (iQ hb e)))).1,fun b hb=>?_,w7⟩;obtain⟨o,e,d⟩:=T.obj _ _ st5 b hb;exact(I7.pin (b,o) (mem_append_right _ (mem_append_right _ (iQ hb e)))).2.1
   cases f with|next=>obtain⟨σ7,H7,I7,n7⟩:=q7;exact again I7 n7|cont=>obtain⟨σ7,H7,I7,n7⟩:=q7;exact again I7 n7|brk=>obtain⟨σ7,H7,I7,q7⟩:=q7;exact⟨σ7,H7,I7.mC,q7⟩|ret v=>obtain⟨x7,σ7,H7,I7,r7,q7⟩:=q7;exact⟨x7,σ7,H7,I7.mC,r7,q7⟩
end
abbrev R2:=V->V->Hp->VK->Prop
def fU(X:Cx)(f:Value->Value->Sem Value)(r:R2):Prop:=∀(pins:List (Addr × Obj))(s:Shared)(σ:St)(H:Hp)(x y:V)(v u:Value)(Q:VK),Inv X pins σ H s->RelV x v->RelV y u->r x y H Q->wpAny (model X.prog X.w) X.A (f v u) (EP X pins σ Q) X.xe s
def UnR(X:Cx)(f:Value->Sem Value)(r:V->Hp->VK->Prop):Prop:=∀(pins:List (Addr × Obj))(s:Shared)(σ:St)(H:Hp)(x:V)(v:Value)(Q:VK),Inv X pins σ H s->RelV x v->r x H Q->wpAny (model X.prog X.w) X.A (f v) (EP X pins σ Q) X.xe s
def dz(X:Cx)(f:Value)(r:List V->Hp->VK->Prop):Prop:=∀(pins:List (Addr × Obj))(s:Shared)(σ:St)(H:Hp)(xs:List V)(us:List Value)(Q:VK),Inv X pins σ H s->Vals xs us->r xs H Q->wpAny (model X.prog X.w) X.A (call f us) (EP X pins σ Q) X.xe s
def QS(r:R2)(ta tb:TE):TE:=fun σ H Q=>ta σ H fun x H1=>tb σ H1 fun y H2=>r x y H2 Q
def tUn(r:V->Hp->VK->Prop)(ta:TE):TE:=fun σ H Q=>ta σ H fun x H1=>r x H1 Q
def rI(C:Int->Int->Prop)(g:Int->Int->V):R2:=fun x y H Q=>∃i j,x=.int i/\y=.int j/\C i j/\Q (g i j) H
def JZ(g:Int->Int->V):R2:=fun x y H Q=>∃i j,x=.int i/\y=.int j/\Q (g i j) H
def rU(g:Int->V):V->Hp->VK->Prop:=fun x H Q=>∃i,x=.int i/\Q (g i) H
section
variable{X:Cx}{a b c:Expr}{ta tb tc:TE}{pos:Pos}
theorem R1(ha:PE X a ta)(hb:PE X b tb){σ:St}{R:V->V->Hp->Prop}(I:Inv X pins σ H s)(h:ta σ H fun x H1=>tb σ H1 fun y H2=>R x y H2){Q:Value->Shared->Prop}{f:Value->Value->Sem Value}(hf:∀v u s2 x y H2,Inv X pins σ H2 s2->RelV x v->RelV y u->R x y H2->wpAny (model X.prog X.w) X.A (f v u) Q X.xe s2):wpAny (model X.prog X.w) X.A (eval a X.env) (fun v s₁=>wpAny (model X.prog X.w) X.A (eval b X.env) (fun u s₂=>wpAny (model X.prog X.w) X.A (f v u) Q X.xe s₂) X.xe s₁) X.xe s:=by refine bR (ha pins s σ H _ I h) fun v s1⟨x,H1,I1,r1,q1⟩=>?_;refine bR (hb pins s1 σ H1 _ I1 q1) fun u s2⟨y,H2,I2,r2,q2⟩=>?_;exact hf v u s2 x y H2 I2 r1 r2 q2
theorem XJ{op:Operator}{r:R2}(ho:fU X (binaryOp op) r)(ha:PE X a ta)(hb:PE X b tb):PE X (.BinOp a op b pos) (QS r ta tb):=by intro pins s σ H Q I h;exact wpAny_BinOp (R1 ha hb I h fun v u s2 x y H2 I2 rx ry q=>ho pins s2 σ H2 x y v u Q I2 rx ry q)
theorem YH{op:UnaryOp}{r:V->Hp->VK->Prop}(ho:UnR X (unaryOp op) r)(ha:PE X a ta):PE X (.UnaryOp op a pos) (tUn r ta):=by intro pins s σ H Q I h;exact UnaryOp_ (bR (ha pins s σ H _ I h) fun v s1⟨x,H1,I1,r1,q1⟩=>ho pins s1 σ H1 x v Q I1 r1 q1)
theorem opI{f:Value->Value->Sem Value}{C:Int->Int->Prop}{g:Int->Int->Int}(rule:∀(i j:Int)(t u:Tok)(s:Shared)(Q:Value->Shared->Prop)(E:Value->Shared->Prop),C i j->Q (.int (g i j) s.toks) {s with toks:=s.toks+1}->wpAny (model X.prog X.w) X.A (f (.int i t) (.int j u)) Q E s):fU X f (rI C fun i j=>.int (g i j)):=by intro pins s σ H x y v u Q I rx ry h;obtain⟨i,j,rfl,rfl,hc,q⟩:=h;obtain⟨t,rfl⟩:=rx;obtain⟨t',rfl⟩:=ry;exact rule i j t t' s _ _ hc ⟨.int (g i j),H,I.tok _,⟨_,rfl⟩,q⟩
theorem Ze{f:Value->Value->Sem Value}{g:Int->Int->Int}(rule:∀(i j:Int)(t u:Tok)(s:Shared)(Q:Value->Shared->Prop)(E:Value->Shared->Prop),Q (.int (g i j) s.toks) {s with toks:=s.toks+1}->wpAny (model X.prog X.w) X.A (f (.int i t) (.int j u)) Q E s):fU X f (JZ fun i j=>.int (g i j)):=by intro pins s σ H x y v u Q I rx ry h;obtain⟨i,j,rfl,rfl,q⟩:=h;obtain⟨t,rfl⟩:=rx;obtain⟨t',rfl⟩:=ry;exact rule i j t t' s _ _ ⟨.int (g i j),H,I.tok _,⟨_,rfl⟩,q⟩
theorem Lw{f:Value->Value->Sem Value}{g:Int->Int->Bool}(rule:∀(i j:Int)(t u:Tok)(s:Shared)(Q:Value->Shared->Prop)(E:Value->Shared->Prop),Q (.bool (g i j)) s->wpAny (model X.prog X.w) X.A (f (.int i t) (.int j u)) Q E s):fU X f (JZ fun i j=>.bl (g i j)):=by intro pins s σ H x y v u Q I rx ry h;obtain⟨i,j,rfl,rfl,q⟩:=h;obtain⟨t,rfl⟩:=rx;obtain⟨t',rfl⟩:=ry;exact rule i j t t' s _ _ ⟨.bl (g i j),H,I,rfl,q⟩
def acL(i j:Int):Prop:=0<=j/\j<=1000000/\i.natAbs<2^64
def RZ(i j:Int):Prop:=(-(2^64)<i/\i<2^64)\/(-(2^64)<j/\j<2^64)
theorem RZ.ok{i j:Int}(h:RZ i j):IntMulOk i j:=by
 rcases h with⟨h1,h2⟩|⟨h1,h2⟩;.exact .of_left (intBits_le_64 h1 h2)
 .exact .of_right (intBits_le_64 h1 h2)
theorem RT:fU X (binaryOp .Add) (JZ fun i j=>.int (i+j)):=Ze fun _ _ _ _ _ _ _ q=>add_int q
theorem Tt:fU X (binaryOp .Sub) (JZ fun i j=>.int (i-j)):=Ze fun _ _ _ _ _ _ _ q=>sub_int q
theorem RV:fU X (binaryOp .Mult) (rI RZ fun i j=>.int (i*j)):=opI fun _ _ _ _ _ _ _ hc q=>mul_int q hc.ok
theorem QL:fU X (binaryOp .Mod) (rI (fun _ j=>0<j) fun i j=>.int (i%j)):=opI fun i j _ _ _ _ _ hc q=>by have h1:(0:Int)<j:=hc;exact mod_int' (by omega) (by rw[Int.fmod_eq_emod_of_nonneg i (by omega)];exact q)
theorem TF:fU X (binaryOp .Pow) (rI acL fun i j=>.int (i^j.toNat)):=opI fun _ _ _ _ _ _ _ hc q=>pow_int_small hc.1 hc.2.1 hc.2.2 q
theorem unI{f:Value->Sem Value}{g:Int->Int}(rule:∀(i:Int)(t:Tok)(s:Shared)(Q:Value->Shared->Prop)(E:Value->Shared->Prop),Q (.int (g i) s.toks) {s with toks:=s.toks+1}->wpAny (model X.prog X.w) X.A (f (.int i t)) Q E s):UnR X f (rU fun i=>.int (g i)):=by intro pins s σ H x v Q I rx h;obtain⟨i,rfl,q⟩:=h;obtain⟨t,rfl⟩:=rx;exact rule i t s _ _ ⟨.int (g i),H,I.tok _,⟨_,rfl⟩,q⟩
theorem Tu:UnR X (unaryOp .USub) (rU fun i=>.int (-i)):=unI fun _ _ _ _ _ q=>neg_int q
end
section
variable{X:Cx}{a b c:Expr}{ta tb tc:TE}{pos:Pos}
theorem Rj{σ:St}{Q:VK}{k k':Bool}(I:Inv X pins σ H s)(q:Q (.bl k) H)(e:k=k'):EP X pins σ Q (.bool k') s:=by subst e;exact⟨.bl k,H,I,rfl,q⟩
theorem Yj:fU X (compareOp .Lt) (JZ fun i j=>.bl (decide (i<j))):=Lw fun _ _ _ _ _ _ _ q=>lt_int q
theorem Y5:fU X (compareOp .LtE) (JZ fun i j=>.bl (decide (i<=j))):=Lw fun _ _ _ _ _ _ _ q=>le_int q
theorem YJ:fU X (compareOp .Gt) (JZ fun i j=>.bl (decide (j<i))):=Lw fun _ _ _ _ _ _ _ q=>gt_int q
theorem Xx:fU X (compareOp .GtE) (JZ fun i j=>.bl (decide (j<=i))):=Lw fun _ _ _ _ _ _ _ q=>ge_int q
theorem Kf:fU X (compareOp .IsNot) (fun x y H Q=>y=.non/\Q (.bl (!decide (x=.non))) H):=by intro pins s σ H x y v u Q I rx ry h;obtain⟨rfl,q⟩:=h;cases ry;refine isnot_none_gen (Rj I q ?_);cases x<;>first|(cases rx;rfl)|(obtain⟨t,rfl⟩:=rx;rfl)
theorem bM(b:Expr)(h:op≠.In:=by decide)(h2:op≠.NotIn:=by decide):behindInMarks op b=false:=by
 have e1:(op==CmpOp.In)=false:=by cases op<;>first|rfl|exact absurd rfl h
 have e2:(op==CmpOp.NotIn)=false:=by cases op<;>first|rfl|exact absurd rfl h2
 cases b<;>simp[behindInMarks,e1,e2]
theorem Kw{r:R2}(ho:fU X (compareOp op) r)(ha:PE X a ta)(hb:PE X b tb)(hm:behindInMarks op b=false):PE X (.Compare a [op] [b] pos) (QS r ta tb):=by intro pins s σ H Q I h;exact wpAny_Compare1 (R1 ha hb I h fun v u s2 x y H2 I2 rx ry q=>ho pins s2 σ H2 x y v u Q I2 rx ry q) hm
def XR(t:TE):TT:=fun σ H Q=>t σ H fun x H'=>∃k,x=.bl k/\Q k H'
theorem Bl{r:R2}(ho:fU X (compareOp op) r)(ha:PE X a ta)(hb:PE X b tb)(hm:behindInMarks op b=false):PT X (.Compare a [op] [b] pos) (XR (QS r ta tb)):=by intro pins s σ H Q I h;refine wpAny_isTrue_Compare1 (bR (ha pins s σ H _ I h) fun v s1⟨x,H1,I1,r1,q1⟩=>bR (hb pins s1 σ H1 _ I1 q1) fun u s2⟨y,H2,I2,r2,q2⟩=>bR (ho pins s2 σ H2 x y v u _ I2 r1 r2 q2) fun c s3⟨z,H3,I3,r3,k,e,q3⟩=>?_) hm;subst e;cases r3;exact wpAny_truthy_bool ⟨H3,I3,q3⟩
def Ud(r r':R2)(ta tb tc:TE):TE:=fun σ H Q=>ta σ H fun x H1=>tb σ H1 fun y H2=>r x y H2 fun z H3=>∃k,z=.bl k/\(if k=true then tc σ H3 fun w' H4=>r' y w' H4 Q else Q (.bl false) H3)
theorem Jl{op':CmpOp}{r r':R2}(ho:fU X (compareOp op) r)(ho':fU X (compareOp op') r')(ha:PE X a ta)(hb:PE X b tb)(hc:PE X c tc)(hm:lastMarks [op,op'] [b,c]=false:=by with_unfolding_all rfl):PE X (.Compare a [op,op'] [b,c] pos) (Ud r r' ta tb tc):=by intro pins s σ H Q I h;refine Compare_chain (bR (ha pins s σ H _ I h) fun v s1⟨x,H1,I1,r1,q1⟩=>chain_link (bR (hb pins s1 σ H1 _ I1 q1) fun u s2⟨y,H2,I2,r2,q2⟩=>bR (ho pins s2 σ H2 x y v u _ I2 r1 r2 q2) fun d s3⟨z,H3,I3,r3,k,e,q3⟩=>?_)) hm;subst e;cases r3;refine wpAny_truthy_bool ?_;cases k with|false=>exact ite_ff ⟨.bl false,H3,I3,rfl,q3⟩|true=>exact ite_tt (chain_last (bR (hc pins s3 σ H3 _ I3 q3) fun w' s4⟨z',H4,I4,r4,q4⟩=>ho' pins s4 σ H4 y z' u w' Q I4 r2 r4 q4))
theorem qX:(sizeLine:Nat)<2^63:=by rw[sizeLine_eq];decide
theorem zL:fU X (binaryOp .Add) (fun x y H Q=>∃i j,x=.str i/\y=.str j/\i.length+j.length<=sizeLine/\Q (.str (i++j)) H):=by intro pins s σ H x y v u Q I rx ry h;obtain⟨i,j,rfl,rfl,hz,q⟩:=h;obtain⟨t,rfl⟩:=rx;obtain⟨t',rfl⟩:=ry;exact add_str (fun t' tk=>⟨.str (i++j),H,I.tok _,⟨_,rfl⟩,q⟩) hz
theorem vals1{x:V}(r:Vals [x] us):∃u,us=[u]/\RelV x u:=by cases r with|cons r1 r2=>cases r2;exact⟨_,rfl,r1⟩
theorem vals2{x y:V}(r:Vals [x,y] us):∃u w',us=[u,w']/\RelV x u/\RelV y w':=by cases r with|cons r1 r2=>cases r2 with|cons r3 r4=>cases r4;exact⟨_,_,rfl,r1,r3⟩
theorem IV:dz X (.builtin "abs") (fun xs H Q=>∃i,xs=[.int i]/\Q (.int (if i<0 then-i else i)) H):=by intro pins s σ H xs us Q I r h;obtain⟨i,rfl,q⟩:=h;obtain⟨u,rfl,t,rfl⟩:=vals1 r;exact call_abs_int fun u tk=>⟨.int (if i<0 then-i else i),H,I.tok _,⟨_,rfl⟩,q⟩
theorem DK(hc:X.calm=true):dz X (.builtin "max") (fun xs H Q=>∃i j,xs=[.int i,.int j]/\Q (.int (if j>i then j else i)) H):=by
 intro pins s σ H xs us Q I r h;obtain⟨i,j,rfl,q⟩:=h;obtain⟨u,w',rfl,⟨t,rfl⟩,⟨t',rfl⟩⟩:=vals2 r;refine max_two_ints (I.ok.hd hc) fun h' tk k=>⟨_,H,I.kept k,?_,q⟩;by_cases hj:j>i;.rw[if_pos hj,if_pos hj];exact⟨_,rfl⟩
 .rw[if_neg hj,if_neg hj];exact⟨_,rfl⟩
theorem Et(hc:X.calm=true):dz X (.builtin "min") (fun xs H Q=>∃i j,xs=[.int i,.int j]/\Q (.int (if j<i then j else i)) H):=by
 intro pins s σ H xs us Q I r h;obtain⟨i,j,rfl,q⟩:=h;obtain⟨u,w',rfl,⟨t,rfl⟩,⟨t',rfl⟩⟩:=vals2 r;refine min_two_ints (I.ok.hd hc) fun h' tk k=>⟨_,H,I.kept k,?_,q⟩;by_cases hj:j<i;.rw[if_pos hj,if_pos hj];exact⟨_,rfl⟩
 .rw[if_neg hj,if_neg hj];exact⟨_,rfl⟩
end
theorem o6.some_of{v:V}{o:Option Value}(r:o6 (some v) o):∃u,o=some u/\RelV v u:=by cases o with|none=>exact(show False from r).elim|some u=>exact⟨u,rfl,r⟩
structure jF(k:Nat)(A:Around):Prop where
 hd:A.handled=none
 dp:A.depth+3*k+5<recursionLimit
 un:A.units+16*k+200<cLine
theorem jF.deeper{k:Nat}{A:Around}(r:jF (k+1) A)(env:Env):jF k (A.deeper env):=⟨r.hd,by have:=r.dp;show A.depth+1+3*k+5<_;omega,by have:=r.un;show A.units+3+16*k+200<_;omega⟩
theorem jF.depth{k:Nat}{A:Around}(r:jF k A):A.depth<recursionLimit:=by have:=r.dp;omega
def aep:TA:=fun _ H Q=>Q [] H
def YS(ta:TE)(tr:TA):TA:=fun σ H Q=>ta σ H fun x H1=>tr σ H1 fun xs H2=>Q (x::xs) H2
section
variable{X:Cx}{e:Expr}{es:List Expr}{te:TE}{t:TA}{pos:Pos}
theorem dH:PA X [] aep:=fun _ _ _ _ H Q I h=>Calls.spliced_nil ⟨[],H,I,.nil,h⟩
theorem bK(ha:PE X e te)(hr:PA X es t)(hs:starEach (e::es) X.env=(false,eval e X.env)::starEach es X.env:=by rfl):PA X (e::es) (YS te t):=by intro pos pins s σ H Q I h;rw[hs];show wpAny _ _ (spliced ((false,eval e X.env)::backTo pos (starEach es X.env))) _ _ s;refine Calls.spliced_cons (bR (ha pins s σ H _ I h) fun u s1⟨x,H1,I1,r1,q1⟩=>?_);exact bR (hr pos pins s1 σ H1 _ I1 q1) fun us s2⟨xs,H2,I2,r2,q2⟩=>⟨x::xs,H2,I2,.cons r1 r2,q2⟩
def adt(t:TA):TE:=fun σ H Q=>t σ H fun xs H1=>xs.length<=sizeLine/\∀p,H1 p=none->Q (.ref p) (upd H1 p (.tup xs))
def aeW(t:TA):TE:=fun σ H Q=>t σ H fun xs H1=>xs.length<=sizeLine/\∀p,H1 p=none->Q (.ref p) (upd H1 p (.lst xs))
theorem HX{x1}(h:PA X es t):PE X (.Tuple es x1 pos) (adt t):=by intro pins s σ H Q I hq;refine wpAny_Tuple_spliced (bR (h pos pins s σ H _ I hq) fun us s1⟨xs,H1,I1,r,z,q⟩=>⟨by rw[<-r.length];exact z,?_⟩);have hf:H1 s1.heap.objs.size=none:=I1.hok.fresh (dh);refine⟨.ref s1.heap.objs.size,upd H1 s1.heap.objs.size (.tup xs),I1.laid (t':=s1.toks) (fun b u e=>dC e) (dh) ?_,rfl,q _ hf⟩;exact⟨z,us,r,⟨_,get?_push_size _ rfl,rfl,_,rfl⟩⟩
theorem Rb(h:PA X es t):PE X (.List es pos) (aeW t):=by intro pins s σ H Q I hq;refine wpAny_List_spliced (bR (h pos pins s σ H _ I hq) fun us s1⟨xs,H1,I1,r,z,q⟩=>⟨by rw[<-r.length];exact z,?_⟩);have hf:H1 s1.heap.objs.size=none:=I1.hok.fresh (dh);refine⟨.ref s1.heap.objs.size,upd H1 s1.heap.objs.size (.lst xs),I1.laid (t':=s1.toks) (fun b u e=>dC e) (dh) ?_,rfl,q _ hf⟩;exact⟨z,us,0,r,get?_push_size _ rfl⟩
end
abbrev Sp:=List V->Hp->VK->XK->Prop
abbrev Ha:=List Env->Hp->Shared->XK->Value->Shared->Prop
structure La(P:Program)(w:World)(K:PySem.W.Frag)(mg:Str->Option Value)(base:Heap)(A:Around)(outer:List Env)(s:Shared)(H:Hp):Prop where
 frames:A.frames=some outer
 mod:Mod K mg base
 bs:∀b o,base.get? b=some o->s.heap.get? b=some o/\H b=none
 PX:base.objs.size<=s.heap.objs.size
 pW:s.heap.FunFrames base outer
 Wx:∀b∈frs outer,H b=none
 hok:mV P w H s.heap
 bare:AllBare s.gens
def CE(outer:List Env)(P:Program)(w:World)(H:Hp)(s:Shared)(Q:VK)(u:Value)(s':Shared):Prop:=∃v H',s'.os=s.os/\AllBare s'.gens/\Un (frs outer) [] H H' s.heap s'.heap/\mV P w H' s'.heap/\RelV v u/\Q v H'
def CR(CX:Ha)(outer:List Env)(P:Program)(w:World)(H:Hp)(s:Shared)(Q:VK)(E:XK)(r:Result)(s':Shared):Prop:=match r with|.ok (.ret u)=>CE outer P w H s Q u s'|.ok _=>False|.error e=>CX outer H s E e s'
structure m5(P:Program)(w:World)(K:PySem.W.Frag)(mg:Str->Option Value)(base:Heap)(CX:Ha)(k:Nat)(f:Addr)(fd:FuncData)(ps:List Str)(sp:Sp):Prop where
 len:∀vs H Q E,sp vs H Q E->vs.length=ps.length
 run:∀(A:Around)(outer:List Env)(s:Shared)(H:Hp)(args:Args)(us:List Value)(vs:List V)(Q:VK)(E:XK),jF k A->La P w K mg base A outer s H->BindsTo s fd args (ps.zip us)->Vals vs us->sp vs H Q E->codeAny (model P w) A (.call (.ref f) args) (CR CX outer P w H s Q E) s
section
variable{X:Cx}{pins:List (Addr×Obj)}{σ:St}{H:Hp}{s s':Shared}
theorem Inv.env0(I:Inv X pins σ H s):La X.prog X.w X.K X.mg X.base X.A X.stack s H:=⟨I.ok.frames,I.ok.mod,I.bs,le_trans I.ok.PX I.sz,I.stack,I.Bd,I.hok,I.bare⟩
theorem Inv.after{Q:VK}{u:Value}(I:Inv X pins σ H s)(h:CE X.stack X.prog X.w H s Q u s'):EP X pins σ Q u s':=by obtain⟨v,H',os,bare,un,hok,r,q⟩:=h;obtain⟨hh,g,d,t,os'⟩:=s';obtain rfl:os'=s.os:=os;exact⟨v,H',I.call (h':=hh) (g':=g) (d':=d) (t':=t) (ch:=[]) un hok bare (fun b z=>absurd z (by simp)),r,q⟩
end
def Yy(sp:Sp)(Qa:List V)(E:XK)(t:TA):TE:=fun σ H Q=>t σ H fun vs H1=>sp (vs++Qa) H1 Q E
def Binds(K:PySem.W.Frag)(fd:FuncData)(ps:List Str)(ds:List Value):Prop:=∀(s:Shared)(us:List Value),K.In s.heap->(us++ds).length=ps.length->BindsTo s fd ⟨us,[]⟩ (ps.zip (us++ds))
theorem Binds.all{fd:FuncData}{ps:List Str}(h:∀us:List Value,us.length=ps.length->bindArgs fd ⟨us,[]⟩=pure (ps.zip us)):Binds K fd ps []:=fun s us _ hl=>by rw[append_nil]at hl ⊢;exact .of_eq (h us hl)
def Passes(CX:Ha)(X:Cx)(E:XK):Prop:=∀(pins:List (Addr×Obj))(σ:St)(H:Hp)(s:Shared)(e:Value)(s':Shared),Inv X pins σ H s->CX X.stack H s E e s'->X.xe e s'
section
variable{X:Cx}{CX:Ha}{k:Nat}{f C:Addr}{fd:FuncData}{ps:List Str}{sp:Sp}{Qa:List V}{ds:List Value}{E:XK}{x m:Str}{p pos apos:Pos}{e o:Expr}{es:List Expr}{ta:TE}{t:TA}
theorem Tc{σ:St}{Q:VK}{vs:List V}(F:m5 X.prog X.w X.K X.mg X.base CX k f fd ps sp)(hr:jF k X.A)(hb:Binds X.K fd ps ds)(hd:Vals Qa ds)(hx:Passes CX X E)(I:Inv X pins σ H s)(r:Vals vs us)(h:sp (vs++Qa) H Q E):wpAny (model X.prog X.w) X.A (call (.ref f) us) (EP X pins σ Q) X.xe s:=by
 have r2:Vals (vs++Qa) (us++ds):=r.append hd;have hl:(us++ds).length=ps.length:=by rw[<-r2.length];exact F.len _ _ _ _ h
 refine wpAny_call (codeAny_mono (F.run X.A X.stack s H ⟨us,[]⟩ (us++ds) (vs++Qa) Q E hr I.env0 (hb s us I.Pu hl) r2 h) fun r s' hq=>?_);cases r with|error e=>exact hx pins σ H s e s' I hq|ok fl=>cases fl with|ret u=>exact I.after hq|next=>exact False.elim hq|brk=>exact False.elim hq|cont=>exact False.elim hq
theorem K7(F:m5 X.prog X.w X.K X.mg X.base CX k f fd ps sp)(hr:jF k X.A)(hg:Gl X x)(hm:X.mg x=some (.ref f))(hk:keepIn X.K (.ref f)=true)(hb:Binds X.K fd ps ds)(hd:Vals Qa ds)(hx:Passes CX X E)(ha:PA X (e::es) t)(hdb:(x==("__debug__":Str))=false:=by decide)(he:starEach (e::es) X.env=(false,eval e X.env)::starEach es X.env:=by rfl)(hpl:(backTo pos (starEach es X.env)).any (·.1)=false:=by rfl):PE X (.Call (.Name x p) (e::es) [] pos) (Yy sp Qa E t):=by intro pins s σ H Q I h;refine wpAny_Call_Name_kw (Bk I hg hm ?_ hdb);refine PySem.W.callWith_K (h₀:=X.base) I.ok.mod.oX hk (bR (ha pos pins s σ H _ I h) fun us s1⟨vs,H1,I1,r,q⟩=>⟨I1.Pu,?_⟩) he hpl;exact Tc F hr hb hd hx I1 r q
end
structure aH(N P:List Str)(sc:Scope):Prop where
 kind:sc.kind=.function
 co:sc.isCoroutine=false
 gen:sc.isGenerator=false
 nd:N.Nodup
 pre:N.take P.length=P
 par:∀x∈P,sc.names.lookup x=some .local\/sc.names.lookup x=some .cell
 UW:∀y∈sc.names,y.2≠.free
theorem sO{kindOf:Str->Option NameKind}{x:Str}:∀{binds:List (Str×Value)}{m:Str->Option Value},(∀v,(x,v)∉binds)->bindL kindOf binds m x=m x
 |[],_,_=>rfl|(n,v)::r,m,h=>by
   unfold bindL;rw[sO fun w hw=>h w (mem_cons_of_mem _ hw)];split
   . have:x≠n:=by rintro rfl;exact h v mem_cons_self
     simp[this]
   .rfl
theorem sZ{kindOf:Str->Option NameKind}{x:Str}:∀{binds:List (Str×Value)}{m:Str->Option Value},(∀v,(x,v)∉binds)->bindC kindOf binds m x=m x
 |[],_,_=>rfl|(n,v)::r,m,h=>by
   unfold bindC;rw[sZ fun w hw=>h w (mem_cons_of_mem _ hw)];split;.rfl
   . have:x≠n:=by rintro rfl;exact h v mem_cons_self
     simp[this]
theorem uh{kindOf:Str->Option NameKind}{x:Str}{v:Value}:∀{P:List Str}{vs:List Value}{i:Nat}{m:Str->Option Value},P.Nodup->P[i]?=some x->vs[i]?=some v->kindOf x=some .local->bindL kindOf (P.zip vs) m x=some v|[],_,_,_,_,h,_,_=>by simp at h|_::_,[],_,_,_,_,h,_=>by simp at h|p::P,w::vs,0,m,nd,h1,h2,hk=>by simp at h1 h2;subst h1;subst h2;show bindL kindOf ((p,w)::P.zip vs) m p=_;unfold bindL;rw[sO fun v hv=>(nodup_cons.mp nd).1 (of_mem_zip hv).1,if_pos hk];simp|p::P,w::vs,i+1,m,nd,h1,h2,hk=>by show bindL kindOf ((p,w)::P.zip vs) m x=_;unfold bindL;exact uh (i:=i) (nodup_cons.mp nd).2 (by simpa using h1) (by simpa using h2) hk
theorem tu{kindOf:Str->Option NameKind}{x:Str}{v:Value}:∀{P:List Str}{vs:List Value}{i:Nat}{m:Str->Option Value},P.Nodup->P[i]?=some x->vs[i]?=some v->kindOf x≠some .local->bindC kindOf (P.zip vs) m x=some v|[],_,_,_,_,h,_,_=>by simp at h|_::_,[],_,_,_,_,h,_=>by simp at h|p::P,w::vs,0,m,nd,h1,h2,hk=>by simp at h1 h2;subst h1;subst h2;show bindC kindOf ((p,w)::P.zip vs) m p=_;unfold bindC;rw[sZ fun v hv=>(nodup_cons.mp nd).1 (of_mem_zip hv).1,if_neg hk];simp|p::P,w::vs,i+1,m,nd,h1,h2,hk=>by show bindC kindOf ((p,w)::P.zip vs) m x=_;unfold bindC;exact tu (i:=i) (nodup_cons.mp nd).2 (by simpa using h1) (by simpa using h2) hk
noncomputable def start(N:List Str)(vs:List V):St:=vs.map some++replicate (N.length-vs.length) none
noncomputable def yH(CX:Ha)(P:Program)(w:World)(K:PySem.W.Frag)(mg:Str->Option Value)(base:Heap)(N:List Str)(qual:Str)(scope:Scope)(f:Addr)(cd:Value)(A:Around)(outer:List Env)(s:Shared)(H:Hp)(E:XK):Cx where prog:=P;w:=w;K:=K;mg:=mg;base:=base;A:=A.deeper (envOfC qual scope s.heap.objs.size f cd);N:=N;s₀:=s;H₀:=H;env:=envOfC qual scope s.heap.objs.size f cd;outer:=outer;stack:=envOfC qual scope s.heap.objs.size f cd::outer;ex:=[];calm:=true;fn:=fun _=>true;pn:=[];xe:=fun e s'=>wpAny (model P w) (A.deeper (envOfC qual scope s.heap.objs.size f cd)) (leaving (envOfC qual scope s.heap.objs.size f cd) e) (fun _ s''=>CX outer H s E e s'') (fun e' s''=>CX outer H s E e' s'') s'
theorem vO{sc:Scope}{n:Nat}{x:Str}(h:sc.names.lookup x=some .cell):∃c,(cellsFrom n sc.names []).lookup x=some c:=by have q:=PySem.W.cellsFrom_some sc.names n [] (.inl h);exact Option.isSome_iff_exists.mp q
theorem DX{CX:Ha}{P:Program}{mg:Str->Option Value}{base:Heap}{N ps:List Str}{qual:Str}{scope:Scope}{f:Addr}{cd:Value}{outer:List Env}{s1:Shared}{E:XK}{vs:List V}(S:aH N ps scope)(hd:A.handled=none)(e0:La P w K mg base A outer s H)(hl:vs.length=ps.length)(r:Vals vs us)(x:InCallC s s.heap.objs.size (bindL (envOfC qual scope s.heap.objs.size f cd).kindOf (ps.zip us) fun _=>none) (cellsFrom (s.heap.objs.size+1) scope.names []) (bindC (envOfC qual scope s.heap.objs.size f cd).kindOf (ps.zip us) fun _=>none) s1):Inv (yH CX P w K mg base N qual scope f cd A outer s H E) [] (start N vs) H s1:=by
 have hpl:ps.length<=N.length:=by have:=congrArg List.length S.pre;rw[length_take]at this;omega
 obtain⟨h1,tk,rfl,hk⟩:=x.done;have Zu:∀b:Addr,b∉(yH CX P w K mg base N qual scope f cd A outer s H E).ex:=fun b z=>absurd (show b∈([]:List Addr)from z) (by simp);refine⟨⟨e0.mod,S.kind,rfl,rfl,dh,fun y z c h1 h2=>?_,fun y hy=>?_,fun y c _ h=>?_,fun _=>hd,Around.frames_deeper e0.frames,.inr ⟨rfl,rfl⟩,fun b z=>absurd z (Zu b),e0.bs,e0.PX,fun b _ _=>Zu b,fun b z=>absurd z (Zu b),e0.pW,e0.Wx⟩,rfl,e0.bare,Un.kept hk,⟨_,x.toInCall.ns,fun i y v h1 h2 h3=>?_⟩,fun y c h=>⟨_,x.cell y c h⟩,e0.hok.fresh (dh),fun y c h=>?_,fun p hp=>absurd (show p∈([]:List (Addr×Obj))from hp) (by simp),e0.hok.kept hk,?_⟩;.exact name_of_addr x.apart (PySem.mem_of_lookup h1) (PySem.mem_of_lookup h2)
 . have hy:scope.names.lookup y=some .cell\/scope.names.lookup y=some .free:=hy;rcases hy with hy|hy;.exact vO hy
   .exact absurd rfl (S.UW _ (PySem.mem_of_lookup hy))
 .exact le_of_lt (x.above y c (PySem.mem_of_lookup h))
 . have hi:i<vs.length:=by
    unfold start at h2;by_cases hi:i<vs.length;.exact hi
    .rw[getElem?_append_right (by simpa using hi)]at h2;rw[List.getElem?_replicate]at h2;split at h2<;>cases h2
   have ha:vs[i]?=some v:=by unfold start at h2;rw[getElem?_append_left (by simpa using hi),getElem?_map]at h2;cases e:vs[i]?with|none=>rw[e]at h2;cases h2|some a=>rw[e]at h2;cases h2;rfl
   obtain⟨u,hu,rv⟩:=r.get ha;have hp:ps[i]?=some y:=by rw[<-S.pre,List.getElem?_take_of_lt (by omega)];exact h1
   have ndP:ps.Nodup:=by rw[<-S.pre];exact S.nd.sublist (List.take_sublist _ _)
   refine⟨u,rv,?_⟩;rcases S.par y (mem_of_getElem? hp)with k|k;.exact .inl ⟨k,uh ndP hp hu k⟩
   .obtain⟨c,e⟩:=vO (n:=s.heap.objs.size+1) k;refine .inr ⟨.inl k,c,e,?_⟩;have q:=x.cell y c e;rw[tu ndP hp hu (by show scope.names.lookup y≠_;rw[k];decide)]at q;exact q
 .exact e0.hok.fresh (le_of_lt (x.above y c (PySem.mem_of_lookup h)))
 .unfold start;show _=N.length;rw[length_append,length_map,List.length_replicate];omega
theorem WY{CX:Ha}{P:Program}{w:World}{K:PySem.W.Frag}{mg:Str->Option Value}{base:Heap}{k:Nat}{f:Addr}{name qual:Str}{params:Arguments}{body:List Stmt}{scope:Scope}{dV kV doc pm cdv ct oc:Value}{an od:Option Addr}{osl:Array (Option Value)}{N ps:List Str}{sp:Sp}(lk:K.lookup f=some ⟨oc,od,.func (PySem.W.fnOf name qual params body scope dV kV doc pm an cdv ct),osl⟩)(hcd:PySem.W.codeIn K cdv qual=true)(S:aH N ps scope)(len:∀vs H Q E,sp vs H Q E->vs.length=ps.length)(hbody:∀(A:Around)(outer:List Env)(s:Shared)(H:Hp)(vs:List V)(Q:VK)(E:XK),jF k (A.deeper (envOfC qual scope s.heap.objs.size f cdv))->sp vs H Q E->∃t,wI (yH CX P w K mg base N qual scope f cdv A outer s H E) body t/\t {nx:=fun _ H'=>Q .non H',rt:=Q} (start N vs) H):m5 P w K mg base CX (k+1) f (PySem.W.fnOf name qual params body scope dV kV doc pm an cdv ct) ps sp:=by
 refine⟨len,fun A outer s H args us vs Q E hr e0 hb r hsp=>?_⟩;have hl:=len _ _ _ _ hsp;have KX:K.In s.heap:=e0.mod.oX.keeps fun b o e=>(e0.bs b o e).1;have lim:s.heap.NoLimit:=e0.mod.nolimit.keeps fun b o e=>(e0.bs b o e).1;have hkind:∀y∈ps.zip us,scope.names.lookup y.1=some .local\/(scope.names.lookup y.1=some .cell/\((cellsFrom (s.heap.objs.size+1) scope.names []).lookup y.1).isSome=true):=fun⟨n,v⟩hy=>by
  rcases S.par n (of_mem_zip hy).1 with q|q;.exact .inl q
  .exact .inr ⟨q,PySem.W.cellsFrom_some _ _ _ (.inl q)⟩
 refine codeAny_call_function hr.depth (KX _ _ lk) rfl S.co S.gen rfl (PySem.W.codeRec_of KX hcd) (hb _ _ _ _ ?_);refine wpAny_newFunctionEnv_cells S.kind hkind fun env he s1 x=>?_;subst he;refine⟨lim.keeps x.toInCall.keep,codeAny_func ?_⟩;obtain⟨t,ht,hq⟩:=hbody A outer s H vs Q E (hr.deeper _) hsp;have I:Inv (yH CX P w K mg base N qual scope f cdv A outer s H E) [] (start N vs) H s1:=DX S hr.hd e0 hl r x;refine wpAny_mono (ht [] s1 (start N vs) H _ I hq) (fun fl s' hs=>?_) fun e s' hs=>hs;have fin:∀{σ':St}{H':Hp}{v:V}{u:Value},Inv (yH CX P w K mg base N qual scope f cdv A outer s H E) [] σ' H' s'->RelV v u->Q v H'->CE outer P w H s Q u s':=fun{σ' H' v u}J rv q=>⟨v,H',J.os,J.bare,J.base,J.hok,rv,q⟩;cases fl with|ret u=>obtain⟨v,σ',H',J,rv,q⟩:=hs;exact fin J rv q|next=>obtain⟨σ',H',J,q⟩:=hs;exact fin (v:=V.non) (u:=Value.none) J rfl q|brk=>obtain⟨_,_,_,q⟩:=hs;exact False.elim q|cont=>obtain⟨_,_,_,q⟩:=hs;exact False.elim q
section
variable{X:Cx}{x:Str}{p pos:Pos}{e:Expr}{es:List Expr}{t:TA}{id T:String}{r:List V->Hp->VK->Prop}
def tCB(r:List V->Hp->VK->Prop)(t:TA):TE:=fun σ H Q=>t σ H fun vs H1=>r vs H1 Q
theorem dJ(hc:dz X (.builtin id) r)(hg:Gl X x)(hm:X.mg x=none)(hv:bootBuiltins x=some (.builtin id))(ha:PA X (e::es) t)(hn:x≠"__name__":=by decide)(hdb:(x==("__debug__":Str))=false:=by decide)(he:starEach (e::es) X.env=(false,eval e X.env)::starEach es X.env:=by rfl)(hpl:(backTo pos (starEach es X.env)).any (·.1)=false:=by rfl):PE X (.Call (.Name x p) (e::es) [] pos) (tCB r t):=by intro pins s σ H Q I h;refine wpAny_Call_Name_kw (iM I hg hm hv ?_ hn hdb);exact PyProof.Rows.callWith_builtin1 (bR (ha pos pins s σ H _ I h) fun us s1⟨vs,H1,I1,r1,q1⟩=>hc pins s1 σ H1 vs us Q I1 r1 q1) he hpl
theorem mX(hc:dz X (.type T) r)(hg:Gl X x)(hm:X.mg x=none)(hv:bootBuiltins x=some (.type T))(ha:PA X (e::es) t)(hn:x≠"__name__":=by decide)(hdb:(x==("__debug__":Str))=false:=by decide)(he:starEach (e::es) X.env=(false,eval e X.env)::starEach es X.env:=by rfl)(hpl:(backTo pos (starEach es X.env)).any (·.1)=false:=by rfl):PE X (.Call (.Name x p) (e::es) [] pos) (tCB r t):=by intro pins s σ H Q I h;refine wpAny_Call_Name_kw (iM I hg hm hv ?_ hn hdb);exact PyProof.Rows.callWith_type1 (bR (ha pos pins s σ H _ I h) fun us s1⟨vs,H1,I1,r1,q1⟩=>hc pins s1 σ H1 vs us Q I1 r1 q1) he hpl
end
end L2
namespace HT
open PySem PyProof.Rows
section
variable{prog:Program}{w:World}{A:Around}{E:Value->Shared->Prop}{s:Shared}
theorem Lq{t b:Addr}{vs ws:List Value}{Q:Value->Shared->Prop}(ht:IsTup s.heap t vs.toArray)(hb:IsTup s.heap b ws.toArray)(hv:vs≠[])(h1:ws=[]->Q (.ref t) s)(h2:ws≠[]->Q (.ref s.heap.objs.size) {s with heap:=s.heap.push {cls:=.type "tuple",data:=.seq (vs++ws).toArray}})(hsz:vs.length+ws.length<=sizeLine):wpAny (model prog w) A (binaryOp .Add (.ref t) (.ref b)) Q E s:=by
 obtain⟨⟨cls,dd,data,sl⟩,ho,hc,n,hd⟩:=id ht;obtain⟨⟨cls2,dd2,data2,sl2⟩,ho2,hc2,n2,hd2⟩:=id hb;simp only at hc hd hc2 hd2;subst hc hd hc2 hd2;have e:vs.toArray++ws.toArray=(vs++ws).toArray:=by simp
 by_cases hw:ws=[];.exact concat_meets ⟨_,ho,rfl⟩ ⟨_,ho2,rfl⟩ noFill_tuple_add seq_tuple_add slot_tuple_add entry_tuple_add (args_tuple_add_2 _ _) (tuple_addW1 t b vs.toArray ws.toArray n n2 dd dd2 sl sl2 (by simpa using hv) (by simp[hw])) ⟨ho,ho2,h1 hw⟩
 .refine concat_meets ⟨_,ho,rfl⟩ ⟨_,ho2,rfl⟩ noFill_tuple_add seq_tuple_add slot_tuple_add entry_tuple_add (args_tuple_add_2 _ _) (tuple_addW2 t b vs.toArray ws.toArray n n2 dd dd2 sl sl2 (by simpa using hv) (by simpa using hw) (by rw[size_toArray,size_toArray];exact hsz)) ⟨ho,ho2,?_⟩;rw[e];exact h2 hw
noncomputable def dF(n d:Nat):Option Int->Nat|none=>d|some v=>if v<0 then(v+(n:Int)).toNat else min v.toNat n
theorem T3(n d:Nat)(hd:d<=n)(o:Option Int):dF n d o<=n:=by cases o with|none=>exact hd|some v=>
   show(if v<0 then(v+(n:Int)).toNat else min v.toNat n)<=n;by_cases hv:v<0;.rw[if_pos hv];omega
   .rw[if_neg hv];exact Nat.min_le_right _ _
theorem Bt(v:Int)(n d:Nat):(if v<0 then max (v+(n:Int)) 0 else min v (n:Int))=((dF n d (some v):Nat):Int):=by
 show(if v<0 then max (v+(n:Int)) 0 else min v (n:Int))=(((if v<0 then(v+(n:Int)).toNat else min v.toNat n):Nat):Int);by_cases hv:v<0;.simp only[if_pos hv];omega
 .simp only[if_neg hv];omega
theorem zN(lo hi:Option Int)(n:Nat):sliceAdjust lo hi 1 (n:Int)=(((dF n 0 lo:Nat):Int),((dF n n hi:Nat):Int)):=by
 have h1:¬((1:Int)<0):=by omega
 unfold sliceAdjust;simp only[h1,if_false];refine Prod.ext ?_ ?_;.cases lo with|none=>rfl|some v=>exact Bt v n 0
 .cases hi with|none=>rfl|some v=>exact Bt v n n
theorem zM(i j:Nat):slicePlaces (i:Int) (j:Int) 1=j-i:=by
 unfold slicePlaces;have h1:(1:Int)>0:=by omega
 simp only[h1,if_true,Int.ediv_one];split<;>omega
theorem qj{v:Value}{o:Option Int}{Q:Option Int->Shared->Prop}(p:IsPart v o)(h:Q o s):wpAny (model prog w) A (Builtin.Slice.slicePartIndex v) Q E s:=by cases p with|none=>exact slicePart_none h|int i t=>exact slicePart_int h
theorem il{sl:Addr}{vl vu:Value}{lo hi:Option Int}{n:Nat}{Q:Int×Int×Nat->Shared->Prop}(hs:s.heap.IsSliceOf sl vl vu .none)(pl:IsPart vl lo)(pu:IsPart vu hi)(h:Q (((dF n 0 lo:Nat):Int),1,dF n n hi-dF n 0 lo) s):wpAny (model prog w) A (sliceApplied (.ref sl) (pure (n:Int))) Q E s:=by obtain⟨os,hos,hcs,hds⟩:=id hs;unfold sliceApplied Builtin.Slice.sliceFields;refine wpAny_bind (wpAny_bind (wpAny_field hos hds (x:=vl) rfl (wpAny_bind (wpAny_field hos hds (x:=vu) rfl (wpAny_bind (wpAny_field hos hds (x:=.none) rfl (wpAny_pure ?_)))))));refine wpAny_bind (slicePart_none ?_);show wpAny _ _ (if((1:Int)==0)=true then _ else _) _ _ s;rw[if_neg (by decide)];refine wpAny_bind (qj pl (wpAny_bind (qj pu (wpAny_bind (wpAny_pure ?_)))));show wpAny _ _ (match sliceAdjust lo hi 1 (n:Int)with|(lo,hi)=>pure (lo,(1:Int),slicePlaces lo hi 1)) _ _ s;rw[zN lo hi n];show wpAny _ _ (pure (((dF n 0 lo:Nat):Int),(1:Int),slicePlaces ((dF n 0 lo:Nat):Int) ((dF n n hi:Nat):Int) 1)) _ _ s;rw[zM];exact wpAny_pure h
theorem Hg(xs:Array Value)(i k:Nat):((List.range k).filterMap fun(m:Nat)=>xs[((i:Int)+(m:Int)*1).toNat]?).toArray=((xs.toList.drop i).take k).toArray:=by
 have e:(fun(m:Nat)=>xs[((i:Int)+(m:Int)*1).toNat]?)=fun m=>xs[i+m]?:=by
  funext m;have:((i:Int)+(m:Int)*1).toNat=i+m:=by omega
  rw[this]
 rw[e];have:=pick_run xs i k;rw[List.filterMap_map]at this;have e2:((fun x=>xs[x]?)∘ fun x=>i+x)=fun m=>xs[i+m]?:=rfl;rw[e2]at this;rw[this]
theorem lW{t sl:Addr}{items:Array Value}{vl vu:Value}{lo hi:Option Int}{Q:Value->Shared->Prop}(ht:IsTup s.heap t items)(hs:s.heap.IsSliceOf sl vl vu .none)(pl:IsPart vl lo)(pu:IsPart vu hi)(hw:¬(dF items.size 0 lo=0/\dF items.size items.size hi=items.size))(h:Q (.ref s.heap.objs.size) {s with heap:=s.heap.push {cls:=.type "tuple",data:=.seq ((items.toList.drop (dF items.size 0 lo)).take (dF items.size items.size hi-dF items.size 0 lo)).toArray}})(hsz:items.size<=sizeLine):wpAny (model prog w) A (getItem (.ref t) (.ref sl)) Q E s:=by
 have CN:sizeOk (.seq ((items.toList.drop (dF items.size 0 lo)).take (dF items.size items.size hi-dF items.size 0 lo)).toArray):=by show((items.toList.drop (dF items.size 0 lo)).take (dF items.size items.size hi-dF items.size 0 lo)).toArray.size<=sizeLine;rw[size_toArray,length_take,List.length_drop,length_toList];omega
 have hj:dF items.size items.size hi<=items.size:=T3 _ _ (dh) hi;obtain⟨os,hos,hcs,hds⟩:=id hs;have hTs:s.TypeIs (.ref sl) "slice":=⟨os,hos,hcs⟩;unfold getItem;try with_reducible refine wpAny_holding ?_
 first|refine wpAny_bind (wpAny_pure ?_)|skip
 refine wpAny_bind (wpAny_sequenceKey ht.typeIs (by decide) ?_);refine wpAny_bind (wpAny_callSpecial?_slot (name:=Str.ofString "__getitem__") ht.typeIs PyProof.Rows.slot_tuple_getitem (wpAny_call_entry PyProof.Rows.slot_tuple_getitem ht.typeIs entry_tuple_getitem ?_ (args_tuple_getitem _ _)));show wpAny _ _ (tupleItemsOf (.ref t)>>=_) _ _ s;refine wpAny_bind (tupleItemsOf_ ht ?_);refine wpAny_bind (wpAny_typeOf hTs ?_);rw[if_pos (by decide)];refine wpAny_bind (il hs pl pu ?_);have hno:¬((((dF items.size 0 lo:Nat):Int)==0&&(1:Int)==1&&(dF items.size items.size hi-dF items.size 0 lo)==items.size)=true):=by intro q;rw[and_eq_true,and_eq_true]at q;have q1:((dF items.size 0 lo:Nat):Int)=0:=eq_of_beq q.1.1;have q2:dF items.size items.size hi-dF items.size 0 lo=items.size:=eq_of_beq q.2;exact hw ⟨by omega,by omega⟩
 show wpAny _ _ (if(((dF items.size 0 lo:Nat):Int)==0&&(1:Int)==1&&(dF items.size items.size hi-dF items.size 0 lo)==items.size)=true then _ else _) _ _ s;rw[if_neg hno,Hg];first|exact wpAny_bind (m:=tupleExact _) (wpAny_newObj_type (wpAny_pure ⟨_,rfl,wpAny_pure h⟩) CN)|exact wpAny_bind (m:=tupleExact _) (wpAny_newObj_type (wpAny_bind (wpAny_pure (wpAny_pure ⟨_,rfl,wpAny_pure h⟩))) CN)|exact wpAny_bind (wpAny_bind (m:=tupleExact _) (wpAny_newObj_type (wpAny_pure (wpAny_pure ⟨_,rfl,wpAny_pure h⟩)) CN))|exact wpAny_bind (wpAny_bind (m:=tupleExact _) (wpAny_newObj_type (wpAny_pure ⟨_,rfl,wpAny_pure h⟩) CN))
end
end HT
namespace L2
open PySem PySem.Spec PyProof.Rows
variable{n:Nat}
abbrev TO:=St->Hp->(Option Int->Hp->Prop)->Prop
def PO(X:Cx)(e:Option Expr)(t:TO):Prop:=∀(pins:List (Addr × Obj))(s:Shared)(σ:St)(H:Hp)(Q:Option Int->Hp->Prop),Inv X pins σ H s->t σ H Q->wpAny (model X.prog X.w) X.A (evalPart e X.env) (fun u s'=>∃o H',Inv X pins σ H' s'/\IsPart u o/\Q o H') X.xe s
def Ku:TO:=fun _ H Q=>Q none H
def Xb(t:TE):TO:=fun σ H Q=>t σ H fun x H1=>∃i,x=.int i/\Q (some i) H1
section
variable{X:Cx}{e:Expr}{te:TE}{lo hi:Option Expr}{tl th:TO}{pos p2:Pos}
theorem M5:PO X none Ku:=by intro pins s σ H Q I h;rw[evalPart_none];exact wpAny_pure ⟨none,H,I,.none,h⟩
theorem KY(h:PE X e te):PO X (some e) (Xb te):=by intro pins s σ H Q I hw;rw[evalPart_some];refine bR (h pins s σ H _ I hw) fun u s1⟨x,H1,I1,r1,q1⟩=>?_;obtain⟨i,rfl,q⟩:=q1;obtain⟨t,rfl⟩:=r1;exact⟨some i,H1,I1,.int i t,q⟩
def Z9(X:Cx)(r:V->Option Int->Option Int->Hp->VK->Prop):Prop:=∀(pins:List (Addr × Obj))(s:Shared)(σ:St)(H:Hp)(x:V)(v vl vu:Value)(lo hi:Option Int)(sl:Addr)(Q:VK),Inv X pins σ H s->RelV x v->s.heap.IsSliceOf sl vl vu .none->IsPart vl lo->IsPart vu hi->r x lo hi H Q->∃T id,typeLookup (.type T) "__getitem__"=pure (some (.builtin id))/\s.TypeIs v T/\wpAny (model X.prog X.w) X.A (getItem v (.ref sl)) (EP X pins σ Q) X.xe s
def tSl(r:V->Option Int->Option Int->Hp->VK->Prop)(te:TE)(tl th:TO):TE:=fun σ H Q=>te σ H fun x H1=>tl σ H1 fun l H2=>th σ H2 fun u H3=>r x l u H3 Q
theorem xN{r:V->Option Int->Option Int->Hp->VK->Prop}(hr:Z9 X r)(he:PE X e te)(hl:PO X lo tl)(hu:PO X hi th):PE X (.Subscript e (.Slice lo hi none p2) pos) (tSl r te tl th):=by intro pins s σ H Q I h;refine Subscript_ (bR (he pins s σ H _ I h) fun v s1⟨x,H1,I1,r1,q1⟩=>?_);refine wpAny_Slice (bR (hl pins s1 σ H1 _ I1 q1) fun vl s2⟨l,H2,I2,pl,q2⟩=>bR (hu pins s2 σ H2 _ I2 q2) fun vu s3⟨u,H3,I3,pu,q3⟩=>?_);rw[evalPart_none];refine wpAny_pure ?_;have I4:Inv X pins σ H3 {s3 with heap:=s3.heap.push {cls:=.type "slice",data:=.fields #[vl,vu,.none]}}:=I3.kept (t':=s3.toks) fun b ob q=>dC q;obtain⟨T,id,hT,ht,hg⟩:=hr pins {s3 with heap:=s3.heap.push {cls:=.type "slice",data:=.fields #[vl,vu,.none]}} σ H3 x v vl vu l u s3.heap.objs.size Q I4 r1 (Heap.IsSliceOf.new ..) pl pu q3;show wpAny (model X.prog X.w) X.A (subscriptTail e (.Slice lo hi none p2) v (.ref s3.heap.objs.size)) (EP X pins σ Q) X.xe {s3 with heap:=s3.heap.push {cls:=.type "slice",data:=.fields #[vl,vu,.none]}};exact tail_any (ops:=[.ref s3.heap.objs.size,v]) ht hT hg (by with_unfolding_all rfl)
noncomputable def xJ(xs:List V)(lo hi:Option Int):List V:=(xs.drop (HT.dF xs.length 0 lo)).take (HT.dF xs.length xs.length hi-HT.dF xs.length 0 lo)
theorem oJ(xs:List V)(lo hi:Option Int):(xJ xs lo hi).length<=xs.length:=by unfold xJ;rw[length_take,List.length_drop];omega
def adE(K:PySem.W.Frag):V->Option Int->Option Int->Hp->VK->Prop:=fun x lo hi H Q=>∃a xs,x=.ref a/\iD K H a xs/\¬(HT.dF xs.length 0 lo=0/\HT.dF xs.length xs.length hi=xs.length)/\∀p,H p=none->Q (.ref p) (upd H p (.tup (xJ xs lo hi)))
theorem Rg:Z9 X (adE X.K):=by
 intro pins s σ H x v vl vu lo hi sl Q I rx hs pl pu h;obtain⟨a,xs,rfl,hx,hw,q⟩:=h;cases rx;obtain⟨its,r,ht,hz⟩:=I.tuple hx;have hlen:its.toArray.size=xs.length:=by rw[size_toArray];exact r.length.symm
 refine⟨"tuple",_,PyProof.Rows.slot_tuple_getitem.lookup,ht.typeIs,?_⟩;refine HT.lW ht hs pl pu (by rw[hlen];exact hw) ?_ (by rw[hlen];exact hz);rw[hlen];refine⟨.ref s.heap.objs.size,_,I.laid (t':=s.toks) (o:=.tup (xJ xs lo hi)) (fun b ob q=>dC q) (dh) ?_,rfl,q _ (I.hok.fresh (dh))⟩;exact⟨le_trans (oJ xs lo hi) hz,_,(r.drop (HT.dF xs.length 0 lo)).take (HT.dF xs.length xs.length hi-HT.dF xs.length 0 lo),IsTup.new _ _⟩
def Xp(K:PySem.W.Frag):R2:=fun x y H Q=>∃a b xs ys,x=.ref a/\y=.ref b/\iD K H a xs/\iD K H b ys/\xs≠[]/\xs.length+ys.length<=sizeLine/\(ys=[]->Q (.ref a) H)/\(ys≠[]->∀p,H p=none->Q (.ref p) (upd H p (.tup (xs++ys))))
theorem Vals.pL{xs:List V}{us:List Value}(r:Vals xs us):us=[]↔xs=[]:=by cases r with|nil=>simp|cons _ _=>simp
theorem Ld:fU X (binaryOp .Add) (Xp X.K):=by intro pins s σ H x y v u Q I rx ry h;obtain⟨a,b,xs,ys,rfl,rfl,ha,hb,hx,hz,q1,q2⟩:=h;cases rx;cases ry;obtain⟨its,r1,p1,_⟩:=I.tuple ha;obtain⟨its2,r2,p2,_⟩:=I.tuple hb;refine HT.Lq p1 p2 (fun z=>hx (r1.pL.mp z)) (fun z=>⟨.ref a,H,I,rfl,q1 (r2.pL.mp z)⟩) (fun z=>?_) (by rw[<-r1.length,<-r2.length];exact hz);refine⟨.ref s.heap.objs.size,_,I.laid (t':=s.toks) (o:=.tup (xs++ys)) (fun b ob q=>dC q) (dh) ?_,rfl,q2 (fun w=>z (r2.pL.mpr w)) _ (I.hok.fresh (dh))⟩;exact⟨by rw[length_append];exact hz,_,r1.append r2,IsTup.new _ _⟩
end
noncomputable def jC(n:Nat)(i:Int):Option Nat:=if 0<=i then(if i<n then some i.toNat else none)else if-(n:Int)<=i then some (i+n).toNat else none
noncomputable def Jd{α:Type}(xs:List α)(i:Int):Option α:=(jC xs.length i).bind fun j=>xs[j]?
theorem Av{i:Int}{j:Nat}(h:jC n i=some j):seqIndex? i n=some j/\j<n/\-(n:Int)<=i/\i<n:=by
 unfold jC at h;by_cases h0:0<=i
 . rw[if_pos h0]at h;by_cases h1:i<n;.rw[if_pos h1]at h;have e:i.toNat=j:=Option.some.inj h;exact⟨by rw[seqIndex_of h0 h1,e],by omega,by omega,h1⟩
   .rw[if_neg h1]at h;cases h
 . rw[if_neg h0]at h;by_cases h1:-(n:Int)<=i;.rw[if_pos h1]at h;have e:(i+n).toNat=j:=Option.some.inj h;exact⟨by rw[seqIndex_neg (by omega) h1,e],by omega,h1,by omega⟩
   .rw[if_neg h1]at h;cases h
theorem uK{α:Type}{xs:List α}{i:Int}{v:α}(h:Jd xs i=some v):∃j,seqIndex? i xs.length=some j/\xs[j]?=some v/\j<xs.length/\-(xs.length:Int)<=i/\i<xs.length:=by unfold Jd at h;cases e:jC xs.length i with|none=>rw[e]at h;cases h|some j=>rw[e]at h;obtain⟨h1,h2,h3,h4⟩:=Av e;exact⟨j,h1,h,h2,h3,h4⟩
def uV(b:Expr):Prop:=∀o i,subscripted b false o i=operate [o,i] (getItem o i)
def IxR(X:Cx)(r:R2):Prop:=∀(value slice:Expr)(pins:List (Addr × Obj))(s:Shared)(σ:St)(H:Hp)(x y:V)(v u:Value)(Q:VK),Inv X pins σ H s->RelV x v->RelV y u->r x y H Q->subscripted slice false v u=operate [v,u] (getItem v u)->wpAny (model X.prog X.w) X.A (subscriptTail value slice v u) (EP X pins σ Q) X.xe s
def MtR(X:Cx)(id:String)(r:V->List V->Hp->VK->Prop):Prop:=∀(pins:List (Addr × Obj))(s:Shared)(σ:St)(H:Hp)(x:V)(xs:List V)(v:Value)(us:List Value)(Q:VK),Inv X pins σ H s->RelV x v->Vals xs us->r x xs H Q->wpAny (model X.prog X.w) X.A (call (.builtin id) (v::us)) (EP X pins σ Q) X.xe s
section
variable{X:Cx}{a b:Expr}{ta tb:TE}{pos:Pos}
theorem Pn{r:R2}(hr:IxR X r)(ha:PE X a ta)(hb:PE X b tb)(hs:uV b):PE X (.Subscript a b pos) (QS r ta tb):=by intro pins s σ H Q I h;exact Subscript_ (R1 ha hb I h fun v u s2 x y H2 I2 rx ry q=>hr a b pins s2 σ H2 x y v u Q I2 rx ry q (hs _ _))
def Yt(K:PySem.W.Frag):R2:=fun x y H Q=>∃p xs i v,x=.ref p/\y=.int i/\dX K H p xs/\Jd xs i=some v/\Q v H
def aeQ(K:PySem.W.Frag):R2:=fun x y H Q=>∃p xs i v,x=.ref p/\y=.int i/\iD K H p xs/\Jd xs i=some v/\Q v H
theorem CG:IxR X (Yt X.K):=by
 intro value slice pins s σ H x y v u Q I rx ry h hs;obtain⟨p,xs,i,z,rfl,rfl,hq,he,q⟩:=h;cases rx;obtain⟨t,rfl⟩:=ry;obtain⟨its,r,pl,hz⟩:=I.list hq;obtain⟨j,h1,h2,h3,h4,h5⟩:=uK he;obtain⟨w,ew,vI⟩:=r.get h2;have hl:=r.length;have hn:=qX;have fin:EP X pins σ Q w s:=⟨z,H,I,vI,q⟩;by_cases h0:0<=i
 . have hj:i.toNat=j:=by rw[seqIndex_of h0 h5]at h1;exact Option.some.inj h1
   exact item_listR pl.isList h0 (by omega) (by rw[hj];simpa using ew) fin hs
 . have hj:(i+(its.toArray.size:Int)).toNat=j:=by rw[seqIndex_neg (by omega) h4]at h1;rw[size_toArray,<-hl];exact Option.some.inj h1
   exact subscriptTail_builtinR (x:=w) pl.isList.typeIs slot_list_getitem.lookup (wpAny_getItem_list_neg (Q:=fun r s'=>r=w/\EP X pins σ Q r s') pl.isList (by omega) (by rw[size_toArray]<;>omega) (by omega) (by rw[hj];simpa using ew) ⟨rfl,fin⟩) hs
theorem Uy:IxR X (aeQ X.K):=by intro value slice pins s σ H x y v u Q I rx ry h hs;obtain⟨p,xs,i,z,rfl,rfl,hq,he,q⟩:=h;cases rx;obtain⟨t,rfl⟩:=ry;obtain⟨its,r,pl,hz⟩:=I.tuple hq;obtain⟨j,h1,h2,h3,h4,h5⟩:=uK he;obtain⟨w,ew,vI⟩:=r.get h2;have hl:=r.length;have hn:=qX;have fin:EP X pins σ Q w s:=⟨z,H,I,vI,q⟩;exact subscriptTail_builtinR (x:=w) pl.typeIs slot_tuple_getitem.lookup (getItem_tuple (j:=j) (Q:=fun r s'=>r=w/\EP X pins σ Q r s') pl (by omega) (by omega) (by rw[size_toArray,<-hl];exact h1) (by simpa using ew) ⟨rfl,fin⟩) hs
theorem zH(its:List Value)(n j:Nat)(u:Value):Obj.mapSeq (·.setIfInBounds j u) {cls:=.type "list",data:=.seq its.toArray n}={cls:=.type "list",data:=.seq (its.set j u).toArray n}:=by simp[Obj.mapSeq]
theorem Inv.lst{pins:List (Addr×Obj)}{σ:St}{H:Hp}{s:Shared}{p:Addr}{xs:List V}(I:Inv X pins σ H s)(h:H p=some (.lst xs)):∃(its:List Value)(n:Nat),Vals xs its/\s.heap.get? p=some {cls:=.type "list",data:=.seq its.toArray n}/\xs.length<=sizeLine:=by obtain⟨z,its,n,r,e⟩:=I.hok p _ h;exact⟨its,n,r,e,z⟩
theorem Inv.R4{pins:List (Addr×Obj)}{σ:St}{H:Hp}{s:Shared}{p:Addr}{xs ys:List V}{its its':List Value}{n n':Nat}{f:Obj->Obj}(I:Inv X pins σ H s)(h:H p=some (.lst xs))(ho:s.heap.get? p=some {cls:=.type "list",data:=.seq its.toArray n})(hf:f {cls:=.type "list",data:=.seq its.toArray n}={cls:=.type "list",data:=.seq its'.toArray n'})(r:Vals ys its')(hz:ys.length<=sizeLine)(t:Nat):Inv X pins σ (upd H p (.lst ys)) {s with heap:=s.heap.update p f,toks:=t}:=by
 have e:(s.heap.update p f).get? p=some {cls:=.type "list",data:=.seq its'.toArray n'}:=by rw[Heap.get?_update_self f ho (by rw[hf]<;>rfl),hf]
 refine I.write (x:=p) (e:=p) (by rw[h];trivial) (.inl rfl) (fun b u hb q=>(get?_update_other _ _ (Ne.symm hb)).trans q) ⟨_,e⟩ ?_;exact⟨hz,its',n',r,e⟩
def W7:V->V->V->Hp->(Hp->Prop)->Prop:=fun o i v H Q=>∃p xs k j,o=.ref p/\i=.int k/\H p=some (.lst xs)/\jC xs.length k=some j/\Q (upd H p (.lst (xs.set j v)))
theorem set_list:Ro X W7:=by
 intro pins s σ H o i v ov iv u Q I ro ri rv h;obtain⟨p,xs,k,j,rfl,rfl,hp,hj,q⟩:=h;cases ro;obtain⟨t,rfl⟩:=ri;obtain⟨its,n,r,ho,hz⟩:=I.lst hp;obtain⟨h1,h2,h3,h4⟩:=Av hj;have hl:=r.length;have hn:=qX;have I':Inv X pins σ (upd H p (.lst (xs.set j v))) {s with heap:=s.heap.update p (Obj.mapSeq (·.setIfInBounds j u))}:=I.R4 hp ho (zH its n j u) (r.set rv j) (by rw[List.length_set];exact hz) s.toks;by_cases h0:0<=k
 . have hk:k.toNat=j:=by rw[seqIndex_of h0 h4]at h1;exact Option.some.inj h1
   exact PySem.W.ki_setAt ho h0 (by omega) (by rw[size_toArray,<-hl];exact h4) (by rw[hk];exact⟨_,I',q⟩)
 . have hk:(k+(its.toArray.size:Int)).toNat=j:=by rw[seqIndex_neg (by omega) h3]at h1;rw[size_toArray,<-hl];exact Option.some.inj h1
   exact PySem.W.ki_setBack ho (by omega) (by rw[size_toArray,<-hl];exact h3) (by omega) (by rw[hk];exact⟨_,I',q⟩)
theorem vA(lo hi:Option Int)(n:Nat):(sliceBounds lo hi none n).1=((HT.dF n 0 lo:Nat):Int)/\(sliceBounds lo hi none n).2.1=((HT.dF n n hi:Nat):Int)/\(sliceBounds lo hi none n).2.2=1:=by
 refine⟨?_,?_,rfl⟩;.cases lo with|none=>simp[sliceBounds,HT.dF]|some i=>
     simp only[sliceBounds,HT.dF,getD_none,show(1:Int)>0 by decide,if_true];by_cases h:i<0;.simp only[h,if_true]<;>omega
     .simp only[h,if_false]<;>omega
 .cases hi with|none=>simp[sliceBounds,HT.dF]|some i=>
     simp only[sliceBounds,HT.dF,getD_none,show(1:Int)>0 by decide,if_true];by_cases h:i<0;.simp only[h,if_true]<;>omega
     .simp only[h,if_false]<;>omega
theorem sr(its:List Value)(lo hi:Option Int):slicePick its.toArray lo hi none=((its.drop (HT.dF its.length 0 lo)).take (HT.dF its.length its.length hi-HT.dF its.length 0 lo)).toArray:=by obtain⟨h1,h2,h3⟩:=vA lo hi its.toArray.size;unfold slicePick;rw[h1,h2,h3];simp only[sliceRange_one,pick_run,size_toArray]<;>rfl
def adJ(K:PySem.W.Frag):V->Option Int->Option Int->Hp->VK->Prop:=fun x lo hi H Q=>∃a xs,x=.ref a/\dX K H a xs/\∀p,H p=none->Q (.ref p) (upd H p (.lst (xJ xs lo hi)))
theorem Nf:Z9 X (adJ X.K):=by intro pins s σ H x v vl vu lo hi sl Q I rx hs pl pu h;obtain⟨a,xs,rfl,hx,q⟩:=h;cases rx;obtain⟨its,r,ht,hz⟩:=I.list hx;have hlen:=r.length;refine⟨"list",_,slot_list_getitem.lookup,ht.isList.typeIs,?_⟩;refine wpAny_getItem_list_slice ht.isList hs pl pu .none (by simp) ?_ (by rw[size_toArray]<;>omega);rw[sr,<-hlen];refine⟨.ref s.heap.objs.size,_,I.laid (t':=s.toks) (o:=.lst (xJ xs lo hi)) (fun b ob q=>dC q) (dh) ?_,rfl,q _ (I.hok.fresh (dh))⟩;exact⟨le_trans (oJ xs lo hi) hz,_,0,(r.drop (HT.dF xs.length 0 lo)).take (HT.dF xs.length xs.length hi-HT.dF xs.length 0 lo),get?_push_size _ rfl⟩
theorem uL:dz X (.builtin "len") (fun xs H Q=>∃p ys,xs=[.ref p]/\(dX X.K H p ys\/iD X.K H p ys)/\Q (.int ys.length) H):=by
 intro pins s σ H xs us Q I r h;obtain⟨p,ys,rfl,hq,q⟩:=h;obtain⟨u,rfl,rx⟩:=vals1 r;cases rx;have hn:=qX;rcases hq with hq|hq;.obtain⟨its,r',pl,hz⟩:=I.list hq;have hlen:=r'.length;exact Calls.call_len_list pl.isList (by simp only[size_toArray]<;>omega) ⟨.int ys.length,H,I.tok _,⟨s.toks+1,by rw[size_toArray,hlen]⟩,q⟩
 .obtain⟨its,r',pl,hz⟩:=I.tuple hq;have hlen:=r'.length;exact len_tuple pl (by simp only[size_toArray]<;>omega) ⟨.int ys.length,H,I.tok _,⟨s.toks+1,by rw[size_toArray,hlen]⟩,q⟩
theorem uw:dz X (.type "list") (fun xs H Q=>∃p ys,xs=[.ref p]/\(dX X.K H p ys\/iD X.K H p ys)/\∀l,H l=none->Q (.ref l) (upd H l (.lst ys))):=by
 intro pins s σ H xs us Q I r h;obtain⟨p,ys,rfl,hq,q⟩:=h;obtain⟨u,rfl,rx⟩:=vals1 r;cases rx;have fin:∀(its:List Value),Vals ys its->ys.length<=sizeLine->∀(h':Heap)(c':Nat),(∀b o',s.heap.get? b=some o'->h'.get? b=some o')->h'.get? s.heap.objs.size=some {cls:=.type "list",dict:=none,data:=.seq its.toArray c',slots:=#[]}->EP X pins σ Q (.ref s.heap.objs.size) {s with heap:=h'}:=fun its r' hz h' c' kp e=>⟨.ref s.heap.objs.size,_,I.laid (t':=s.toks) kp (dh) (show bI X.prog X.w _ h' _ (.lst ys)from⟨hz,its,c',r',e⟩),rfl,q _ (I.hok.fresh (dh))⟩;rcases hq with hq|hq;.obtain⟨its,r',pl,hz⟩:=I.list hq;have hlen:=r'.length;obtain⟨o,ho,hc,n,hd⟩:=pl.isList;exact call_list_seq p (.inl rfl) ho hc hd (fun h' c' kp e=>fin its r' hz h' c' kp e) (by simp only[size_toArray]<;>omega)
 .obtain⟨its,r',pl,hz⟩:=I.tuple hq;have hlen:=r'.length;obtain⟨o,ho,hc,n,hd⟩:=pl;exact call_list_seq p (.inr rfl) ho hc hd (fun h' c' kp e=>fin its r' hz h' c' kp e) (by simp only[size_toArray]<;>omega)
theorem kW:dz X (.type "tuple") (fun xs H Q=>∃p ys,xs=[.ref p]/\((dX X.K H p ys/\∀l,H l=none->Q (.ref l) (upd H l (.tup ys)))\/(iD X.K H p ys/\Q (.ref p) H))):=by
 intro pins s σ H xs us Q I r h;obtain⟨p,ys,rfl,h⟩:=h;obtain⟨u,rfl,rx⟩:=vals1 r;cases rx;rcases h with⟨hq,q⟩|⟨hq,q⟩;.obtain⟨its,r',pl,hz⟩:=I.list hq;have hlen:=r'.length;refine call_tuple_list pl.isList (fun h' kp=>?_) (by simp only[size_toArray]<;>omega);have I1:Inv X pins σ H {s with heap:=h'}:=I.kept (t':=s.toks) kp;have I2:Inv X pins σ (upd H h'.objs.size (.tup ys)) {s with heap:=h'.push {cls:=.type "tuple",data:=.seq its.toArray}}:=I1.laid (t':=s.toks) (fun b o e=>dC e) (dh) (show bI X.prog X.w _ _ _ (.tup ys)from⟨hz,its,r',IsTup.new _ _⟩);exact⟨.ref h'.objs.size,_,I2,rfl,q _ (I1.hok.fresh (dh))⟩
 .obtain⟨its,r',pl,hz⟩:=I.tuple hq;exact call_tuple_same pl ⟨.ref p,H,I,rfl,q⟩
def tyV(K:PySem.W.Frag)(T:String)(x:V)(H:Hp):Prop:=match x with|.str _=>T="str"|.int _=>T="int"|.ref p=>(T="list"/\∃xs,dX K H p xs)\/(T="tuple"/\∃o,K.lookup p=some o/\o.cls=.type "tuple"/\o.dict=none)\/(T="dict"/\((∃kvs,H p=some (.dK kvs))\/∃kvs,H p=some (.dT kvs)))\/(T="set"/\∃S n,H p=some (.set S n))|_=>False
theorem Ub{pins:List (Addr×Obj)}{σ:St}{H:Hp}{s:Shared}{T:String}{x:V}{v:Value}(I:Inv X pins σ H s)(r:RelV x v)(ty:tyV X.K T x H):
 s.TypeIs v T/\∀a,v=.ref a->∃ob,s.heap.get? a=some ob/\ob.dict=none:=by cases x with|str z=>obtain⟨t,rfl⟩:=r;cases(show T="str"from ty);exact⟨typeIs_str s z t,fun _ e=>nomatch e⟩|int i=>obtain⟨t,rfl⟩:=r;cases(show T="int"from ty);exact⟨typeIs_int s i t,fun _ e=>nomatch e⟩|ref p=>
   cases r;rcases ty with⟨rfl,xs,hq⟩|⟨rfl,o,hk,hc,hd⟩|⟨rfl,hk⟩|⟨rfl,S,n,hk⟩;.obtain⟨its,_,pl,_⟩:=I.list hq;refine⟨pl.isList.typeIs,fun a e=>?_⟩;cases e;obtain⟨o,n,e,c,hd,_⟩:=pl;exact⟨o,e,hd⟩
   .refine⟨⟨o,I.Pu p o hk,hc⟩,fun a e=>?_⟩;cases e;exact⟨o,I.Pu _ o hk,hd⟩
   . have z:∃o,s.heap.get? p=some o/\o.ExactDict:=by
      rcases hk with⟨kvs,hk⟩|⟨kvs,hk⟩;.obtain⟨_,_,_,_,o,_,_,e,ex,_⟩:=I.hok p _ hk;exact⟨o,e,ex⟩
      .obtain⟨_,_,_,_,o,_,_,e,ex,_⟩:=I.hok p _ hk;exact⟨o,e,ex⟩
     obtain⟨o,e,ex⟩:=z;refine⟨⟨o,e,ex.1⟩,fun a e2=>?_⟩;cases e2;exact⟨o,e,ex.2.1⟩
   .obtain⟨o,_,_,_,e,ex,_⟩:=I.hok p _ hk;refine⟨⟨o,e,ex.1⟩,fun a e2=>?_⟩;cases e2;exact⟨o,e,ex.2.1⟩|_=>exact False.elim ty
def tBM(K:PySem.W.Frag)(T:String)(r:V->List V->Hp->VK->Prop)(to:TE)(t:TA):TE:=fun σ H Q=>to σ H fun x H1=>tyV K T x H1/\t σ H1 fun xs H2=>r x xs H2 Q
variable{o e:Expr}{es:List Expr}{to:TE}{t:TA}{name:Str}{apos cpos:Pos}{T id:String}{r:V->List V->Hp->VK->Prop}
theorem Oz(pa:PlainAttrs T)(slot:Slot T name id)(hty:typeOf (.builtin id)=pure (.type "method_descriptor"))(hm:MtR X id r)(ho:PE X o to)(ha:PA X (e::es) t)(hbase:attributeBase o name X.env (eval o X.env)=eval o X.env:=by rfl)(hfew:((backTo cpos (starEach (e::es) X.env)).all (fun x=>!x.1)&&(backToKw cpos (keywordEach [] X.env)).all (fun x=>x.1.isSome)&&decide ((e::es).length+([]:List Keyword).length+(if([]:List Keyword).isEmpty then 0 else 1)<30))=true:=by rfl)(hline:(apos.endLine==cpos.line)=true:=by rfl)(hs:starEach (e::es) X.env=(false,eval e X.env)::starEach es X.env:=by rfl)(hplain:(backTo cpos (starEach es X.env)).any (·.1)=false:=by rfl):PE X (.Call (.Attribute o name apos) (e::es) [] cpos) (tBM X.K T r to t):=by intro pins s σ H Q I h;refine wpAny_Call_method_late hbase hfew hline rfl (bR (ho pins s σ H _ I h) fun v s1⟨x,H1,I1,r1,ty,q1⟩=>?_);obtain⟨h1,h2⟩:=Ub I1 r1 ty;refine⟨T,id,pa,slot,hty,h1,h2,?_⟩;have hA:=ha cpos pins s1 σ H1 _ I1 q1;rw[hs]at hA ⊢;refine Calls.callWith_builtin (by show(false||(backTo cpos (starEach es X.env)).any (·.1))=false;rw[hplain]<;>rfl) (Calls.evalArgs_plain ?_);exact bR hA fun us s2⟨vs,H2,I2,r2,q2⟩=>hm pins s2 σ H2 x vs v us Q I2 r1 r2 q2
end
def MtM(X:Cx)(id:String)(r:V->List V->Hp->VK->Prop):Prop:=∀(pins:List (Addr × Obj))(s:Shared)(σ:St)(H:Hp)(x:V)(xs:List V)(v:Value)(us:List Value)(Q:VK),Inv X pins σ H s->RelV x v->Vals xs us->r x xs H Q->wpAny (model X.prog X.w) X.A (call (.builtin id) (v::us)) (EP X pins σ Q) X.xe s
theorem Vals.one:∀{x:V}{us:List Value},Vals [x] us->∃u,us=[u]/\RelV x u|x,us,h=>by cases h with|cons r t=>cases t;exact⟨_,rfl,r⟩
theorem Vals.two:∀{x y:V}{us:List Value},Vals [x,y] us->∃u v,us=[u,v]/\RelV x u/\RelV y v|x,y,us,h=>by cases h with|cons r t=>cases t with|cons q z=>cases z;exact⟨_,_,rfl,r,q⟩
theorem Vals.zero:∀{us:List Value},Vals [] us->us=[]|_,.nil=>rfl
theorem Vals.reverse{xs:List V}{us:List Value}(h:Vals xs us):Vals xs.reverse us.reverse:=by induction h with|nil=>exact .nil|cons r t ih=>rw[reverse_cons,reverse_cons];exact Vals.append ih (.cons r .nil)
theorem Vals.rep{xs:List V}{us:List Value}(h:Vals xs us):∀k:Nat,Vals (replicate k xs).flatten (replicate k us).flatten|0=>.nil|k+1=>by rw[replicate_succ,replicate_succ,flatten_cons,flatten_cons];exact Vals.append h (Vals.rep h k)
theorem foldl_rep(its:List Value):∀(k:Nat)(acc:List Value),foldl (fun x1 x2=>x1++x2) acc.toArray (replicate k its.toArray)=(acc++(replicate k its).flatten).toArray
 |0,acc=>by simp|k+1,acc=>by
   have e:acc.toArray++its.toArray=(acc++its).toArray:=by simp
   have e2:(acc++its)++(replicate k its).flatten=acc++(replicate (k+1) its).flatten:=by rw[replicate_succ,flatten_cons,append_assoc]
   rw[<-e2,<-foldl_rep its k (acc++its),<-e,replicate_succ,foldl_cons]
section
variable{X:Cx}{pins:List (Addr×Obj)}{σ:St}{H:Hp}{s:Shared}{l b:Addr}{xs ys zs:List V}
theorem Inv.adL{its its':List Value}{f:Array Value->Array Value}{t':Nat}(I:Inv X pins σ H s)(hH:H l=some (.lst xs))(e:s.heap.get? l=some {cls:=.type "list",data:=.seq its.toArray n})(hf:f its.toArray=its'.toArray)(hv:Vals ys its')(hz:ys.length<=sizeLine):Inv X pins σ (upd H l (.lst ys)) {s with heap:=s.heap.update l (Obj.mapSeq f),toks:=t'}:=by have q:=PySem.IsL.update e f;rw[hf]at q;refine I.write (x:=l) (e:=l) (by rw[hH];exact trivial) (.inl rfl) (fun b' u hb hu=>(get?_update_other s.heap (Obj.mapSeq f) (Ne.symm hb)).trans hu) ⟨_,q⟩ ?_;exact⟨hz,its',_,hv,q⟩
theorem Inv.Rm{its:List Value}{t':Nat}(I:Inv X pins σ H s)(hv:Vals ys its)(hz:ys.length<=sizeLine):Inv X pins σ (upd H s.heap.objs.size (.lst ys)) {s with heap:=s.heap.push {cls:=.type "list",data:=.seq its.toArray},toks:=t'}:=I.laid (fun _ _ q=>dC q) (dh) ⟨hz,its,0,hv,get?_push_size _ rfl⟩
theorem Inv.fresh(I:Inv X pins σ H s):H s.heap.objs.size=none:=I.hok.fresh (dh)
theorem Inv.aee(I:Inv X pins σ H s)(hH:H l=some (.lst xs)):xs.length<=sizeLine/\∃(its:List Value)(n:Nat),Vals xs its/\xs.length=its.length/\s.heap.get? l=some {cls:=.type "list",data:=.seq its.toArray n}:=by obtain⟨z,its,n,r,e⟩:=I.hok l _ hH;exact⟨z,its,n,r,r.length,e⟩
theorem Hn(h:n<=sizeLine):listTooLong n=false:=by unfold listTooLong;exact decide_eq_false (by omega)
end
section
variable{X:Cx}
def Mw:V->List V->Hp->VK->Prop:=fun x vs H Q=>∃l xs y,x=.ref l/\vs=[y]/\H l=some (.lst xs)/\xs.length<sizeLine/\Q .non (upd H l (.lst (xs++[y])))
theorem m6:MtM X "list.append" Mw:=by intro pins s σ H x vs v us Q I rx rv h;obtain⟨l,xs,y,rfl,rfl,hH,hz,q⟩:=h;cases rx;obtain⟨u,rfl,ru⟩:=rv.one;obtain⟨z,its,n,r,hl,e⟩:=I.aee hH;refine call_meets F.slot_list_append ⟨_,e,rfl⟩ F.entry_list_append (F.args_list_append_2 _ _) (PySem.list_append l its.toArray n u (by rw[size_toArray];omega)) ⟨e,?_⟩;refine⟨.non,_,I.adL (its':=its++[u]) hH e (by simp) (r.append (.cons ru .nil)) ?_,rfl,q⟩;rw[length_append,List.length_singleton];omega
theorem len_rep{α:Type}(xs:List α)(k:Nat):(replicate k xs).flatten.length=k*xs.length:=by induction k with|zero=>simp|succ k ih=>rw[replicate_succ,flatten_cons,length_append,ih,Nat.succ_mul,Nat.add_comm]
end
end L2
namespace Att
open PySem PySem.W PySem.Calls PyProof.Rows
theorem oW{P:Params}{h:Heap}:∀(ns:List Int)(vs:List Value),WellAll P h vs (ns.map WData.int)->IntsAre vs ns:=by intro ns;induction ns with|nil=>intro vs w;rw[map_nil]at w;cases w;exact .nil|cons n ns ih=>intro vs w;rw[map_cons]at w;cases w with|cons a b=>cases a;exact .cons _ _ (ih _ b)
theorem Dg{l:OpenLaw}{n:Nat}(hn:l.most=some n){P:Params}{h:Heap}{args:List WData}{vals:List Value}(hpre:l.row.toRowW.claim.pre args=true)(hwl:WellAll P h vals args):∃a vs ns,vals=[Value.ref a]/\args=[WData.list (ns.map WData.int)]/\h.get? a=some {cls:=.type "list",data:=.seq vs.toArray}/\IntsAre vs ns/\ns.length<=n:=by
 have hsh:WShape.hasAll [] args [.list .int]=true:=(pre_splitW hpre).1;have hc:l.pre.holds [] {args:=args}=true:=(pre_splitW hpre).2;obtain⟨d,r,rfl,h1,h2⟩:=hasAllW_cons hsh;obtain rfl:=hasAllW_nil h2;obtain⟨xs,rfl,h3⟩:=hasW_list h1;obtain⟨ns,rfl⟩:=items_int h3;have hlen:ns.length<=n:=by
  unfold OpenLaw.pre at hc;have h4:(WTm.not (.lt (.lit (.int (n:Int))) (.len (.arg 0)))).holds [] {args:=[.list (ns.map .int)]}=true:=by have h4:=(holds_andW hc).1;rw[hn]at h4;exact h4
  have h5:=condW_of h4 (w_not (w_lt w_lit (w_len_list (w_arg rfl))));rw[length_map]at h5;refine Nat.le_of_not_lt fun q=>?_;have q':(n:Int)<((ns.length:Nat):Int):=by omega
  first|(rw[decide_eq_true q']at h5;exact absurd h5 (by decide))|(simp at h5;omega)
 cases hwl with|cons w1 w2=>cases w2;cases w1 with|list ho hall=>exact⟨_,_,ns,rfl,rfl,ho,oW ns _ hall,hlen⟩
theorem DG(l:OpenLaw)(args:List WData):l.row.toRowW.claim.post args (.bool true) args=true:=postW_of (r:=l.row.toRowW) (X:=(true==true)) (show WShape.has [] (.bool true) .bool=true by first|rfl|decide|simp[WShape.has,WShape.arms,WShape.armsAll]) (show(WTm.eq .res (.lit (.bool true))).value [] {args:=args,res:=some (.bool true),after:=args}=some (.bool (true==true))from w_eq_bool (w_res rfl) w_lit) rfl
theorem v9{l:OpenLaw}{n:Nat}{q:Program}{loose:List Str}{XP:(Str->Option Value)->Heap->Prop}{YP:World->Heap->Prop}{d:DefRec}(hn:l.most=some n)(hdf:d.params.defaults=[])(call:∀(w:World)(s₀ s₁:Shared)(mg mb:Str->Option Value)(fa:Addr)(o:Obj)(pm cd doc:Value)(a:Addr)(vs:List Value)(ns:List Int),Ground q loose [] XP w s₀ mg mb s₁.heap->YP w s₁.heap->s₁.heap.get? fa=some o->o.data=.func (docDef d.name d.params d.body d.scope pm cd doc)->s₁.heap.CodeRec cd d.name->mg d.name=some (.ref fa)->s₁.heap.get? a=some {cls:=.type "list",data:=.seq vs.toArray}->IntsAre vs ns->ns.length<=n->s₁.gens=#[]->codeAny (model l.prog w) callerA (.call (.ref fa) ⟨[.ref a],[]⟩) (fun r s'=>r=.ok (.ret (.bool true))/\OldK s₁.heap s'.heap/\s'.os=s₁.os/\AllBare s'.gens) s₁):WalkO q loose XP YP l.row.toRowW d [] (fun f vs=>PySem.call f vs):=by intro w s₀ s₁ mg mb G Y fa o pm cd doc dV kV ho hd hcd hD hmg hg args vals as hpre hlay hrd hwl hlo;obtain rfl:dV=.none:=Dflts.none hD hdf;obtain rfl:kV=.none:=Dflts.noKw hD;obtain⟨a,vs,ns,rfl,rfl,hobj,hints,hlen⟩:=Dg hn hpre hwl;refine enter_call (codeAny_mono (call w s₀ s₁ mg mb fa o pm cd doc a vs ns G Y ho (fd_plain hd) hcd hmg hobj hints hlen hg) fun r s' hq=>?_);obtain⟨rfl,h2,h3,h4⟩:=hq;exact⟨.inl ⟨.bool true,.bool true,[],rfl,fun _=>rfl,.bool true,DG l _,fun _=>⟨List.Pairwise.nil,fun _ hm=>(nomatch hm)⟩⟩,h2,h3,h4⟩
end Att
namespace L2
open PySem PySem.Spec PyProof.Rows
theorem tM:∀{vs:List Value}{ns:List Int},IntsAre vs ns->Vals (ns.map V.int) vs|_,_,.nil=>.nil|_,_,.cons n t h=>.cons ⟨t,rfl⟩ (tM h)
def Only(H:Hp):Prop:=∀b,H b=none\/∃o xs,H b=some (.cX o (.lst xs))
theorem Gr{P:Program}{w:World}{K:PySem.W.Frag}{mg mb:Str->Option Value}{CX:Ha}{k:Nat}{fa a:Addr}{fd:FuncData}{x:Str}{sp:Sp}{s₁:Shared}{vs:List Value}{ns:List Int}(KX:K.In s₁.heap)(hns:s₁.heap.Ns mainGlobals mg)(hb:s₁.heap.Ns builtinsNs mb)(hbb:∀x:Str,x≠"__name__"->mb x=bootBuiltins x)(hlim:s₁.heap.NoLimit)(hg:s₁.gens=#[])(ha:s₁.heap.get? a=some {cls:=.type "list",data:=.seq vs.toArray})(hi:IntsAre vs ns)(hl:ns.length<=sizeLine)(hr:jF k callerA)(F:∀base:Heap,K.In base->base.Ns mainGlobals mg->m5 P w K mg base CX k fa fd [x] sp)(hbind:∀(s:Shared)(u:Value),BindsTo s fd ⟨[u],[]⟩ [(x,u)])(hsp:∀H:Hp,Only H->dX K H a (ns.map V.int)->sp [.ref a] H (fun v _=>v=.bl true) fun _ _ _=>False)(Zv:∀H e s',CX [] H s₁ (fun _ _ _=>False) e s'->False):codeAny (model P w) callerA (.call (.ref fa) ⟨[.ref a],[]⟩) (fun r s'=>r=.ok (.ret (.bool true))/\OldK s₁.heap s'.heap/\s'.os=s₁.os/\AllBare s'.gens) s₁:=by
 have rv:=tM hi;have lenV:=hi.length--from an abstract heap in which nothing but the script may be tracked
 have core:∀H:Hp,Only H->dX K H a (ns.map V.int)->mV P w H s₁.heap->(∀b,H b≠none->b=a)->(H a≠none->K.lookup a=none)->codeAny (model P w) callerA (.call (.ref fa) ⟨[.ref a],[]⟩) (fun r s'=>r=.ok (.ret (.bool true))/\OldK s₁.heap s'.heap/\s'.os=s₁.os/\AllBare s'.gens) s₁:=by
  intro H hO hS hok hA hK;have CP:∀{b:Addr}{o:Obj},s₁.heap.get? b=some o->H b=none->(uU s₁.heap H).get? b=some o:=fun e n=>HD e n;have Zu:∀{b:Addr}{o:Obj}{es:Array DictEntry}{ep:Nat},s₁.heap.get? b=some o->o.data=.dict es ep->H b=none:=fun{b o es ep}e d=>by cases q:H b with|none=>rfl|some u=>have e':b=a:=hA b (by rw[q];simp);subst e';rw[ha]at e;cases e;have d':Data.seq vs.toArray _=Data.dict es ep:=d;cases d'
  have nsK:∀{b:Addr}{m:Str->Option Value},s₁.heap.Ns b m->(uU s₁.heap H).Ns b m:=fun{b m}⟨o,es,ep,e,d,r⟩=>⟨o,es,ep,CP e (Zu e d),d,r⟩;have hKb:K.In (uU s₁.heap H):=fun b o e=>CP (KX b o e) (by cases q:H b with|none=>rfl|some u=>have e':b=a:=hA b (by rw[q];simp);subst e';rw[hK (by rw[q];simp)]at e;cases e);have hM:Mod K mg (uU s₁.heap H):=⟨hKb,nsK hns,⟨mb,nsK hb,hbb⟩,let⟨mc,h1,h2⟩:=hlim;⟨mc,nsK h1,h2⟩⟩;have e0:La P w K mg (uU s₁.heap H) callerA [] s₁ H:=⟨rfl,hM,fun b o e=>Mu e,Nat.le_of_eq (DP _ _),trivial,fun b hb=>absurd (show b∈([]:List Addr)from hb) (by simp),hok,.of_eq hg⟩;refine codeAny_mono ((F _ hKb (nsK hns)).run callerA [] s₁ H ⟨[.ref a],[]⟩ [.ref a] [.ref a] _ _ hr e0 (hbind s₁ (.ref a)) (.cons rfl .nil) (hsp H hO hS)) fun r s' h=>?_;cases r with|error e=>exact(Zv H e s' h).elim|ok fl=>cases fl with|next=>exact False.elim h|brk=>exact False.elim h|cont=>exact False.elim h|ret u=>obtain⟨v,H',os,bare,un,hok',r',q⟩:=h;have q':v=.bl true:=q;subst q';obtain rfl:u=Value.bool true:=r';refine⟨rfl,OldK.of_keep fun b o e=>?_,os,bare⟩;cases q:H b with|none=>exact un.keep b o e q (by intro z;exact absurd (show b∈([]:List Addr)from z) (by simp)) (by simp)|some u=>
        rcases hO b with z|⟨ob,xs,z⟩;.rw[q]at z;cases z
        .have z2:=un.vH b ob _ z;obtain⟨e1,_⟩:=hok b _ z;obtain⟨e2,_⟩:=hok' b _ z2;rw[e]at e1;cases e1;exact e2
 cases hk:K.lookup a with|some o=>--the script is one of the module's own objects
   have e:=KX a o hk;rw[ha]at e;cases e;refine core (fun _=>none) (fun _=>.inl rfl) (.inr ⟨_,vs.toArray,_,hk,rfl,rfl,rfl,by rw[size_toArray,lenV];exact hl,by simpa using rv⟩) (fun b u z=>by have z':(none:Option HO)=some u:=z;cases z') (fun b z=>absurd rfl z) fun z=>absurd rfl z|none=>
   refine core (fun b=>if b=a then some (.cX {cls:=.type "list",data:=.seq vs.toArray} (.lst (ns.map V.int)))else none) (fun b=>?_) (.inl (.inr ⟨{cls:=.type "list",data:=.seq vs.toArray},if_pos rfl⟩)) (fun b u z=>?_) (fun b z=>?_) fun _=>hk
   . by_cases hb:b=a;.exact .inr ⟨_,_,if_pos hb⟩
     .exact .inl (if_neg hb)
   . by_cases hb:b=a;.have z':=(if_pos hb).symm.trans z;cases z';subst hb;exact⟨ha,by rw[length_map];exact hl,vs,_,rv,ha⟩
     .have z':=(if_neg hb).symm.trans z;cases z'
   . by_cases hb:b=a;.exact hb
     .exact absurd (if_neg hb) z
theorem Lr{l:PySem.W.OpenLaw}{n k:Nat}{q:Program}{loose:List Str}{XP:(Str->Option Value)->Heap->Prop}{YP:World->Heap->Prop}{d:DefRec}{K:Params->PySem.W.Frag}{CX:World->Ha}{sp:World->Sp}{x:Str}(hn:l.most=some n)(hn2:n<=sizeLine)(hdf:d.params.defaults=[])(hr:jF k callerA)(hY:∀(w:World)(h:Heap),YP w h->(K w.params).In h)(F:∀(w:World)(mg:Str->Option Value)(fa:Addr)(h:Heap),(K w.params).In h->h.Ns mainGlobals mg->mg d.name=some (.ref fa)->∃ fd:FuncData,(∀(s:Shared)(u:Value),BindsTo s fd ⟨[u],[]⟩ [(x,u)])/\∀base:Heap,(K w.params).In base->base.Ns mainGlobals mg->m5 l.prog w (K w.params) mg base (CX w) k fa fd [x] (sp w))(hsp:∀(w:World)(H:Hp)(a:Addr)(ns:List Int),ns.length<=n->Only H->dX (K w.params) H a (ns.map V.int)->sp w [.ref a] H (fun v _=>v=.bl true) fun _ _ _=>False)(Zv:∀(w:World)(H:Hp)(s:Shared)(e:Value)(s':Shared),CX w [] H s (fun _ _ _=>False) e s'->False):PySem.W.WalkO q loose XP YP l.row.toRowW d [] (fun f vs=>PySem.call f vs):=by refine Att.v9 hn hdf fun w s₀ s₁ mg mb fa o pm cd doc a vs ns G Y ho hd hcd hmg hobj hints hlen hg=>?_;have KX:=hY w _ Y;obtain⟨fd,hb,hF⟩:=F w mg fa _ KX G.T.g hmg;exact Gr KX G.T.g G.T.b G.T.builtins G.T.nolimit hg hobj hints (le_trans hlen hn2) hr hF hb (fun H hO hS=>hsp w H a ns hlen hO hS) fun H e s'=>Zv w H s₁ e s'
theorem Fx{l:PySem.W.OpenLaw}{n k:Nat}{q:Program}{loose:List Str}{XP:(Str->Option Value)->Heap->Prop}{YP:World->Heap->Prop}{d:DefRec}{K:Params->PySem.W.Frag}{CX:Ha}{sp:PySem.W.Frag->Sp}{x:Str}(hn:l.most=some n)(hn2:n<=sizeLine)(hdf:d.params.defaults=[])(hr:jF k callerA)(hY:∀(w:World)(h:Heap),YP w h->(K w.params).In h)(F:∀(w:World)(mg:Str->Option Value)(fa:Addr)(h:Heap),(K w.params).In h->h.Ns mainGlobals mg->mg d.name=some (.ref fa)->∃ fd:FuncData,(∀(s:Shared)(u:Value),BindsTo s fd ⟨[u],[]⟩ [(x,u)])/\∀base:Heap,(K w.params).In base->base.Ns mainGlobals mg->m5 l.prog w (K w.params) mg base CX k fa fd [x] (sp (K w.params)))(hsp:∀(K:PySem.W.Frag)(H:Hp)(a:Addr)(ns:List Int),ns.length<=n->Only H->dX K H a (ns.map V.int)->sp K [.ref a] H (fun v _=>v=.bl true) fun _ _ _=>False)(Zv:∀(H:Hp)(s:Shared)(e:Value)(s':Shared),CX [] H s (fun _ _ _=>False) e s'->False):PySem.W.WalkO q loose XP YP l.row.toRowW d [] (fun f vs=>PySem.call f vs):=Lr (K:=K) (CX:=fun _=>CX) (sp:=fun w=>sp (K w.params)) hn hn2 hdf hr hY F (fun w H a ns h1 h2 h3=>hsp (K w.params) H a ns h1 h2 h3) fun _ H s e s'=>Zv H s e s'
end L2
namespace L2
open PySem PySem.Spec PyProof.Rows
noncomputable def iG(s:Stmt):Arguments:=match s with|.FunctionDef _ a _ _ _ _ _ _ _ _=>a|_=>{posonlyargs:=[],args:=[],vararg:=none,kwonlyargs:=[],kw_defaults:=[],kwarg:=none,defaults:=[]}
noncomputable def fO(s:Stmt):List Stmt:=match s with|.FunctionDef _ _ b _ _ _ _ _ _ _=>b|_=>[]
noncomputable def az(s:Stmt):Scope:=match s with|.FunctionDef _ _ _ _ _ _ sc _ _ _=>sc|_=>{kind:=.function,names:=[],isGenerator:=false,isCoroutine:=false}
abbrev Ft:Ha:=fun _ _ _ _ _ _=>False
abbrev E0:XK:=fun _ _ _=>False
theorem Xv{X:Cx}:Passes Ft X E0:=fun _ _ _ _ _ _ _ h=>h.elim
structure fX(K:PySem.W.Frag)(x qual:Str)(st:Stmt)(f:Addr)(fd:FuncData):Prop where
 ex:∃(oc:Value)(od:Option Addr)(kV doc pm:Value)(an:Option Addr)(cdv ct:Value)(osl:Array (Option Value)),fd=PySem.W.fnOf x qual (iG st) (fO st) (az st) .none kV doc pm an cdv ct/\K.lookup f=some ⟨oc,od,.func fd,osl⟩/\PySem.W.codeIn K cdv qual=true
 kp:keepIn K (.ref f)=true
section
variable{P:Program}{w:World}{K:PySem.W.Frag}{mg:Str->Option Value}{base:Heap}
theorem fX.ok{x qual:Str}{st:Stmt}{f:Addr}{fd:FuncData}{N ps:List Str}{k:Nat}{sp:Sp}(F:fX K x qual st f fd)(S:aH N ps (az st))(len:∀vs H Q E,sp vs H Q E->vs.length=ps.length)(hbody:∀(cdv:Value)(A:Around)(outer:List Env)(s:Shared)(H:Hp)(vs:List V)(Q:VK)(E:XK),jF k (A.deeper (envOfC qual (az st) s.heap.objs.size f cdv))->sp vs H Q E->∃t,wI (yH Ft P w K mg base N qual (az st) f cdv A outer s H E).Zn (fO st) t/\t {nx:=fun _ H'=>Q .non H',rt:=Q} (start N vs) H):m5 P w K mg base Ft (k+1) f fd ps sp:=by obtain⟨oc,od,kV,doc,pm,an,cdv,ct,osl,rfl,lk,hcd⟩:=F.ex;refine WY lk hcd S len fun A outer s H vs Q E hr hsp=>?_;obtain⟨t,h,q⟩:=hbody cdv A outer s H vs Q E hr hsp;exact⟨t,h.Zn,q⟩
theorem fX.binds{x qual:Str}{st:Stmt}{f:Addr}{fd:FuncData}{ps:List Str}(F:fX K x qual st f fd)(h:∀(kV doc pm:Value)(an:Option Addr)(cdv ct:Value)(us:List Value),us.length=ps.length->bindArgs (PySem.W.fnOf x qual (iG st) (fO st) (az st) .none kV doc pm an cdv ct) ⟨us,[]⟩=pure (ps.zip us)):Binds K fd ps []:=by obtain⟨oc,od,kV,doc,pm,an,cdv,ct,osl,rfl,lk,hcd⟩:=F.ex;exact .all (h kV doc pm an cdv ct)
theorem Rq{x qual:Str}{st:Stmt}{f:Addr}{oc:Value}{od an:Option Addr}{osl:Array (Option Value)}{kV doc pm cdv ct:Value}(l:K.lookup f=some ⟨oc,od,.func (PySem.W.fnOf x qual (iG st) (fO st) (az st) .none kV doc pm an cdv ct),osl⟩)(c:PySem.W.codeIn K cdv qual=true)(k:keepIn K (.ref f)=true):fX K x qual st f (PySem.W.fnOf x qual (iG st) (fO st) (az st) .none kV doc pm an cdv ct):=⟨⟨oc,od,kV,doc,pm,an,cdv,ct,osl,rfl,l,c⟩,k⟩
end
def aF(H H':Hp):Prop:=∀b o,H b=some o->H' b=some o
theorem aF.refl(H:Hp):aF H H:=fun _ _ h=>h
theorem aF.trans{H H1 H2:Hp}(a:aF H H1)(b:aF H1 H2):aF H H2:=fun c o h=>b c o (a c o h)
theorem aF.seq{K:PySem.W.Frag}{H H':Hp}{a:Addr}{xs:List V}(e:aF H H')(h:dX K H a xs):dX K H' a xs:=by
 rcases h with(h|⟨o,h⟩)|h;.exact .inl (.inl (e _ _ h))
 .exact .inl (.inr ⟨o,e _ _ h⟩)
 .exact .inr h
end L2
end
section
namespace HH
open PySem
inductive Dc where|k(kvs:List (Int×Int))|t(kvs:List (List Int×Int))deriving DecidableEq
inductive D where|non|bl(b:Bool)|int(i:Int)|str(s:Str)|tup(ds:List D)|lst(ds:List D)|dU(m:Dc)|dv(ks:List Int)(ds:List D)deriving Inhabited
mutual
noncomputable def lg:D->D->Bool|.non,.non=>true|.bl a,.bl b=>a==b|.bl a,.int i=>(if a then(1:Int)else 0)==i|.int i,.bl a=>i==(if a then(1:Int)else 0)|.int i,.int j=>i==j|.str a,.str b=>a==b|.tup xs,.tup ys=>gB xs ys|.lst xs,.lst ys=>gB xs ys|.dU a,.dU b=>decide (a=b)|.dv a xs,.dv b ys=>decide (a=b)&&gB xs ys|_,_=>false
noncomputable def gB:List D->List D->Bool|[],[]=>true|x::xs,y::ys=>lg x y&&gB xs ys|_,_=>false
end
theorem pqi{i j}:lg (.int i) (.int j)=(i==j):=(rfl)
theorem pqt{x y}:lg (.tup x) (.tup y)=gB x y:=(rfl)
theorem pql{x y}:lg (.lst x) (.lst y)=gB x y:=(rfl)
noncomputable def dZ:Nat->D->Bool|_,.non=>true|_,.bl _=>true|_,.int _=>true|_,.str _=>true|0,.tup _=>false|0,.lst _=>false|_,.dU _=>false|_,.dv _ _=>false|n+1,.tup ds=>ds.all (dZ n)|n+1,.lst ds=>ds.all (dZ n)
inductive Sl where|aO|val(b:Bool)(d:D)|own(b:Bool)(ds:List D)|lent(ds:List D)|gH(m:Dc)|hold(rows:List (List D))|cF(kvs:List (Int×D))deriving Inhabited
inductive R where|val(d:D)|own(ds:List D)deriving Inhabited
noncomputable def R.d:R->D|.val d=>d|.own ds=>.lst ds
inductive Res(α:Type)where|ok(a:α)(ρ:List Sl)|exc(k:Nat)(ρ:List Sl)|stuck deriving Inhabited
noncomputable def Res.bind{α β:Type}(f:α->List Sl->Res β):Res α->Res β|.ok a ρ=>f a ρ|.exc _ _=>.stuck|.stuck=>.stuck
noncomputable def lift{α:Type}(o:Option α)(ρ:List Sl):Res α:=match o with|some a=>.ok a ρ|none=>.stuck
inductive Op where|add|sub|mul|fdiv|mod|pow|shl|shr|band|zQ|din|ae3 deriving DecidableEq
inductive Cm where|eq|ne|lt|le|gt|ge|isN|Nv|inn|Zw|isT|Ny|leT deriving DecidableEq
inductive Ty where|int|bool|str|tuple|list|none deriving DecidableEq
inductive Ys where|len|list|tuple|min2|max2|JD|sum|all|abs|int|keys|Wz|rvT|JF deriving DecidableEq
inductive P where|var(i:Nat)|con(d:D)|glob(x:Str)(d:D)|bin(o:Op)(a b:P)|neg(a:P)|not(a:P)|and(a b:P)|or(a b:P)|cmp(o:Cm)(a b:P)|chain(o o':Cm)(a b c:P)|Qc(c a b:P)|tup(as:List P)|lst(as:List P)|idx(a i:P)|slice(a lo hi:P)|call(f:Nat)(as:List P)|blt(b:Ys)(as:List P)|inst(ts:List Ty)(a:P)|comp(src:P)(n:Nat)(is:List Nat)(one:Bool)(test:Option P)(elt:P)|sy(a b:P)|Zx(a:P)|zip(a b:P)|WD(x:Nat)(k d:P)|vw(x:Nat)|Qd(x:Nat)(k:P)|Qe(x:Nat)(k:P)(neg:Bool)|zR(k e:Int)|kZ(i:Nat)(a:P)(n:Nat)(is:List Nat)(one:Bool)(test:Option P)(elt:P)deriving Inhabited
noncomputable abbrev lim:Nat:=16777216
noncomputable def qY:D->D->Option R|.int i,.int j=>some (.val (.int (i+j)))|.lst xs,.lst ys=>if xs.length+ys.length<=lim then some (.own (xs++ys))else none|.tup xs,.tup ys=>if xs.length+ys.length<=lim then some (.val (.tup (xs++ys)))else none|.str x,.str y=>if x.length+y.length<=lim then some (.val (.str (x++y)))else none|_,_=>none
noncomputable def n6:D->D->Option R|.int i,.int j=>if((-18446744073709551616<i/\i<18446744073709551616)\/(-18446744073709551616<j/\j<18446744073709551616))then some (.val (.int (i*j)))else none|.lst xs,.int k=>if 0<=k/\0<xs.length/\xs.length*k.toNat<=lim then some (.own (replicate k.toNat xs).flatten)else none|.tup xs,.int k=>if 0<=k/\0<xs.length/\xs.length*k.toNat<=lim then some (.val (.tup (replicate k.toNat xs).flatten))else none|_,_=>none
noncomputable def wz:D->D->Option R|.int i,.int j=>some (.val (.int (i-j)))|_,_=>none
noncomputable def qH:D->D->Option R|.int i,.int j=>if 0<j/\j<1606938044258990275541962092341162602522202993782792835301376 then some (.val (.int (i/j)))else none|_,_=>none
noncomputable def xQ:D->D->Option R|.int i,.int j=>if 0<j then some (.val (.int (i%j)))else none|_,_=>none
noncomputable def wY:D->D->Option R|.int i,.int j=>if 0<=j/\j<=1000/\i.natAbs<18446744073709551616 then some (.val (.int (i^j.toNat)))else none|_,_=>none
noncomputable def Fv:D->D->Option R|.int i,.int j=>if 0<=j/\j<=1000/\i.natAbs<18446744073709551616 then some (.val (.int (i*2^j.toNat)))else none|_,_=>none
noncomputable def Ib:D->D->Option R|.int i,.int j=>if 0<=j then some (.val (.int (i/2^j.toNat)))else none|_,_=>none
noncomputable def yJ:D->D->Option R|.int i,.int j=>some (.val (.int (Builtin.bitAnd i j)))|_,_=>none
noncomputable def flat:D->Bool|.tup _=>false|.lst _=>false|.dU _=>false|.dv _ _=>false|_=>true
noncomputable def items:D->Option (List D)|.lst ds=>some ds|.tup ds=>some ds|_=>none
noncomputable def Qu:D->Option (List D)|.tup ds=>some ds|_=>none
noncomputable def Ij(x y:D):Option Bool:=if dZ 8 x&&dZ 8 y then some (lg x y)else none
noncomputable def zj(x y:D):Option Bool:=if dZ 8 x&&dZ 8 y then some (!lg x y)else none
noncomputable def J4(f:Int->Int->Bool):D->D->Option Bool|.int i,.int j=>some (f i j)|_,_=>none
noncomputable def jM:D->Bool|.non=>true|_=>false
noncomputable def cmN(neg:Bool)(x:D):D->Option Bool|.non=>some (if neg then !jM x else jM x)|_=>none
noncomputable def Yn(neg:Bool)(x y:D):Option Bool:=(items y).bind fun ys=>if(flat x&&ys.all flat)=true then some (if neg then !(ys.any fun y=>lg y x)else ys.any fun y=>lg y x)else none
noncomputable def Z3(neg:Bool):D->D->Option Bool|.bl b,.bl true=>some (if neg then !b else b)|_,_=>none
noncomputable def bC:List Int->List Int->Bool|[],_::_=>true|i::is,j::js=>decide (i<j)||(decide (i=j)&&bC is js)|_,[]=>false
noncomputable def lE:D->Int|.int i=>i|_=>0
noncomputable def cR:D->List Int|.int i=>[i]|.tup ds=>ds.map lE|_=>[]
noncomputable def gG:D->Bool|.int _=>true|_=>false
noncomputable def Dc.get:Dc->D->Option (Option Int)|.k kvs,.int i=>some ((kvs.find? fun kv=>decide (kv.1=i)).map (·.2))|_,_=>none
noncomputable def putD{κ:Type}[DecidableEq κ](kvs:List (κ×Int))(k:κ)(v:Int):List (κ×Int):=if(kvs.any fun kv=>decide (kv.1=k))=true then kvs.map (fun kv=>if kv.1=k then(kv.1,v)else kv)else kvs++[(k,v)]
noncomputable def Dc.put:Dc->D->Int->Option Dc|.k kvs,.int i,v=>if kvs.length<lim then some (.k (putD kvs i v))else none|_,_,_=>none
noncomputable def lu(kvs:List (Int×D))(k:Int):Option D:=(kvs.find? fun p=>decide (p.1=k)).map (·.2)
noncomputable def fM(kvs:List (Int×D))(k:Int)(d:D):List (Int×D):=if(kvs.any fun p=>decide (p.1=k))=true then kvs.map (fun p=>if p.1=k then(p.1,d)else p)else kvs++[(k,d)]
noncomputable def wK(neg:Bool):D->D->Option R|.int k,.dv ks _=>some (.val (.bl (if neg then !ks.contains k else ks.contains k)))|_,_=>none
noncomputable def Bj:D->D->Option R|.dU m,k=>(m.get k).bind fun o=>o.map fun v=>.val (.int v)|.dv ks ds,.int k=>(lu (ks.zip ds) k).map .val|_,_=>none
noncomputable def rT:Op->D->D->Option R|.add=>qY|.mul=>n6|.sub=>wz|.fdiv=>qH|.mod=>xQ|.pow=>wY|.shl=>Fv|.shr=>Ib|.band=>yJ|.zQ=>Bj|.din=>wK false|.ae3=>wK true
noncomputable def Y0:D->D->Option Bool|.int i,.int j=>some (decide (i<j))|.tup xs,.tup ys=>if(xs.all gG&&ys.all gG)=true then some (bC (xs.map lE) (ys.map lE))else none|_,_=>none
noncomputable def adb:D->D->Option Bool|.int i,.int j=>some (decide (i<=j))|.tup xs,.tup ys=>if(xs.all gG&&ys.all gG)=true then some (!bC (ys.map lE) (xs.map lE))else none|_,_=>none
noncomputable def cm:Cm->D->D->Option Bool|.eq=>Ij|.ne=>zj|.lt=>Y0|.le=>J4 fun i j=>decide (i<=j)|.leT=>adb|.gt=>J4 fun i j=>decide (j<i)|.ge=>J4 fun i j=>decide (j<=i)|.isN=>cmN false|.Nv=>cmN true|.inn=>Yn false|.Zw=>Yn true|.isT=>Z3 false|.Ny=>Z3 true
noncomputable def rE(o:Cm)(x y:D):Option R:=(cm o x y).map fun k=>.val (.bl k)
noncomputable def jC(n:Nat)(i:Int):Option Nat:=if 0<=i then(if i<n then some i.toNat else none)else if-(n:Int)<=i then some (i+n).toNat else none
noncomputable def at'{α:Type}(xs:List α)(i:Int):Option α:=(jC xs.length i).bind fun j=>xs[j]?
noncomputable def dF(n d:Nat):Option Int->Nat|none=>d|some i=>if 0<=i then min i.toNat n else(i+n).toNat
noncomputable def cut{α:Type}(xs:List α)(lo hi:Option Int):List α:=(xs.drop (dF xs.length 0 lo)).take (dF xs.length xs.length hi-dF xs.length 0 lo)
noncomputable def iK:D->Option Int|.int i=>some i|_=>none
noncomputable def yN:D->Option Bool|.bl b=>some b|_=>none
noncomputable def Ly(x y:D):Option R:=(items x).bind fun ds=>(iK y).bind fun i=>(at' ds i).map .val
noncomputable def Ji(x:D):Option R:=(iK x).map fun i=>.val (.int (-i))
noncomputable def Yl:P->Bool|.con .non=>true|_=>false
noncomputable def part(p:P)(d:D):Option (Option Int):=if Yl p then some none else(iK d).map some
noncomputable def J8:D->Option (Option Int)->Option (Option Int)->Option R|.lst xs,some lo,some hi=>some (.own (cut xs lo hi))|.tup xs,some lo,some hi=>some (.val (.tup (cut xs lo hi)))|_,_,_=>none
noncomputable def cz:Ty->D->Bool|.int,.int _=>true|.int,.bl _=>true|.bool,.bl _=>true|.str,.str _=>true|.tuple,.tup _=>true|.list,.lst _=>true|.none,.non=>true|_,_=>false
noncomputable def wW:D->Bool|.tup (x::xs)=>(x::xs).all gG|_=>false
noncomputable def sortable(ds:List D):Bool:=decide (ds.length<=16777216)&&(ds.all gG||ds.all wW)
noncomputable def PL(ds:List D):List D:=ds.mergeSort fun a b=>!bC (cR b) (cR a)
noncomputable def yI:D->Option (List D)|.lst ds=>some ds|_=>none
noncomputable def jG(p:Int×Int):D:=.tup [.int p.1,.int p.2]
noncomputable def blt:Ys->List D->Option R|.len,[x]=>(items x).map fun ds=>.val (.int ds.length)|.list,[x]=>(items x).map fun ds=>.own ds|.tuple,[x]=>(items x).map fun ds=>.val (.tup ds)|.min2,[.int i,.int j]=>some (.val (.int (if j<i then j else i)))|.max2,[.int i,.int j]=>some (.val (.int (if i<j then j else i)))|.JD,[x]=>((items x).bind fun ds=>ds.mapM iK).bind fun ns=>ns.min?.map fun i=>.val (.int i)|.sum,[x]=>((items x).bind fun ds=>ds.mapM iK).map fun ns=>.val (.int ns.sum)|.all,[x]=>((yI x).bind fun ds=>ds.mapM yN).map fun bs=>.val (.bl (bs.all id))|.abs,[.int i]=>some (.val (.int (if i<0 then-i else i)))|.int,[.int i]=>some (.val (.int i))|.int,[.bl b]=>some (.val (.int (if b then 1 else 0)))|.keys,[.dU (.k kvs)]=>some (.val (.tup (kvs.map fun p=>.int p.1)))|.keys,[.dv ks _]=>some (.val (.tup (ks.map D.int)))|.Wz,[.dv ks _]=>if ks.length<=16777216 then some (.own (ks.map D.int))else none|.rvT,[.lst ds]=>some (.val (.tup ds.reverse))|.JF,[.dU (.k kvs)]=>if kvs.length<=16777216/\kvs.Pairwise (fun a b=>a.1<b.1)then some (.own (kvs.map jG))else none|_,_=>none
noncomputable def pk(ρ:List Sl)(i:Nat):Option D:=match ρ[i]?with|some (.val _ d)=>some d|some (.own _ ds)=>some (.lst ds)|some (.lent ds)=>some (.lst ds)|_=>none
noncomputable def Fg(ρ:List Sl)(i:Nat):Option (List D):=match pk ρ i with|some (.lst ds)=>some ds|_=>none
noncomputable abbrev Ev:=List Sl->Res R
noncomputable def isVar:P->Option Nat|.var i=>some i|_=>none
noncomputable def cC(i:Option Nat)(e:Ev)(ρ:List Sl):Res D:=match i with|some i=>lift (pk ρ i) ρ|none=>(e ρ).bind fun r ρ=>.ok r.d ρ
noncomputable def iw(i:Option Nat)(e:Ev)(j:Option Nat)(f:Ev)(ρ:List Sl):Res (D×D):=match i with|some i=>(lift (pk ρ i) ρ).bind fun _ ρ=>(cC j f ρ).bind fun y ρ=>(lift (pk ρ i) ρ).bind fun x ρ=>.ok (x,y) ρ|none=>(cC none e ρ).bind fun x ρ=>(cC j f ρ).bind fun y ρ=>.ok (x,y) ρ
noncomputable def iH(e:Ev)(ρ:List Sl):Res Bool:=(e ρ).bind fun r ρ=>lift (yN r.d) ρ
inductive Arg where|dat(d:D)|tmp(ds:List D)|fC(i:Nat)
noncomputable def vP:R->Arg|.val d=>.dat d|.own ds=>.tmp ds
noncomputable def bT(ρ:List Sl):List Arg->List Nat->Option (List Sl)|[],_=>some []|.dat d::r,used=>(bT ρ r used).map fun s=>.val false d::s|.tmp ds::r,used=>(bT ρ r used).map fun s=>.own false ds::s|.fC i::r,used=>match ρ[i]?with|some (.val _ d)=>(bT ρ r used).map fun s=>.val false d::s|some (.own _ ds)=>if used.contains i then none else(bT ρ r (i::used)).map fun s=>.own true ds::s|some (.lent ds)=>if used.contains i then none else(bT ρ r (i::used)).map fun s=>.lent ds::s|_=>none
noncomputable def bf(i:Nat):List Arg->List Sl->Option Sl|.fC k::as,s::ss=>if k=i then some s else bf i as ss|.dat _::as,_::ss=>bf i as ss|.tmp _::as,_::ss=>bf i as ss|_,_=>none
noncomputable def eO:Sl->Option Sl->Sl|.own b _,some (.own _ ds)=>.own b ds|.own b _,some (.val _ d)=>.val b d|s,_=>s
noncomputable def cZ(as:List Arg)(ss:List Sl):Nat->List Sl->List Sl|_,[]=>[]|i,s::ρ=>eO s (bf i as ss)::cZ as ss (i+1) ρ
noncomputable abbrev Call:=Nat->List Sl->Res R
noncomputable def qi(c:Call)(f:Nat)(as:List Arg)(ρ:List Sl):Res R:=match bT ρ as []with|none=>.stuck|some args=>match c f args with|.ok r args'=>.ok r (cZ as args' 0 ρ)|.exc _ _=>.stuck|.stuck=>.stuck
noncomputable def put(ρ:List Sl)(i:Nat)(s:Sl):Option (List Sl):=match ρ[i]?with|some .aO=>some (ρ.set i s)|some (.val false _)=>some (ρ.set i s)|some (.own false _)=>some (ρ.set i s)|_=>none
noncomputable def putAll(ρ:List Sl):List Nat->List D->Option (List Sl)|[],[]=>some ρ|i::is,d::ds=>(put ρ i (.val false d)).bind fun ρ=>putAll ρ is ds|_,_=>none
noncomputable def cN(ρ:List Sl)(is:List Nat)(one:Bool)(d:D):Option (List Sl):=match one,is,d with|true,[i],d=>put ρ i (.val false d)|false,is,.tup ds=>putAll ρ is ds|_,_,_=>none
noncomputable def srcOf(i:Option Nat)(e:Ev)(ρ:List Sl):Res (List D):=match i with
 |some i=>match ρ[i]?with|some (.val _ d)=>lift (items d) ρ|some (.own _ ds)=>.ok ds (ρ.set i (.lent ds))|some (.lent ds)=>.ok ds ρ|_=>.stuck
 |none=>(e ρ).bind fun r ρ=>lift (items r.d) ρ
noncomputable def aW(ρ₀:List Sl)(i:Option Nat)(ρ:List Sl):List Sl:=match i with
 |some i=>match ρ₀[i]?with|some (.own b ds)=>ρ.set i (.own b ds)|_=>ρ
 |none=>ρ
noncomputable def Gv(i:Nat)(f:Ev)(ρ:List Sl):Res (List D×List Sl):=(f ρ).bind fun r ρb=>(lift (items r.d) ρb).bind fun es ρb=>match ρb[i]?with|some (.val _ d)=>(lift (items d) ρb).bind fun ds ρb=>.ok ((es.zip ds).map fun p=>D.tup [p.1,p.2],ρb) ρb|some (.own _ ds)=>.ok ((es.zip ds).map fun p=>D.tup [p.1,p.2],ρb) (ρb.set i (.lent ds))|some (.lent ds)=>.ok ((es.zip ds).map fun p=>D.tup [p.1,p.2],ρb) ρb|_=>.stuck
noncomputable def turns(is:List Nat)(one:Bool)(test:List Sl->Res Bool)(elt:Ev):List D->List D->List Sl->Res (List D)|[],acc,ρ=>.ok acc ρ|d::r,acc,ρ=>match cN ρ is one d with|none=>.stuck|some ρ=>(test ρ).bind fun b ρ=>if b then(elt ρ).bind fun x ρ=>turns is one test elt r (acc++[x.d]) ρ else turns is one test elt r acc ρ
mutual
noncomputable def ev(c:Call):P->List Sl->Res R
 |.var i,ρ=>match ρ[i]?with|some (.val _ d)=>.ok (.val d) ρ|some (.own b ds)=>.ok (.val (.lst ds)) (ρ.set i (.val b (.lst ds)))|some (.gH (.k kvs))=>.ok (.val (.dU (.k kvs))) (ρ.set i (.val false (.dU (.k kvs))))|some (.cF kvs)=>.ok (.val (.dv (kvs.map (·.1)) (kvs.map (·.2)))) (ρ.set i (.val false (.dv (kvs.map (·.1)) (kvs.map (·.2)))))|_=>.stuck
 |.con d,ρ=>.ok (.val d) ρ|.glob _ d,ρ=>.ok (.val d) ρ|.bin o a b,ρ=>(iw (isVar a) (ev c a) (isVar b) (ev c b) ρ).bind fun xy ρ=>lift (rT o xy.1 xy.2) ρ|.neg a,ρ=>(cC (isVar a) (ev c a) ρ).bind fun x ρ=>lift (Ji x) ρ|.not a,ρ=>(iH (ev c a) ρ).bind fun b ρ=>.ok (.val (.bl (!b))) ρ|.and a b,ρ=>(iH (ev c a) ρ).bind fun x ρ=>if x then(iH (ev c b) ρ).bind fun y ρ=>.ok (.val (.bl y)) ρ else .ok (.val (.bl false)) ρ|.or a b,ρ=>(iH (ev c a) ρ).bind fun x ρ=>if x then .ok (.val (.bl true)) ρ else(iH (ev c b) ρ).bind fun y ρ=>.ok (.val (.bl y)) ρ|.cmp o a b,ρ=>(iw (isVar a) (ev c a) (isVar b) (ev c b) ρ).bind fun xy ρ=>lift (rE o xy.1 xy.2) ρ|.chain o o' a b d,ρ=>(iw (isVar a) (ev c a) (isVar b) (ev c b) ρ).bind fun xy ρ=>(lift (if flat xy.2=true then cm o xy.1 xy.2 else none) ρ).bind fun k ρ=>if k then(cC (isVar d) (ev c d) ρ).bind fun z ρ=>lift (rE o' xy.2 z) ρ else .ok (.val (.bl false)) ρ|.Qc t a b,ρ=>(iH (ev c t) ρ).bind fun k ρ=>if k then(ev c a ρ).bind fun r ρ=>.ok (.val r.d) ρ else(ev c b ρ).bind fun r ρ=>.ok (.val r.d) ρ|.tup as,ρ=>(evs c as ρ).bind fun ds ρ=>.ok (.val (.tup ds)) ρ|.lst as,ρ=>(evs c as ρ).bind fun ds ρ=>.ok (.own ds) ρ|.idx a i,ρ=>(iw (isVar a) (ev c a) (isVar i) (ev c i) ρ).bind fun xy ρ=>lift (Ly xy.1 xy.2) ρ|.slice a l h,ρ=>match isVar a with|some i=>(lift (pk ρ i) ρ).bind fun _ ρ=>(cC (isVar l) (ev c l) ρ).bind fun y ρ=>(cC (isVar h) (ev c h) ρ).bind fun z ρ=>(lift (pk ρ i) ρ).bind fun x ρ=>lift (J8 x (part l y) (part h z)) ρ|none=>(cC none (ev c a) ρ).bind fun x ρ=>(cC (isVar l) (ev c l) ρ).bind fun y ρ=>(cC (isVar h) (ev c h) ρ).bind fun z ρ=>lift (J8 x (part l y) (part h z)) ρ
 |.call f as,ρ=>(yf c as ρ).bind fun xs ρ=>qi c f xs ρ|.blt b [a],ρ=>(cC (isVar a) (ev c a) ρ).bind fun x ρ=>lift (blt b [x]) ρ|.blt b as,ρ=>(evs c as ρ).bind fun ds ρ=>lift (blt b ds) ρ|.inst ts a,ρ=>(cC (isVar a) (ev c a) ρ).bind fun x ρ=>.ok (.val (.bl (ts.any fun t=>cz t x))) ρ|.comp src n is one test elt,ρ=>(srcOf (isVar src) (ev c src) ρ).bind fun ds ρ₁=>if ds.length<=lim then(turns is one (qF c test) (ev c elt) ds [] (ρ₁++replicate n .aO)).bind fun xs ρ₂=>.ok (.own xs) (aW ρ (isVar src) (ρ₂.take ρ₁.length))else .stuck|.sy a b,ρ=>(iw (isVar a) (ev c a) (isVar b) (ev c b) ρ).bind fun xy ρ=>lift ((iK xy.1).bind fun i=>(iK xy.2).bind fun j=>if-1000000<=i/\i<=1000000000/\j<=1000000000/\-1000000000<=j then some (.val (.lst ((List.range (j-i).toNat).map fun(k:Nat)=>D.int (i+(k:Int)))))else none) ρ|.Zx a,ρ=>(ev c a ρ).bind fun r ρ=>lift ((items r.d).map fun ds=>.val (.lst (ds.mapIdx fun i d=>D.tup [.int (i:Int),d]))) ρ|.zip a b,ρ=>(ev c a ρ).bind fun x ρ=>(ev c b ρ).bind fun y ρ=>lift ((items x.d).bind fun ds=>(items y.d).map fun es=>.val (.lst ((ds.zip es).map fun p=>D.tup [p.1,p.2]))) ρ|.WD x k d,ρ=>match ρ[x]?with
   |some (.gH _)=>(cC (isVar k) (ev c k) ρ).bind fun kd ρ=>(cC (isVar d) (ev c d) ρ).bind fun dd ρ=>match ρ[x]?with|some (.gH m)=>lift ((m.get kd).bind fun o=>(iK dd).map fun v=>.val (.int (o.getD v))) ρ|_=>.stuck
   |_=>.stuck
 |.vw x,ρ=>match ρ[x]?with|some (.gH m)=>.ok (.val (.dU m)) (ρ.set x (.val false (.dU m)))|some (.cF kvs)=>.ok (.val (.dv (kvs.map (·.1)) (kvs.map (·.2)))) (ρ.set x (.val false (.dv (kvs.map (·.1)) (kvs.map (·.2)))))|some (.own b ds)=>.ok (.val (.lst ds)) (ρ.set x (.val b (.lst ds)))|some (.val _ d)=>.ok (.val d) ρ|_=>.stuck
 |.Qd x k,ρ=>match ρ[x]?with
   |some (.cF _)=>(cC (isVar k) (ev c k) ρ).bind fun kd ρ=>match ρ[x]?with|some (.cF kvs)=>lift ((iK kd).bind fun k=>(lu kvs k).map .val) ρ|_=>.stuck
   |_=>.stuck
 |.Qe x k neg,ρ=>(cC (isVar k) (ev c k) ρ).bind fun kd ρ=>match ρ[x]?with|some (.cF kvs)=>lift ((iK kd).map fun k=>.val (.bl (if neg then !(kvs.map (·.1)).contains k else(kvs.map (·.1)).contains k))) ρ|_=>.stuck
 |.zR k e,ρ=>.ok (.val (.dv [k] [.int e])) ρ|.kZ i a n is one test elt,ρ=>(Gv i (ev c a) ρ).bind fun du ρ₁=>if du.1.length<=lim then(turns is one (qF c test) (ev c elt) du.1 [] (ρ₁++replicate n .aO)).bind fun xs ρ₂=>.ok (.own xs) (aW du.2 (some i) (ρ₂.take ρ₁.length))else .stuck
noncomputable def evs(c:Call):List P->List Sl->Res (List D)|[],ρ=>.ok [] ρ|a::r,ρ=>(ev c a ρ).bind fun x ρ=>(evs c r ρ).bind fun xs ρ=>.ok (x.d::xs) ρ
noncomputable def yf(c:Call):List P->List Sl->Res (List Arg)|[],ρ=>.ok [] ρ|a::r,ρ=>match isVar a with|some i=>(lift (pk ρ i) ρ).bind fun _ ρ=>(yf c r ρ).bind fun xs ρ=>.ok (.fC i::xs) ρ|none=>(ev c a ρ).bind fun x ρ=>(yf c r ρ).bind fun xs ρ=>.ok (vP x::xs) ρ
noncomputable def qF(c:Call):Option P->List Sl->Res Bool|none,ρ=>.ok true ρ|some t,ρ=>iH (ev c t) ρ
end
theorem E1{c i ρ}:ev c (.var i) ρ=match ρ[i]?with|some (.val _ d)=>.ok (.val d) ρ|some (.own b ds)=>.ok (.val (.lst ds)) (ρ.set i (.val b (.lst ds)))|some (.gH (.k kvs))=>.ok (.val (.dU (.k kvs))) (ρ.set i (.val false (.dU (.k kvs))))|some (.cF kvs)=>.ok (.val (.dv (kvs.map (·.1)) (kvs.map (·.2)))) (ρ.set i (.val false (.dv (kvs.map (·.1)) (kvs.map (·.2)))))|_=>.stuck:=(rfl)
theorem E2{c d ρ}:ev c (.con d) ρ=.ok (.val d) ρ:=(rfl)
theorem E3{c w1 d ρ}:ev c (.glob w1 d) ρ=.ok (.val d) ρ:=(rfl)
theorem E4{c o a b ρ}:ev c (.bin o a b) ρ=(iw (isVar a) (ev c a) (isVar b) (ev c b) ρ).bind fun xy ρ=>lift (rT o xy.1 xy.2) ρ:=(rfl)
theorem E5{c a ρ}:ev c (.neg a) ρ=(cC (isVar a) (ev c a) ρ).bind fun x ρ=>lift (Ji x) ρ:=(rfl)
theorem E6{c a ρ}:ev c (.not a) ρ=(iH (ev c a) ρ).bind fun b ρ=>.ok (.val (.bl (!b))) ρ:=(rfl)
theorem E7{c a b ρ}:ev c (.and a b) ρ=(iH (ev c a) ρ).bind fun x ρ=>if x then(iH (ev c b) ρ).bind fun y ρ=>.ok (.val (.bl y)) ρ else .ok (.val (.bl false)) ρ:=(rfl)
theorem E8{c a b ρ}:ev c (.or a b) ρ=(iH (ev c a) ρ).bind fun x ρ=>if x then .ok (.val (.bl true)) ρ else(iH (ev c b) ρ).bind fun y ρ=>.ok (.val (.bl y)) ρ:=(rfl)
theorem E9{c o a b ρ}:ev c (.cmp o a b) ρ=(iw (isVar a) (ev c a) (isVar b) (ev c b) ρ).bind fun xy ρ=>lift (rE o xy.1 xy.2) ρ:=(rfl)
theorem E10{c o o' a b d ρ}:ev c (.chain o o' a b d) ρ=(iw (isVar a) (ev c a) (isVar b) (ev c b) ρ).bind fun xy ρ=>(lift (if flat xy.2=true then cm o xy.1 xy.2 else none) ρ).bind fun k ρ=>if k then(cC (isVar d) (ev c d) ρ).bind fun z ρ=>lift (rE o' xy.2 z) ρ else .ok (.val (.bl false)) ρ:=(rfl)
theorem E11{c t a b ρ}:ev c (.Qc t a b) ρ=(iH (ev c t) ρ).bind fun k ρ=>if k then(ev c a ρ).bind fun r ρ=>.ok (.val r.d) ρ else(ev c b ρ).bind fun r ρ=>.ok (.val r.d) ρ:=(rfl)
theorem E12{c as ρ}:ev c (.tup as) ρ=(evs c as ρ).bind fun ds ρ=>.ok (.val (.tup ds)) ρ:=(rfl)
theorem E13{c as ρ}:ev c (.lst as) ρ=(evs c as ρ).bind fun ds ρ=>.ok (.own ds) ρ:=(rfl)
theorem E14{c a i ρ}:ev c (.idx a i) ρ=(iw (isVar a) (ev c a) (isVar i) (ev c i) ρ).bind fun xy ρ=>lift (Ly xy.1 xy.2) ρ:=(rfl)
theorem E15{c a l h ρ}:ev c (.slice a l h) ρ=match isVar a with|some i=>(lift (pk ρ i) ρ).bind fun _ ρ=>(cC (isVar l) (ev c l) ρ).bind fun y ρ=>(cC (isVar h) (ev c h) ρ).bind fun z ρ=>(lift (pk ρ i) ρ).bind fun x ρ=>lift (J8 x (part l y) (part h z)) ρ|none=>(cC none (ev c a) ρ).bind fun x ρ=>(cC (isVar l) (ev c l) ρ).bind fun y ρ=>(cC (isVar h) (ev c h) ρ).bind fun z ρ=>lift (J8 x (part l y) (part h z)) ρ:=(rfl)
theorem E16{c f as ρ}:ev c (.call f as) ρ=(yf c as ρ).bind fun xs ρ=>qi c f xs ρ:=(rfl)
theorem E17{c b a ρ}:ev c (.blt b [a]) ρ=(cC (isVar a) (ev c a) ρ).bind fun x ρ=>lift (blt b [x]) ρ:=(rfl)
theorem E18{c b x y r ρ}:ev c (.blt b (x::y::r)) ρ=(evs c (x::y::r) ρ).bind fun ds ρ=>lift (blt b ds) ρ:=(rfl)
theorem Yw{c b ρ}:ev c (.blt b []) ρ=(evs c [] ρ).bind fun ds ρ=>lift (blt b ds) ρ:=(rfl)
theorem E19{c ts a ρ}:ev c (.inst ts a) ρ=(cC (isVar a) (ev c a) ρ).bind fun x ρ=>.ok (.val (.bl (ts.any fun t=>cz t x))) ρ:=(rfl)
theorem E20{c src n is one test elt ρ}:ev c (.comp src n is one test elt) ρ=(srcOf (isVar src) (ev c src) ρ).bind fun ds ρ₁=>if ds.length<=lim then(turns is one (qF c test) (ev c elt) ds [] (ρ₁++replicate n .aO)).bind fun xs ρ₂=>.ok (.own xs) (aW ρ (isVar src) (ρ₂.take ρ₁.length))else .stuck:=(rfl)
theorem E21{c a b ρ}:ev c (.sy a b) ρ=(iw (isVar a) (ev c a) (isVar b) (ev c b) ρ).bind fun xy ρ=>lift ((iK xy.1).bind fun i=>(iK xy.2).bind fun j=>if-1000000<=i/\i<=1000000000/\j<=1000000000/\-1000000000<=j then some (.val (.lst ((List.range (j-i).toNat).map fun(k:Nat)=>D.int (i+(k:Int)))))else none) ρ:=(rfl)
theorem E22{c a ρ}:ev c (.Zx a) ρ=(ev c a ρ).bind fun r ρ=>lift ((items r.d).map fun ds=>.val (.lst (ds.mapIdx fun i d=>D.tup [.int (i:Int),d]))) ρ:=(rfl)
theorem E23{c a b ρ}:ev c (.zip a b) ρ=(ev c a ρ).bind fun x ρ=>(ev c b ρ).bind fun y ρ=>lift ((items x.d).bind fun ds=>(items y.d).map fun es=>.val (.lst ((ds.zip es).map fun p=>D.tup [p.1,p.2]))) ρ:=(rfl)
theorem E24{c x k d ρ}:ev c (.WD x k d) ρ=match ρ[x]?with
 |some (.gH _)=>(cC (isVar k) (ev c k) ρ).bind fun kd ρ=>(cC (isVar d) (ev c d) ρ).bind fun dd ρ=>match ρ[x]?with|some (.gH m)=>lift ((m.get kd).bind fun o=>(iK dd).map fun v=>.val (.int (o.getD v))) ρ|_=>.stuck
 |_=>.stuck:=(rfl)
theorem E25{c x ρ}:ev c (.vw x) ρ=match ρ[x]?with|some (.gH m)=>.ok (.val (.dU m)) (ρ.set x (.val false (.dU m)))|some (.cF kvs)=>.ok (.val (.dv (kvs.map (·.1)) (kvs.map (·.2)))) (ρ.set x (.val false (.dv (kvs.map (·.1)) (kvs.map (·.2)))))|some (.own b ds)=>.ok (.val (.lst ds)) (ρ.set x (.val b (.lst ds)))|some (.val _ d)=>.ok (.val d) ρ|_=>.stuck:=(rfl)
theorem E26{c x k ρ}:ev c (.Qd x k) ρ=match ρ[x]?with
 |some (.cF _)=>(cC (isVar k) (ev c k) ρ).bind fun kd ρ=>match ρ[x]?with|some (.cF kvs)=>lift ((iK kd).bind fun k=>(lu kvs k).map .val) ρ|_=>.stuck
 |_=>.stuck:=(rfl)
theorem E27{c x k neg ρ}:ev c (.Qe x k neg) ρ=(cC (isVar k) (ev c k) ρ).bind fun kd ρ=>match ρ[x]?with|some (.cF kvs)=>lift ((iK kd).map fun k=>.val (.bl (if neg then !(kvs.map (·.1)).contains k else(kvs.map (·.1)).contains k))) ρ|_=>.stuck:=(rfl)
theorem E28{c k e ρ}:ev c (.zR k e) ρ=.ok (.val (.dv [k] [.int e])) ρ:=(rfl)
theorem E29{c i a n is one test elt ρ}:ev c (.kZ i a n is one test elt) ρ=(Gv i (ev c a) ρ).bind fun du ρ₁=>if du.1.length<=lim then(turns is one (qF c test) (ev c elt) du.1 [] (ρ₁++replicate n .aO)).bind fun xs ρ₂=>.ok (.own xs) (aW du.2 (some i) (ρ₂.take ρ₁.length))else .stuck:=(rfl)
inductive S where|pass|brk|cont|bad|expr(e:P)|asg(i:Nat)(e:P)|par(i j:Nat)(a b:P)|unp(i:List Nat)(e:P)|Nz(x:Nat)(i e:P)|app(x:Nat)(e:P)|ret(e:P)|Zy|ifs(c:P)(a b:List S)|iY(src:P)(i:List Nat)(one:Bool)(body:List S)|whl(c:P)(body:List S)|aug(x:Nat)(sub:Bool)(e:P)|JG(x:Nat)(i:P)(sub:Bool)(e:P)|JH(x:Nat)(t:Bool)|dput(x:Nat)(k e:P)|JK(x:Nat)(src:P)(k:Nat)(is:List Nat)(one:Bool)(elt:P)|JL(x:Nat)(i e:P)|Ex(src:P)(is:List Nat)(one:Bool)(body:List S)|cX(x:Nat)|Ey(x:Nat)|JM(x:Nat)(k e:Int)|fM(x:Nat)(k e:P)deriving Inhabited
inductive Fl where|next|brk|cont|ret(r:R)deriving Inhabited
noncomputable def ym:R->Sl|.val d=>.val false d|.own ds=>.own false ds
noncomputable def iy(is:List Nat)(one:Bool)(body:List Sl->Res Fl):List D->List Sl->Res Fl|[],ρ=>.ok .next ρ|d::r,ρ=>match cN ρ is one d with|none=>.stuck|some ρ=>(body ρ).bind fun fl ρ=>match fl with|.next=>iy is one body r ρ|.cont=>iy is one body r ρ|.brk=>.ok .next ρ|.ret r=>.ok (.ret r) ρ
noncomputable def su(test:List Sl->Res Bool)(body:List Sl->Res Fl):Nat->List Sl->Res Fl|0,_=>.stuck|n+1,ρ=>(test ρ).bind fun b ρ=>if b then(body ρ).bind fun fl ρ=>match fl with|.next=>su test body n ρ|.cont=>su test body n ρ|.brk=>.ok .next ρ|.ret r=>.ok (.ret r) ρ else .ok .next ρ
noncomputable def fG(is:List Nat)(one:Bool)(elt:Ev):List D->List (List D)->List Sl->Res (List (List D))|[],acc,ρ=>.ok acc ρ|d::r,acc,ρ=>match cN ρ is one d with|none=>.stuck|some ρ=>(elt ρ).bind fun x ρ=>match x with|.own ds=>fG is one elt r (acc++[ds]) ρ|.val _=>.stuck
noncomputable def rowAt(rows:List (List D))(k:Int):Option (List D):=(jC rows.length k).bind fun r=>rows[r]?
noncomputable def jJ(rows:List (List D))(k:Int)(f:List D->Option (List D)):Option (List (List D)):=(jC rows.length k).bind fun r=>(rows[r]?).bind fun row=>(f row).map fun km=>rows.set r km
noncomputable def setAt(l:Int)(d:D)(row:List D):Option (List D):=(jC row.length l).map fun m=>row.set m d
noncomputable def jf(ρ:List Sl)(x:Nat):Option (List (List D)):=match ρ[x]?with|some (.hold rows)=>some rows|_=>none
noncomputable def vy(ρ:List Sl)(x:Nat)(k:D):Option (List D):=(jf ρ x).bind fun rows=>(iK k).bind fun k=>rowAt rows k
noncomputable def Du(ρ:List Sl)(x:Nat)(o:Option (List (List D))):Res Fl:=match o with|some rows=>.ok .next (ρ.set x (.hold rows))|none=>.stuck
noncomputable def rowOne(x r:Nat)(ej ek el:List Sl->Res D)(ρ:List Sl):Res Fl:=(ek ρ).bind fun k ρ=>(lift ((jf ρ x).bind fun rows=>(rows[r]?).bind fun row=>(iK k).bind fun k=>(at' row k).bind iK) ρ).bind fun u ρ=>(el ρ).bind fun l ρ=>(lift ((jf ρ x).bind fun rows=>(rows[r]?).bind fun row=>(iK l).bind fun l=>(at' row l).bind iK) ρ).bind fun v ρ=>(ej ρ).bind fun j ρ=>Du ρ x ((jf ρ x).bind fun rows=>(rows[r]?).bind fun row=>(iK j).bind fun j=>(setAt j (.int (u+v)) row).map fun km=>rows.set r km)
noncomputable def Rh(x y:Nat)(ej ek el:List Sl->Res D):Nat->Nat->List Sl->Res Fl|0,_,ρ=>.ok .next ρ|m+1,r,ρ=>(lift (put ρ y .aO) ρ).bind fun ρ _=>(rowOne x r ej ek el ρ).bind fun _ ρ=>Rh x y ej ek el m (r+1) ρ
noncomputable def UJ(is:List Nat)(one:Bool)(body:List Sl->Res Fl)(bx:List Sl->Option (Nat×List Sl)):List D->List Sl->Option (Nat×List Sl)|[],_=>none|d::r,ρ=>match cN ρ is one d with|none=>none|some ρ=>match bx ρ with|some x=>some x|none=>match body ρ with|.ok .next ρ1=>UJ is one body bx r ρ1|.ok .cont ρ1=>UJ is one body bx r ρ1|_=>none
noncomputable def Sv:P->P|.idx a _=>a|e=>e
noncomputable def Ov(c:Call)(e:P)(ρ:List Sl):Option (Nat×List Sl):=match Sv e with
 |.call f as=>match yf c as ρ with
   |.ok xs ρ1=>match bT ρ1 xs []with
     |some args=>match c f args with|.exc k args'=>some (k,cZ xs args' 0 ρ1)|_=>none
     |none=>none
   |_=>none
 |_=>none
mutual
noncomputable def ex(c:Call)(n:Nat):S->List Sl->Res Fl
 |.pass,ρ=>.ok .next ρ|.brk,ρ=>.ok .brk ρ|.cont,ρ=>.ok .cont ρ|.bad,_=>.stuck|.expr e,ρ=>(ev c e ρ).bind fun _ ρ=>.ok .next ρ|.asg i e,ρ=>(ev c e ρ).bind fun r ρ=>(lift (put ρ i (ym r)) ρ).bind fun ρ' _=>.ok .next ρ'|.par i j a b,ρ=>(ev c a ρ).bind fun x ρ=>(ev c b ρ).bind fun y ρ=>(lift ((put ρ i (.val false x.d)).bind fun ρ=>put ρ j (.val false y.d)) ρ).bind fun ρ' _=>.ok .next ρ'|.unp is e,ρ=>(ev c e ρ).bind fun r ρ=>match r.d with|.tup ds=>(lift (putAll ρ is ds) ρ).bind fun ρ' _=>.ok .next ρ'|_=>.stuck
 |.Nz x i e,ρ=>(ev c e ρ).bind fun r ρ=>(lift (pk ρ x) ρ).bind fun _ ρ=>(cC (isVar i) (ev c i) ρ).bind fun k ρ=>match ρ[x]?,k with
   |some (.own b ds),.int k=>match jC ds.length k with|some j=>.ok .next (ρ.set x (.own b (ds.set j r.d)))|none=>.stuck
   |_,_=>.stuck
 |.app x e,ρ=>(lift (Fg ρ x) ρ).bind fun _ ρ=>(ev c e ρ).bind fun r ρ=>match ρ[x]?with|some (.own b ds)=>if ds.length<lim then .ok .next (ρ.set x (.own b (ds++[r.d])))else .stuck|_=>.stuck
 |.ret e,ρ=>match isVar e with
   |some i=>match ρ[i]?with|some (.own false ds)=>.ok (.ret (.own ds)) (ρ.set i .aO)|_=>(ev c e ρ).bind fun r ρ=>.ok (.ret r) ρ
   |none=>(ev c e ρ).bind fun r ρ=>.ok (.ret r) ρ
 |.Zy,ρ=>.ok (.ret (.val .non)) ρ|.ifs t a b,ρ=>(iH (ev c t) ρ).bind fun k ρ=>if k then ik c n a ρ else ik c n b ρ|.iY src is one body,ρ=>(srcOf (isVar src) (ev c src) ρ).bind fun ds ρ₁=>(iy is one (ik c n body) ds ρ₁).bind fun fl ρ₂=>.ok fl (aW ρ (isVar src) ρ₂)|.whl t body,ρ=>su (iH (ev c t)) (ik c n body) n ρ|.aug x sub e,ρ=>(lift (pk ρ x) ρ).bind fun a ρ=>(cC (isVar e) (ev c e) ρ).bind fun b ρ=>match a,b with|.int i,.int j=>(lift (put ρ x (.val false (.int (if sub then i-j else i+j)))) ρ).bind fun ρ' _=>.ok .next ρ'|_,_=>.stuck
 |.JG x i sub e,ρ=>(lift (Fg ρ x) ρ).bind fun _ ρ=>(cC (isVar i) (ev c i) ρ).bind fun k ρ=>(lift (Fg ρ x) ρ).bind fun l ρ=>(lift ((iK k).bind fun i=>at' l i) ρ).bind fun a ρ=>(cC (isVar e) (ev c e) ρ).bind fun b ρ=>match a,b,ρ[x]?,k with
   |.int u,.int v,some (.own bb ds),.int k=>match jC ds.length k with|some j=>.ok .next (ρ.set x (.own bb (ds.set j (.int (if sub then u-v else u+v)))))|none=>.stuck
   |_,_,_,_=>.stuck
 |.JH x t,ρ=>match ρ[x]?with|some .aO=>.ok .next (ρ.set x (.gH (if t then .t []else .k [])))|_=>.stuck
 |.dput x k e,ρ=>(ev c e ρ).bind fun r ρ=>match ρ[x]?with
   |some (.gH _)=>(cC (isVar k) (ev c k) ρ).bind fun kd ρ=>match ρ[x]?,r with
     |some (.gH m),.val (.int v)=>match m.put kd v with|some m'=>.ok .next (ρ.set x (.gH m'))|none=>.stuck
     |_,_=>.stuck
   |_=>.stuck
 |.JK x src k is one elt,ρ=>(srcOf (isVar src) (ev c src) ρ).bind fun ds ρ₁=>if ds.length<=lim then(fG is one (ev c elt) ds [] (ρ₁++replicate k .aO)).bind fun rows ρ₂=>(lift (put (aW ρ (isVar src) (ρ₂.take ρ₁.length)) x (.hold rows)) ρ).bind fun ρ' _=>.ok .next ρ' else .stuck|.JL x i e,ρ=>(cC (isVar i) (ev c i) ρ).bind fun k ρ=>(lift (vy ρ x k) ρ).bind fun _ ρ=>(ev c e ρ).bind fun r ρ=>Du ρ x ((jf ρ x).bind fun rows=>(iK k).bind fun k=>jJ rows k fun row=>if row.length<lim then some (row++[r.d])else none)|.Ex src is one body,ρ=>(ev c src ρ).bind fun r ρ₁=>(lift (items r.d) ρ₁).bind fun ds ρ₁=>iy is one (ik c n body) ds ρ₁|.cX x,ρ=>match ρ[x]?with|some (.hold rows)=>.ok .next (ρ.set x (.val false (.lst (rows.map D.lst))))|_=>.stuck
 |.Ey x,ρ=>match ρ[x]?with|some .aO=>.ok .next (ρ.set x (.cF []))|some (.cF _)=>.ok .next (ρ.set x (.cF []))|some (.val false _)=>.ok .next (ρ.set x (.cF []))|_=>.stuck
 |.JM x k e,ρ=>match ρ[x]?with|some .aO=>.ok .next (ρ.set x (.cF [(k,.int e)]))|some (.cF _)=>.ok .next (ρ.set x (.cF [(k,.int e)]))|some (.val false _)=>.ok .next (ρ.set x (.cF [(k,.int e)]))|_=>.stuck
 |.fM x k e,ρ=>(ev c e ρ).bind fun r ρ=>match ρ[x]?with
   |some (.cF _)=>(cC (isVar k) (ev c k) ρ).bind fun kd ρ=>match ρ[x]?,kd with|some (.cF kvs),.int k=>if kvs.length<lim then .ok .next (ρ.set x (.cF (fM kvs k r.d)))else .stuck|_,_=>.stuck
   |_=>.stuck
noncomputable def ik(c:Call)(n:Nat):List S->List Sl->Res Fl|[],ρ=>.ok .next ρ|s::r,ρ=>(ex c n s ρ).bind fun fl ρ=>match fl with|.next=>ik c n r ρ|fl=>.ok fl ρ
noncomputable def exX(c:Call)(n:Nat):S->List Sl->Option (Nat×List Sl)
 |.ifs t a b,ρ=>match iH (ev c t) ρ with|.ok x ρ1=>if x then GC c n a ρ1 else GC c n b ρ1|_=>none
 |.iY src is one body,ρ=>match srcOf (isVar src) (ev c src) ρ with|.ok ds ρ1=>(UJ is one (ik c n body) (GC c n body) ds ρ1).map fun x=>(x.1,aW ρ (isVar src) x.2)|_=>none
 |.asg _ e,ρ=>Ov c e ρ|.expr e,ρ=>Ov c e ρ|_,_=>none
noncomputable def GC(c:Call)(n:Nat):List S->List Sl->Option (Nat×List Sl)|[],_=>none|s::r,ρ=>match exX c n s ρ with|some x=>some x|none=>match ex c n s ρ with|.ok .next ρ1=>GC c n r ρ1|_=>none
end
theorem X1{c n ρ}:ex c n (.pass) ρ=.ok .next ρ:=(rfl)
theorem X2{c n ρ}:ex c n (.brk) ρ=.ok .brk ρ:=(rfl)
theorem X3{c n ρ}:ex c n (.cont) ρ=.ok .cont ρ:=(rfl)
theorem X4{c n ρ}:ex c n (.bad) ρ=.stuck:=(rfl)
theorem X5{c n e ρ}:ex c n (.expr e) ρ=(ev c e ρ).bind fun _ ρ=>.ok .next ρ:=(rfl)
theorem X6{c n i e ρ}:ex c n (.asg i e) ρ=(ev c e ρ).bind fun r ρ=>(lift (put ρ i (ym r)) ρ).bind fun ρ' _=>.ok .next ρ':=(rfl)
theorem X7{c n i j a b ρ}:ex c n (.par i j a b) ρ=(ev c a ρ).bind fun x ρ=>(ev c b ρ).bind fun y ρ=>(lift ((put ρ i (.val false x.d)).bind fun ρ=>put ρ j (.val false y.d)) ρ).bind fun ρ' _=>.ok .next ρ':=(rfl)
theorem X8{c n is e ρ}:ex c n (.unp is e) ρ=(ev c e ρ).bind fun r ρ=>match r.d with|.tup ds=>(lift (putAll ρ is ds) ρ).bind fun ρ' _=>.ok .next ρ'|_=>.stuck:=(rfl)
theorem X9{c n x i e ρ}:ex c n (.Nz x i e) ρ=(ev c e ρ).bind fun r ρ=>(lift (pk ρ x) ρ).bind fun _ ρ=>(cC (isVar i) (ev c i) ρ).bind fun k ρ=>match ρ[x]?,k with
 |some (.own b ds),.int k=>match jC ds.length k with|some j=>.ok .next (ρ.set x (.own b (ds.set j r.d)))|none=>.stuck
 |_,_=>.stuck:=(rfl)
theorem X10{c n x e ρ}:ex c n (.app x e) ρ=(lift (Fg ρ x) ρ).bind fun _ ρ=>(ev c e ρ).bind fun r ρ=>match ρ[x]?with|some (.own b ds)=>if ds.length<lim then .ok .next (ρ.set x (.own b (ds++[r.d])))else .stuck|_=>.stuck:=(rfl)
theorem X11{c n e ρ}:ex c n (.ret e) ρ=match isVar e with
 |some i=>match ρ[i]?with|some (.own false ds)=>.ok (.ret (.own ds)) (ρ.set i .aO)|_=>(ev c e ρ).bind fun r ρ=>.ok (.ret r) ρ
 |none=>(ev c e ρ).bind fun r ρ=>.ok (.ret r) ρ:=(rfl)
theorem X12{c n ρ}:ex c n (.Zy) ρ=.ok (.ret (.val .non)) ρ:=(rfl)
theorem X13{c n t a b ρ}:ex c n (.ifs t a b) ρ=(iH (ev c t) ρ).bind fun k ρ=>if k then ik c n a ρ else ik c n b ρ:=(rfl)
theorem X14{c n src is one body ρ}:ex c n (.iY src is one body) ρ=(srcOf (isVar src) (ev c src) ρ).bind fun ds ρ₁=>(iy is one (ik c n body) ds ρ₁).bind fun fl ρ₂=>.ok fl (aW ρ (isVar src) ρ₂):=(rfl)
theorem X15{c n t body ρ}:ex c n (.whl t body) ρ=su (iH (ev c t)) (ik c n body) n ρ:=(rfl)
theorem X16{c n x sub e ρ}:ex c n (.aug x sub e) ρ=(lift (pk ρ x) ρ).bind fun a ρ=>(cC (isVar e) (ev c e) ρ).bind fun b ρ=>match a,b with|.int i,.int j=>(lift (put ρ x (.val false (.int (if sub then i-j else i+j)))) ρ).bind fun ρ' _=>.ok .next ρ'|_,_=>.stuck:=(rfl)
theorem X17{c n x i sub e ρ}:ex c n (.JG x i sub e) ρ=(lift (Fg ρ x) ρ).bind fun _ ρ=>(cC (isVar i) (ev c i) ρ).bind fun k ρ=>(lift (Fg ρ x) ρ).bind fun l ρ=>(lift ((iK k).bind fun i=>at' l i) ρ).bind fun a ρ=>(cC (isVar e) (ev c e) ρ).bind fun b ρ=>match a,b,ρ[x]?,k with
 |.int u,.int v,some (.own bb ds),.int k=>match jC ds.length k with|some j=>.ok .next (ρ.set x (.own bb (ds.set j (.int (if sub then u-v else u+v)))))|none=>.stuck
 |_,_,_,_=>.stuck:=(rfl)
theorem X18{c n x t ρ}:ex c n (.JH x t) ρ=match ρ[x]?with|some .aO=>.ok .next (ρ.set x (.gH (if t then .t []else .k [])))|_=>.stuck:=(rfl)
theorem X19{c n x k e ρ}:ex c n (.dput x k e) ρ=(ev c e ρ).bind fun r ρ=>match ρ[x]?with
 |some (.gH _)=>(cC (isVar k) (ev c k) ρ).bind fun kd ρ=>match ρ[x]?,r with
   |some (.gH m),.val (.int v)=>match m.put kd v with|some m'=>.ok .next (ρ.set x (.gH m'))|none=>.stuck
   |_,_=>.stuck
 |_=>.stuck:=(rfl)
theorem X20{c n x src k is one elt ρ}:ex c n (.JK x src k is one elt) ρ=(srcOf (isVar src) (ev c src) ρ).bind fun ds ρ₁=>if ds.length<=lim then(fG is one (ev c elt) ds [] (ρ₁++replicate k .aO)).bind fun rows ρ₂=>(lift (put (aW ρ (isVar src) (ρ₂.take ρ₁.length)) x (.hold rows)) ρ).bind fun ρ' _=>.ok .next ρ' else .stuck:=(rfl)
theorem X21{c n x i e ρ}:ex c n (.JL x i e) ρ=(cC (isVar i) (ev c i) ρ).bind fun k ρ=>(lift (vy ρ x k) ρ).bind fun _ ρ=>(ev c e ρ).bind fun r ρ=>Du ρ x ((jf ρ x).bind fun rows=>(iK k).bind fun k=>jJ rows k fun row=>if row.length<lim then some (row++[r.d])else none):=(rfl)
theorem X22{c n src is one body ρ}:ex c n (.Ex src is one body) ρ=(ev c src ρ).bind fun r ρ₁=>(lift (items r.d) ρ₁).bind fun ds ρ₁=>iy is one (ik c n body) ds ρ₁:=(rfl)
theorem X23{c n x ρ}:ex c n (.cX x) ρ=match ρ[x]?with|some (.hold rows)=>.ok .next (ρ.set x (.val false (.lst (rows.map D.lst))))|_=>.stuck:=(rfl)
theorem X24{c n x ρ}:ex c n (.Ey x) ρ=match ρ[x]?with|some .aO=>.ok .next (ρ.set x (.cF []))|some (.cF _)=>.ok .next (ρ.set x (.cF []))|some (.val false _)=>.ok .next (ρ.set x (.cF []))|_=>.stuck:=(rfl)
theorem X25{c n x k e ρ}:ex c n (.JM x k e) ρ=match ρ[x]?with|some .aO=>.ok .next (ρ.set x (.cF [(k,.int e)]))|some (.cF _)=>.ok .next (ρ.set x (.cF [(k,.int e)]))|some (.val false _)=>.ok .next (ρ.set x (.cF [(k,.int e)]))|_=>.stuck:=(rfl)
theorem X26{c n x k e ρ}:ex c n (.fM x k e) ρ=(ev c e ρ).bind fun r ρ=>match ρ[x]?with
 |some (.cF _)=>(cC (isVar k) (ev c k) ρ).bind fun kd ρ=>match ρ[x]?,kd with|some (.cF kvs),.int k=>if kvs.length<lim then .ok .next (ρ.set x (.cF (fM kvs k r.d)))else .stuck|_,_=>.stuck
 |_=>.stuck:=(rfl)
structure Fd where
 np:Nat
 nn:Nat
 body:List S deriving Inhabited
noncomputable abbrev Tab:=Nat->Option Fd
noncomputable def enter(c:Call)(n:Nat)(d:Fd)(args:List Sl):Res R:=if args.length=d.np/\d.np<=d.nn then match ik c n d.body (args++replicate (d.nn-d.np) .aO)with|.ok .next ρ=>.ok (.val .non) (ρ.take d.np)|.ok (.ret r) ρ=>.ok r (ρ.take d.np)|_=>match GC c n d.body (args++replicate (d.nn-d.np) .aO)with|some (k,ρ)=>.exc k (ρ.take d.np)|none=>.stuck else .stuck
noncomputable def run(Γ:Tab)(w:Nat):Nat->Call|0,_,_=>.stuck|n+1,f,args=>match Γ f with|some d=>enter (run Γ w n) w d args|none=>.stuck
end HH
end
section
namespace HH
open PySem L2
variable{ρ:List Sl}{σ:St}{v:V}
noncomputable def Dc.ho:Dc->HO|.k kvs=>.dK (kvs.map fun p=>(Sum.inl p.1,V.int p.2))|.t kvs=>.dT (kvs.map fun p=>(p.1.map Sum.inl,V.int p.2))
noncomputable def Bf(ks:List Int)(vs:List V):HO:=.dK ((ks.zip vs).map fun p=>(Sum.inl p.1,p.2))
section
variable(K:PySem.W.Frag)
mutual
def Rep(F:Hp):V->D->Prop|v,.non=>v=.non|v,.bl b=>v=.bl b|v,.int i=>v=.int i|v,.str x=>v=.str x|v,.tup ds=>∃a xs,v=.ref a/\iD K F a xs/\aG F xs ds|v,.lst ds=>∃a xs,v=.ref a/\dX K F a xs/\aG F xs ds|v,.dU m=>∃a o,v=.ref a/\F a=some (.cX o m.ho)|v,.dv ks ds=>∃a o vs,v=.ref a/\F a=some (.cX o (Bf ks vs))/\aG F vs ds/\ks.length=ds.length
def aG(F:Hp):List V->List D->Prop|vs,[]=>vs=[]|vs,d::ds=>∃v r,vs=v::r/\Rep F v d/\aG F r ds
end
end
section
variable{K:PySem.W.Frag}{F F' H H':Hp}
theorem aF.gn{a:Addr}{xs:List V}(e:aF H H')(h:iD K H a xs):iD K H' a xs:=by
 rcases h with(h|⟨o,h⟩)|h;.exact .inl (.inl (e _ _ h))
 .exact .inl (.inr ⟨o,e _ _ h⟩)
 .exact .inr h
mutual
theorem Rep.mono(e:aF F F'):∀{d:D}{v:V},Rep K F v d->Rep K F' v d|.non,_,h=>by rw[Rep]at h ⊢;exact h|.bl _,_,h=>by rw[Rep]at h ⊢;exact h|.int _,_,h=>by rw[Rep]at h ⊢;exact h|.str _,_,h=>by rw[Rep]at h ⊢;exact h|.tup ds,_,h=>by rw[Rep]at h ⊢;obtain⟨a,xs,rfl,hs,r⟩:=h;exact⟨a,xs,rfl,aF.gn e hs,aG.mono e r⟩|.lst ds,_,h=>by rw[Rep]at h ⊢;obtain⟨a,xs,rfl,hs,r⟩:=h;exact⟨a,xs,rfl,e.seq hs,aG.mono e r⟩|.dU m,_,h=>by rw[Rep]at h ⊢;obtain⟨a,o,rfl,hs⟩:=h;exact⟨a,o,rfl,e _ _ hs⟩|.dv ks ds,_,h=>by rw[Rep]at h ⊢;obtain⟨a,o,vs,rfl,hs,r,hl⟩:=h;exact⟨a,o,vs,rfl,e _ _ hs,aG.mono e r,hl⟩theorem aG.mono(e:aF F F'):∀{ds:List D}{vs:List V},aG K F vs ds->aG K F' vs ds|[],_,h=>by rw[aG]at h ⊢;exact h|d::ds,_,h=>by rw[aG]at h ⊢;obtain⟨v,r,rfl,h1,h2⟩:=h;exact⟨v,r,rfl,Rep.mono e h1,aG.mono e h2⟩end
theorem aG.nil:aG K F [] []:=by rw[aG]
theorem aG.cons{v:V}{d:D}{vs:List V}{ds:List D}(h:Rep K F v d)(t:aG K F vs ds):aG K F (v::vs) (d::ds):=by rw[aG];exact⟨v,vs,rfl,h,t⟩
theorem aG.cu{vs:List V}{d:D}{ds:List D}(h:aG K F vs (d::ds)):∃v r,vs=v::r/\Rep K F v d/\aG K F r ds:=by rw[aG]at h;exact h
theorem aG.fK{vs:List V}(h:aG K F vs []):vs=[]:=by rw[aG]at h;exact h
theorem aG.length:∀{ds:List D}{vs:List V},aG K F vs ds->vs.length=ds.length|[],_,h=>by rw[h.fK];rfl|d::ds,_,h=>by obtain⟨v,r,rfl,_,t⟩:=h.cu;simp[aG.length t]
theorem aG.get:∀{ds:List D}{vs:List V}{i:Nat}{d:D},aG K F vs ds->ds[i]?=some d->∃v,vs[i]?=some v/\Rep K F v d|[],_,_,_,h,e=>by simp at e|d::ds,_,0,_,h,e=>by obtain⟨v,r,rfl,h1,t⟩:=h.cu;simp at e;subst e;exact⟨v,rfl,h1⟩|d::ds,_,i+1,_,h,e=>by obtain⟨v,r,rfl,_,t⟩:=h.cu;simp at e;obtain⟨w,e1,e2⟩:=t.get e;exact⟨w,by simpa using e1,e2⟩
theorem aG.append:∀{ds es:List D}{vs us:List V},aG K F vs ds->aG K F us es->aG K F (vs++us) (ds++es)|[],_,_,_,h,h'=>by rw[h.fK];exact h'|d::ds,_,_,_,h,h'=>by obtain⟨v,r,rfl,h1,t⟩:=h.cu;exact .cons h1 (t.append h')
theorem aG.set{v:V}{d:D}(hr:Rep K F v d):∀{ds:List D}{vs:List V}(i:Nat),aG K F vs ds->aG K F (vs.set i v) (ds.set i d)|[],_,_,h=>by rw[h.fK];exact .nil|_::_,_,0,h=>by obtain⟨w,r,rfl,h1,t⟩:=h.cu;exact .cons hr t|_::_,_,i+1,h=>by obtain⟨w,r,rfl,h1,t⟩:=h.cu;exact .cons h1 (aG.set hr i t)
theorem aG.take:∀{ds:List D}{vs:List V}(n:Nat),aG K F vs ds->aG K F (vs.take n) (ds.take n)|[],_,n,h=>by rw[h.fK];simpa using aG.nil|_::_,_,0,h=>.nil|_::_,_,n+1,h=>by obtain⟨w,r,rfl,h1,t⟩:=h.cu;exact .cons h1 (t.take n)
theorem aG.drop:∀{ds:List D}{vs:List V}(n:Nat),aG K F vs ds->aG K F (vs.drop n) (ds.drop n)|[],_,n,h=>by rw[h.fK];simpa using aG.nil|_::_,_,0,h=>h|_::_,_,n+1,h=>by obtain⟨w,r,rfl,h1,t⟩:=h.cu;exact t.drop n
theorem aG.rep{ds:List D}{vs:List V}(h:aG K F vs ds):∀n,aG K F (replicate n vs).flatten (replicate n ds).flatten|0=>by simpa using aG.nil|n+1=>by simpa[replicate_succ]using h.append (aG.rep h n)
inductive Oc where|l(ds:List D)|d(m:Dc)|v(kvs:List (Int×D))
noncomputable def lst?:Sl->Option Oc|.own _ ds=>some (.l ds)|.lent ds=>some (.l ds)|.gH m=>some (.d m)|.cF kvs=>some (.v kvs)|_=>none
def kI(K:PySem.W.Frag)(F:Hp)(o:HO):Oc->Prop|.l ds=>∃xs,o=.lst xs/\aG K F xs ds|.d m=>o=m.ho|.v kvs=>∃vs,o=Bf (kvs.map (·.1)) vs/\aG K F vs (kvs.map (·.2))
theorem kI.mono{o:HO}{x:Oc}(e:aF F F')(h:kI K F o x):kI K F' o x:=by cases x with|l ds=>obtain⟨xs,e1,h⟩:=h;exact⟨xs,e1,h.mono e⟩|d m=>exact h|v kvs=>obtain⟨xs,e1,h⟩:=h;exact⟨xs,e1,h.mono e⟩
def aZ(ρ:List Sl)(σ:St)(i:Nat)(a:Addr):Prop:=(∃s ds,ρ[i]?=some s/\lst? s=some ds)/\σ[i]?=some (some (V.ref a))
def Own(ρ:List Sl)(σ:St)(a:Addr):Prop:=∃i,aZ ρ σ i a
structure GS(K:PySem.W.Frag)(F:Hp)(ρ:List Sl)(σ:St)(H:Hp):Prop where
 sub:aF F H
 len:ρ.length=σ.length
 val:∀(i:Nat)(b:Bool)(d:D),ρ[i]?=some (Sl.val b d)->∃v:V,σ[i]?=some (some v)/\Rep K F v d
 own:∀(i:Nat)(s:Sl)(ds:Oc),ρ[i]?=some s->lst? s=some ds->∃(a:Addr)(xs:HO),σ[i]?=some (some (V.ref a))/\H a=some xs/\F a=none/\kI K F xs ds
 dis:∀(i j:Nat)(a:Addr),aZ ρ σ i a->aZ ρ σ j a->i=j
theorem GS.mz(g:GS K F ρ σ H)(i:Nat)(s:Sl)(ds:List D)(e:ρ[i]?=some s)(e':lst? s=some (.l ds)):∃(a:Addr)(xs:List V),σ[i]?=some (some (V.ref a))/\H a=some (.lst xs)/\F a=none/\aG K F xs ds:=by obtain⟨a,o,h1,h2,h3,xs,rfl,h4⟩:=g.own i s (.l ds) e e';exact⟨a,xs,h1,h2,h3,h4⟩
noncomputable def sI:Sl->Bool|.val b _=>b|.own b _=>b|.lent _=>true|.aO=>false|.gH _=>false|.cF _=>false|.hold _=>true
def mD:Sl->Sl->Prop|.val true d,s=>s=.val true d|.own true _,s=>(∃ds,s=.own true ds)\/∃d,s=.val true d|.lent ds,s=>s=.lent ds|.hold ds,s=>s=.hold ds|_,_=>True
theorem mD.refl(s:Sl):mD s s:=by unfold mD;split<;>first|rfl|exact .inl ⟨_,rfl⟩|trivial
theorem mD.sI{s s':Sl}(h:mD s s')(l:sI s=true):HH.sI s'=true:=by cases s with
 |aO=>cases l|gH _=>cases l|cF _=>cases l|val b d=>cases b with|true=>cases h;rfl|false=>cases l
 |own b d=>cases b with|true=>rcases h with⟨_,rfl⟩|⟨_,rfl⟩<;>rfl|false=>cases l
 |lent d=>cases h;rfl|hold d=>cases h;rfl
theorem mD.trans{s s' s'':Sl}(l:HH.sI s=true)(h:mD s s')(h':mD s' s''):mD s s'':=by cases s with
 |aO=>cases l|gH _=>cases l|cF _=>cases l|val b d=>cases b with|true=>cases h;exact h'|false=>cases l
 |own b d=>cases b with
   | true => rcases h with⟨_,rfl⟩|⟨d,rfl⟩;.exact h'
             .exact .inr ⟨d,h'⟩|false=>cases l
 |lent d=>cases h;exact h'|hold d=>cases h;exact h'
noncomputable def nt:Option HO->Option HO|some (.tup _)=>none|o=>o
theorem jU{o:Option HO}(h:o=none):nt o=none:=by rw[h];rfl
theorem Jo{H:Hp}{b:Addr}{xs:List V}(h:H b=some (.lst xs))(z:nt (H b)=none):False:=by rw[h]at z;cases z
theorem Hj{o:HO}{x:Oc}(h:kI K F o x)(z:nt (some o)=none):False:=by cases x with|l ds=>obtain⟨xs,rfl,_⟩:=h;cases z|d m=>cases m<;>(cases(show o=_ from h);cases z)|v kvs=>obtain⟨xs,rfl,_⟩:=h;cases z
structure aB(K:PySem.W.Frag)(F:Hp)(ρ:List Sl)(σ:St)(H:Hp)(F':Hp)(ρ':List Sl)(σ':St)(H':Hp):Prop where
 gs:GS K F' ρ' σ' H'
 bO:aF F F'
 xV:∀b,F b=none->F' b≠none->Own ρ σ b\/nt (H b)=none
 keep:∀b o,H b=some o->¬ Own ρ σ b->H' b=some o
 vN:∀b,Own ρ' σ' b->Own ρ σ b\/H b=none
 len:ρ'.length=ρ.length
 lk:∀(i:Nat)(s:Sl),ρ[i]?=some s->sI s=true->σ'[i]?=σ[i]?/\∃s',ρ'[i]?=some s'/\mD s s'
theorem aB.refl{ρ:List Sl}{σ:St}(g:GS K F ρ σ H):aB K F ρ σ H F ρ σ H:=⟨g,aF.refl _,fun b h h'=>absurd h h',fun _ _ h _=>h,fun _ h=>.inl h,rfl,fun i s h _=>⟨rfl,s,h,.refl s⟩⟩
theorem aB.trans{F1 F2 H1 H2:Hp}{ρ ρ1 ρ2:List Sl}{σ σ1 σ2:St}(a:aB K F ρ σ H F1 ρ1 σ1 H1)(b:aB K F1 ρ1 σ1 H1 F2 ρ2 σ2 H2):aB K F ρ σ H F2 ρ2 σ2 H2:=by
 have back:∀c,Own ρ1 σ1 c\/H1 c=none->Own ρ σ c\/H c=none:=fun c h=>by
  rcases h with h|h;.exact a.vN c h
  . by_cases ho:Own ρ σ c;.exact .inl ho
    .right;cases e:H c with|none=>rfl|some o=>rw[a.keep c o e ho]at h;cases h
 refine⟨b.gs,a.bO.trans b.bO,fun c h h'=>?_,fun c o h n=>?_,fun c h=>back c (b.vN c h),b.len.trans a.len,fun i s h l=>?_⟩
 . by_cases e:F1 c=none
   . by_cases ho:Own ρ σ c;.exact .inl ho
     . rcases b.xV c e h' with z|z;.exact(back c (.inl z)).imp id jU
       .right;cases q:H c with|none=>rfl|some o=>rw[a.keep c o q ho]at z;exact z
   .exact a.xV c h e
 . refine b.keep c o (a.keep c o h n) fun h'=>?_;rcases a.vN c h' with h'|h';.exact n h'
   .rw[h]at h';cases h'
 .obtain⟨e1,s1,h1,k1⟩:=a.lk i s h l;obtain⟨e2,s2,h2,k2⟩:=b.lk i s1 h1 (k1.sI l);exact⟨e2.trans e1,s2,h2,.trans l k1 k2⟩
def dw(K:PySem.W.Frag)(F H:Hp)(v:V)(d:D):Prop:=Rep K F v d\/∃a xs ds,v=.ref a/\H a=some (.lst xs)/\aG K F xs ds/\d=.lst ds
def cM(K:PySem.W.Frag)(F':Hp)(ρ':List Sl)(σ':St)(H':Hp)(ρ:List Sl)(σ:St)(H:Hp)(v:V):R->Prop|.val d=>Rep K F' v d|.own ds=>∃a xs,v=.ref a/\H' a=some (.lst xs)/\F' a=none/\aG K F' xs ds/\¬ Own ρ' σ' a/\(Own ρ σ a\/H a=none)
theorem aF.bW{F:Hp}{a:Addr}{o:HO}(h:F a=none):aF F (upd F a o):=fun b u e=>by
 have:b≠a:=by rintro rfl;rw[h]at e;cases e
 rw[aC this];exact e
theorem aB.cX{ρ':List Sl}{σ':St}{r:R}(s:aB K F ρ σ H F' ρ' σ' H')(h:cM K F' ρ' σ' H' ρ σ H v r):∃F'',aB K F ρ σ H F'' ρ' σ' H'/\aF F' F''/\Rep K F'' v r.d:=by cases r with|val d=>exact⟨F',s,.refl _,h⟩|own ds=>
   obtain⟨a,xs,rfl,h1,h2,h3,h4,h5⟩:=h;have sm:aF F' (upd F' a (.lst xs)):=aF.bW h2;refine⟨upd F' a (.lst xs),⟨⟨fun b o e=>?_,s.gs.len,fun i b d e=>?_,fun i sl ds' e e'=>?_,s.gs.dis⟩,s.bO.trans sm,fun b n n'=>?_,s.keep,s.vN,s.len,s.lk⟩,sm,?_⟩
   . by_cases hb:b=a;.subst hb;rw[aM]at e;cases e;exact h1
     .rw[aC hb]at e;exact s.gs.sub b o e
   .obtain⟨v,e1,e2⟩:=s.gs.val i b d e;exact⟨v,e1,e2.mono sm⟩
   . obtain⟨b,ys,e1,e2,e3,e4⟩:=s.gs.own i sl ds' e e';have hb:b≠a:=by rintro rfl;exact h4 ⟨i,⟨sl,ds',e,e'⟩,e1⟩
     exact⟨b,ys,e1,e2,by rw[aC hb];exact e3,e4.mono sm⟩
   . by_cases hb:b=a;.subst hb;exact h5.imp id jU
     .rw[aC hb]at n';exact s.xV b n n'
   .show Rep K _ _ (.lst ds);rw[Rep];exact⟨a,xs,rfl,dX.of aM,h3.mono sm⟩
theorem dw.mono{v:V}(e:aF F F')(k:∀a xs,v=.ref a->H a=some (.lst xs)->H' a=some (.lst xs)){d:D}(h:dw K F H v d):dw K F' H' v d:=by
 rcases h with h|⟨a,xs,ds,h1,h2,h3,h4⟩;.exact .inl (h.mono e)
 .exact .inr ⟨a,xs,ds,h1,k a xs h1 h2,h3.mono e,h4⟩
theorem GS.pk{ρ:List Sl}{σ:St}{i:Nat}{d:D}(g:GS K F ρ σ H)(e:HH.pk ρ i=some d):∃v:V,σ[i]?=some (some v)/\dw K F H v d:=by
 unfold HH.pk at e;split at e;.rename_i b d' h;cases e;obtain⟨v,h1,h2⟩:=g.val i b d h;exact⟨v,h1,.inl h2⟩
 .rename_i b ds h;cases e;obtain⟨a,xs,h1,h2,h3,h4⟩:=g.mz i _ ds h rfl;exact⟨.ref a,h1,.inr ⟨a,xs,ds,rfl,h2,h4,rfl⟩⟩
 .rename_i ds h;cases e;obtain⟨a,xs,h1,h2,h3,h4⟩:=g.mz i _ ds h rfl;exact⟨.ref a,h1,.inr ⟨a,xs,ds,rfl,h2,h4,rfl⟩⟩
 .cases e
structure Ext(F H F' H':Hp):Prop where
 hs:aF H H'
 fs:aF F F'
 sub:aF F' H'
 gr:∀b,F b=none->F' b≠none->nt (H b)=none
theorem Ext.refl(h:aF F H):Ext F H F H:=⟨.refl _,.refl _,h,fun _ a b=>absurd a b⟩
theorem Ext.stp(g:GS K F ρ σ H)(e:Ext F H F' H'):aB K F ρ σ H F' ρ σ H':=by
 refine⟨⟨e.sub,g.len,fun i b d h=>?_,fun i s ds h h'=>?_,g.dis⟩,e.fs,fun b n n'=>.inr (e.gr b n n'),fun b o h _=>e.hs b o h,fun _ h=>.inl h,rfl,fun i s h _=>⟨rfl,s,h,.refl s⟩⟩;.obtain⟨v,h1,h2⟩:=g.val i b d h;exact⟨v,h1,h2.mono e.fs⟩
 .obtain⟨a,xs,h1,h2,h3,h4⟩:=g.own i s ds h h';refine⟨a,xs,h1,e.hs _ _ h2,?_,h4.mono e.fs⟩;cases q:F' a with|none=>rfl|some o=>have:=e.gr a h3 (by rw[q];simp);rw[h2]at this;exact(Hj h4 this).elim
def cg(K:PySem.W.Frag)(F' H' H:Hp)(v:V):R->Prop|.val d=>Rep K F' v d|.own ds=>∃a xs,v=.ref a/\H' a=some (.lst xs)/\F' a=none/\aG K F' xs ds/\H a=none
theorem cg.pq{r:R}(g:GS K F ρ σ H)(h:cg K F' H' H v r):cM K F' ρ σ H' ρ σ H v r:=by cases r with|val d=>exact h|own ds=>obtain⟨a,xs,rfl,h1,h2,h3,h4⟩:=h;refine⟨a,xs,rfl,h1,h2,h3,?_,.inr h4⟩;rintro⟨i,⟨s,ds',e,e'⟩,e2⟩;obtain⟨b,ys,q1,q2,_⟩:=g.own i s ds' e e';rw[e2]at q1;cases q1;rw[h4]at q2;cases q2
theorem cM.later{F1 H1 F2 H2:Hp}{ρ1 ρ2:List Sl}{σ1 σ2:St}{r:R}(a:aB K F ρ σ H F1 ρ1 σ1 H1)(h:cM K F2 ρ2 σ2 H2 ρ1 σ1 H1 v r):cM K F2 ρ2 σ2 H2 ρ σ H v r:=by cases r with|val d=>exact h|own ds=>
   obtain⟨b,xs,rfl,h1,h2,h3,h4,h5⟩:=h;refine⟨b,xs,rfl,h1,h2,h3,h4,?_⟩;rcases h5 with h5|h5;.exact a.vN b h5
   . by_cases ho:Own ρ σ b;.exact .inl ho
     .right;cases e:H b with|none=>rfl|some o=>rw[a.keep b o e ho]at h5;cases h5
end
end HH
end
section
namespace HH
open PySem L2 PySem.Spec PyProof.Rows
variable{ρ' ρ ρ₀:List Sl}{es:List Expr}{K:PySem.W.Frag}{F H H₀:Hp}{σ:L2.St}{i n:Nat}{ds:List D}{x:Str}{v:V}{vs:List V}{op:CmpOp}{p':Pos}{as:List Arg}
theorem aj{α β:Type}{x:Res α}{f:α->List Sl->Res β}{b:β}(h:x.bind f=.ok b ρ'):∃a ρ,x=.ok a ρ/\f a ρ=.ok b ρ':=by cases x with|ok a ρ=>exact⟨a,ρ,rfl,h⟩|exc _ _=>cases h|stuck=>cases h
theorem aD{α:Type}{o:Option α}{a:α}(h:lift o ρ=.ok a ρ'):o=some a/\ρ=ρ':=by cases o with|none=>cases h|some b=>cases h;exact⟨rfl,rfl⟩
theorem map_some{α β:Type}{o:Option α}{f:α->β}{b:β}(h:o.map f=some b):∃a,o=some a/\f a=b:=by cases o with|none=>cases h|some a=>cases h;exact⟨a,rfl,rfl⟩
theorem bV{α β:Type}{o:Option α}{f:α->Option β}{b:β}(h:o.bind f=some b):∃a,o=some a/\f a=some b:=by cases o with|none=>cases h|some a=>exact⟨a,rfl,h⟩
theorem bF{α:Type}{c:Prop}[Decidable c]{a b:α}(h:(if c then some a else none)=some b):c/\a=b:=by
 split at h;.rename_i hc;cases h;exact⟨hc,rfl⟩
 .cases h
section
variable{X:Cx}{c:Call}{e a b:Expr}{p pa pb:P}{pos:Pos}
theorem dB{t t':TE}(h:PE X e t)(i:∀σ H Q,t' σ H Q->t σ H Q):PE X e t':=fun pins s σ H Q I q=>h pins s σ H Q I (i σ H Q q)
theorem wJ{t t':TT}(h:PT X e t)(i:∀σ H Q,t' σ H Q->t σ H Q):PT X e t':=fun pins s σ H Q I q=>h pins s σ H Q I (i σ H Q q)
theorem O3{t t':TT}(h:PW X e t)(i:∀σ H Q,t' σ H Q->t σ H Q):PW X e t':=fun wh pins s σ H Q I q=>h wh pins s σ H Q I (i σ H Q q)
theorem p8{t t':TA}(h:PA X es t)(i:∀σ H Q,t' σ H Q->t σ H Q):PA X es t':=fun pos pins s σ H Q I q=>h pos pins s σ H Q I (i σ H Q q)
inductive vD(K:PySem.W.Frag)(f:Ev)(σ:L2.St)(H:Hp)(Q:VK):Prop where|mk(F:Hp)(ρ:List Sl)(r:R)(ρ':List Sl)(g:GS K F ρ σ H)(e:f ρ=.ok r ρ')(k:∀v F' H',aB K F ρ σ H F' ρ' σ H'->cM K F' ρ' σ H' ρ σ H v r->Q v H')
inductive Ec(K:PySem.W.Frag)(f:List Sl->Res Bool)(σ:L2.St)(H:Hp)(Q:Bool->Hp->Prop):Prop where|mk(F:Hp)(ρ:List Sl)(b:Bool)(ρ':List Sl)(g:GS K F ρ σ H)(e:f ρ=.ok b ρ')(k:∀F' H',aB K F ρ σ H F' ρ' σ H'->Q b H')
inductive acG(K:PySem.W.Frag)(f:List Sl->Res (List D))(σ:L2.St)(H:Hp)(Q:List V->Hp->Prop):Prop where|mk(F:Hp)(ρ:List Sl)(ds:List D)(ρ':List Sl)(g:GS K F ρ σ H)(e:f ρ=.ok ds ρ')(k:∀vs F' H',aB K F ρ σ H F' ρ' σ H'->aG K F' vs ds->Q vs H')
structure SX(X:Cx)(c:Call)(e:Expr)(p:P):Prop where ev:PE X e (vD X.K (HH.ev c p))var:∀i,isVar p=some i->PE X e (Td i)
def SA(X:Cx)(c:Call)(es:List Expr)(ps:List P):Prop:=PA X es (acG X.K (evs c ps))/\ps.length=es.length
theorem SX.cC(h:SX X c e p):∃t,PE X e t/\∀{σ:L2.St}{H F:Hp}{ρ ρ':List Sl}{d:D}{Q:VK},GS X.K F ρ σ H->cC (isVar p) (HH.ev c p) ρ=.ok d ρ'->(∀v F' H',aB X.K F ρ σ H F' ρ' σ H'->dw X.K F' H' v d->Q v H')->t σ H Q:=by cases hv:isVar p with|none=>refine⟨_,h.ev,fun{σ H F ρ ρ' d Q}g e k=>?_⟩;obtain⟨r,ρ1,e1,e2⟩:=aj e;cases e2;refine⟨F,ρ,r,_,g,e1,fun v F' H' s rr=>?_⟩;obtain⟨F'',s',_,rp⟩:=s.cX rr;exact k v F'' H' s' (.inl rp)|some i=>refine⟨_,h.var i hv,fun{σ H F ρ ρ' d Q}g e k=>?_⟩;obtain⟨e1,e2⟩:=aD e;subst e2;obtain⟨v,h1,h2⟩:=g.pk e1;exact⟨v,h1,k v F H (.refl g) h2⟩
theorem SX.iw(ha:SX X c a pa)(hb:SX X c b pb):∃ta tb,PE X a ta/\PE X b tb/\∀{σ:L2.St}{H F:Hp}{ρ ρ':List Sl}{xy:D×D}{R:V->V->Hp->Prop},GS X.K F ρ σ H->iw (isVar pa) (HH.ev c pa) (isVar pb) (HH.ev c pb) ρ=.ok xy ρ'->(∀v u F' H',aB X.K F ρ σ H F' ρ' σ H'->dw X.K F' H' v xy.1->dw X.K F' H' u xy.2->R v u H')->ta σ H fun x H1=>tb σ H1 fun y H2=>R x y H2:=by obtain⟨tb,hb1,hb2⟩:=hb.cC;cases hv:isVar pa with|none=>refine⟨_,tb,ha.ev,hb1,fun{σ H F ρ ρ' xy R}g e k=>?_⟩;obtain⟨x,ρ1,e1,e⟩:=aj e;obtain⟨y,ρ2,e2,e⟩:=aj e;cases e;obtain⟨r,ρ1',e1,e0⟩:=aj e1;cases e0;refine⟨F,ρ,r,_,g,e1,fun v F' H' s rr=>?_⟩;obtain⟨F1,s1,_,rp⟩:=s.cX rr;refine hb2 s1.gs e2 fun u F2 H2 s2 pu=>?_;exact k v u F2 H2 (s1.trans s2) (.inl (rp.mono s2.bO)) pu|some i=>refine⟨_,tb,ha.var i hv,hb1,fun{σ H F ρ ρ' xy R}g e k=>?_⟩;obtain⟨x0,ρ0,e0,e⟩:=aj e;obtain⟨e00,Ez⟩:=aD e0;subst Ez;obtain⟨y,ρ1,e1,e⟩:=aj e;obtain⟨x,ρ2,e2,e⟩:=aj e;cases e;have zz:=aD e2;clear e2;obtain⟨e2,e3⟩:=zz;subst e3;obtain⟨v,h1,_⟩:=g.pk e00;refine⟨v,h1,hb2 g e1 fun u F1 H1 s1 pu=>?_⟩;obtain⟨v',h1',pv⟩:=s1.gs.pk e2;rw[h1]at h1';cases h1';exact k v u F1 H1 s1 pv pu
inductive rD(K:PySem.W.Frag)(f:D->D->Option R)(x y:V)(H:Hp)(Q:VK):Prop where|mk(F:Hp)(d e:D)(r:R)(sm:aF F H)(px:dw K F H x d)(py:dw K F H y e)(he:f d e=some r)(k:∀v F' H',Ext F H F' H'->cg K F' H' H v r->Q v H')
inductive rD1(K:PySem.W.Frag)(f:D->Option R)(x:V)(H:Hp)(Q:VK):Prop where|mk(F:Hp)(d:D)(r:R)(sm:aF F H)(px:dw K F H x d)(he:f d=some r)(k:∀v F' H',Ext F H F' H'->cg K F' H' H v r->Q v H')
theorem uN{E:Expr}{f:D->D->Option R}{q:P}(hp:∀{ta tb},PE X a ta->PE X b tb->PE X E (QS (rD X.K f) ta tb))(ha:SX X c a pa)(hb:SX X c b pb)(hq:∀ρ,HH.ev c q ρ=(HH.iw (isVar pa) (HH.ev c pa) (isVar pb) (HH.ev c pb) ρ).bind fun xy ρ=>lift (f xy.1 xy.2) ρ)(hv:isVar q=none):SX X c E q:=by obtain⟨ta,tb,h1,h2,h3⟩:=ha.iw hb;refine⟨dB (hp h1 h2) ?_,fun i h=>by rw[hv]at h;cases h⟩;rintro σ H Q⟨F,ρ,r,ρ',g,e,k⟩;rw[hq]at e;obtain⟨xy,ρ1,e1,e2⟩:=aj e;have zz:=aD e2;clear e2;obtain⟨e2,e3⟩:=zz;subst e3;refine h3 g e1 fun v u F' H' s pv pu=>⟨F',xy.1,xy.2,r,s.gs.sub,pv,pu,e2,fun w F2 H2 x rn=>?_⟩;exact k w F2 H2 (s.trans (x.stp s.gs)) (.later s (rn.pq s.gs))
theorem Rp{E:Expr}{f:D->Option R}{q:P}(hp:∀{ta},PE X a ta->PE X E (tUn (rD1 X.K f) ta))(ha:SX X c a pa)(hq:∀ρ,HH.ev c q ρ=(HH.cC (isVar pa) (HH.ev c pa) ρ).bind fun x ρ=>lift (f x) ρ)(hv:isVar q=none):SX X c E q:=by obtain⟨ta,h1,h3⟩:=ha.cC;refine⟨dB (hp h1) ?_,fun i h=>by rw[hv]at h;cases h⟩;rintro σ H Q⟨F,ρ,r,ρ',g,e,k⟩;rw[hq]at e;obtain⟨x,ρ1,e1,e2⟩:=aj e;have zz:=aD e2;clear e2;obtain⟨e2,e3⟩:=zz;subst e3;refine h3 g e1 fun v F' H' s pv=>⟨F',x,r,s.gs.sub,pv,e2,fun w F2 H2 x rn=>?_⟩;exact k w F2 H2 (s.trans (x.stp s.gs)) (.later s (rn.pq s.gs))
theorem GS.freeze{b:Bool}(g:GS K F ρ σ H)(e:ρ[i]?=some (.own b ds)):∃v F',σ[i]?=some (some v)/\aB K F ρ σ H F' (ρ.set i (.val b (.lst ds))) σ H/\Rep K F' v (.lst ds):=by
 obtain⟨a,xs,h1,h2,h3,h4⟩:=g.mz i _ ds e rfl;have hi:i<ρ.length:=(dI e).1;have sm:aF F (upd F a (.lst xs)):=aF.bW h3;have rp:Rep K (upd F a (.lst xs)) (.ref a) (.lst ds):=by rw[Rep];exact⟨a,xs,rfl,dX.of aM,h4.mono sm⟩
 have oa:Own ρ σ a:=⟨i,⟨_,_,e,rfl⟩,h1⟩;have old:∀j x,aZ (ρ.set i (.val b (.lst ds))) σ j x->aZ ρ σ j x/\j≠i:=fun j x⟨⟨s,ds',q1,q2⟩,q3⟩=>by
  by_cases hj:j=i;.subst hj;rw[getElem?_set_self hi]at q1;cases q1;cases q2
  .rw[eV hj]at q1;exact⟨⟨⟨s,ds',q1,q2⟩,q3⟩,hj⟩
 refine⟨.ref a,upd F a (.lst xs),h1,⟨⟨fun x o q=>?_,by simpa using g.len,fun j b' d q=>?_,fun j s ds' q q'=>?_,fun j k x q q'=>g.dis j k x (old j x q).1 (old k x q').1⟩,sm,fun x n n'=>?_,fun _ _ q _=>q,fun x⟨j,q⟩=>.inl ⟨j,(old j x q).1⟩,by simp,fun j s q l=>⟨rfl,?_⟩⟩,rp⟩
 . by_cases hx:x=a;.subst hx;rw[aM]at q;cases q;exact h2
   .rw[aC hx]at q;exact g.sub x o q
 . by_cases hj:j=i;.subst hj;rw[getElem?_set_self hi]at q;cases q;exact⟨_,h1,rp⟩
   .rw[eV hj]at q;obtain⟨v,q1,q2⟩:=g.val j b' d q;exact⟨v,q1,q2.mono sm⟩
 . by_cases hj:j=i;.subst hj;rw[getElem?_set_self hi]at q;cases q;cases q'
   . rw[eV hj]at q;obtain⟨x,ys,q1,q2,q3,q4⟩:=g.own j s ds' q q';have hx:x≠a:=by rintro rfl;exact hj (g.dis j i x ⟨⟨s,ds',q,q'⟩,q1⟩ ⟨⟨_,_,e,rfl⟩,h1⟩)
     exact⟨x,ys,q1,q2,by rw[aC hx];exact q3,q4.mono sm⟩
 . by_cases hx:x=a;.subst hx;exact .inl oa
   .rw[aC hx]at n';exact absurd n n'
 . by_cases hj:j=i;.subst hj;rw[e]at q;cases q;refine⟨_,getElem?_set_self hi,?_⟩;cases b with|true=>exact .inr ⟨_,rfl⟩|false=>cases l
   .exact⟨s,by rw[eV hj];exact q,.refl s⟩
theorem GS.Bs{m:Dc}(g:GS K F ρ σ H)(e:ρ[i]?=some (.gH m)):∃a,σ[i]?=some (some (.ref a))/\H a=some m.ho/\∀ob,aB K F ρ σ H (upd F a (.cX ob m.ho)) (ρ.set i (.val false (.dU m))) σ (upd H a (.cX ob m.ho))/\Rep K (upd F a (.cX ob m.ho)) (.ref a) (.dU m):=by
 obtain⟨a,o0,h1,h2,h3,h4⟩:=g.own i _ _ e rfl;cases(show o0=m.ho from h4);have hi:i<ρ.length:=(dI e).1;refine⟨a,h1,h2,fun ob=>?_⟩;have sm:aF F (upd F a (.cX ob m.ho)):=aF.bW h3;have rp:Rep K (upd F a (.cX ob m.ho)) (.ref a) (.dU m):=by rw[Rep];exact⟨a,ob,rfl,aM⟩
 have oa:Own ρ σ a:=⟨i,⟨_,_,e,rfl⟩,h1⟩;have old:∀j x,aZ (ρ.set i (.val false (.dU m))) σ j x->aZ ρ σ j x/\j≠i:=fun j x⟨⟨s,ds',q1,q2⟩,q3⟩=>by
  by_cases hj:j=i;.subst hj;rw[getElem?_set_self hi]at q1;cases q1;cases q2
  .rw[eV hj]at q1;exact⟨⟨⟨s,ds',q1,q2⟩,q3⟩,hj⟩
 refine⟨⟨⟨fun x o q=>?_,by simpa using g.len,fun j b' d q=>?_,fun j s ds' q q'=>?_,fun j k x q q'=>g.dis j k x (old j x q).1 (old k x q').1⟩,sm,fun x n n'=>?_,fun x o q n=>?_,fun x⟨j,q⟩=>.inl ⟨j,(old j x q).1⟩,by simp,fun j s q l=>⟨rfl,?_⟩⟩,rp⟩
 . by_cases hx:x=a;.subst hx;rw[aM]at q ⊢;exact q
   .rw[aC hx]at q ⊢;exact g.sub x o q
 . by_cases hj:j=i;.subst hj;rw[getElem?_set_self hi]at q;cases q;exact⟨_,h1,rp⟩
   .rw[eV hj]at q;obtain⟨v,q1,q2⟩:=g.val j b' d q;exact⟨v,q1,q2.mono sm⟩
 . by_cases hj:j=i;.subst hj;rw[getElem?_set_self hi]at q;cases q;cases q'
   . rw[eV hj]at q;obtain⟨x,ys,q1,q2,q3,q4⟩:=g.own j s ds' q q';have hx:x≠a:=by rintro rfl;exact hj (g.dis j i x ⟨⟨s,ds',q,q'⟩,q1⟩ ⟨⟨_,_,e,rfl⟩,h1⟩)
     exact⟨x,ys,q1,by rw[aC hx];exact q2,by rw[aC hx];exact q3,q4.mono sm⟩
 . by_cases hx:x=a;.subst hx;exact .inl oa
   .rw[aC hx]at n';exact absurd n n'
 . have hx:x≠a:=by rintro rfl;exact n oa
   rw[aC hx];exact q
 . by_cases hj:j=i;.subst hj;rw[e]at q;cases q;cases l
   .exact⟨s,by rw[eV hj];exact q,.refl s⟩
theorem GS.Ag{kvs:List (Int×D)}(g:GS K F ρ σ H)(e:ρ[i]?=some (.cF kvs)):∃a vs,σ[i]?=some (some (.ref a))/\H a=some (Bf (kvs.map (·.1)) vs)/\∀ob,aB K F ρ σ H (upd F a (.cX ob (Bf (kvs.map (·.1)) vs))) (ρ.set i (.val false (.dv (kvs.map (·.1)) (kvs.map (·.2))))) σ (upd H a (.cX ob (Bf (kvs.map (·.1)) vs)))/\Rep K (upd F a (.cX ob (Bf (kvs.map (·.1)) vs))) (.ref a) (.dv (kvs.map (·.1)) (kvs.map (·.2))):=by
 obtain⟨a,o0,h1,h2,h3,h4⟩:=g.own i _ _ e rfl;obtain⟨vs,rfl,h5⟩:=h4;have hi:i<ρ.length:=(dI e).1;refine⟨a,vs,h1,h2,fun ob=>?_⟩;have sm:aF F (upd F a (.cX ob (Bf (kvs.map (·.1)) vs))):=aF.bW h3;have rp:Rep K (upd F a (.cX ob (Bf (kvs.map (·.1)) vs))) (.ref a) (.dv (kvs.map (·.1)) (kvs.map (·.2))):=by rw[Rep];exact⟨a,ob,vs,rfl,aM,h5.mono sm,by simp⟩
 have oa:Own ρ σ a:=⟨i,⟨_,_,e,rfl⟩,h1⟩;have old:∀j x,aZ (ρ.set i (.val false (.dv (kvs.map (·.1)) (kvs.map (·.2))))) σ j x->aZ ρ σ j x/\j≠i:=fun j x⟨⟨s,ds',q1,q2⟩,q3⟩=>by
  by_cases hj:j=i;.subst hj;rw[getElem?_set_self hi]at q1;cases q1;cases q2
  .rw[eV hj]at q1;exact⟨⟨⟨s,ds',q1,q2⟩,q3⟩,hj⟩
 refine⟨⟨⟨fun x o q=>?_,by simpa using g.len,fun j b' d q=>?_,fun j s ds' q q'=>?_,fun j k x q q'=>g.dis j k x (old j x q).1 (old k x q').1⟩,sm,fun x n n'=>?_,fun x o q n=>?_,fun x⟨j,q⟩=>.inl ⟨j,(old j x q).1⟩,by simp,fun j s q l=>⟨rfl,?_⟩⟩,rp⟩
 . by_cases hx:x=a;.subst hx;rw[aM]at q ⊢;exact q
   .rw[aC hx]at q ⊢;exact g.sub x o q
 . by_cases hj:j=i;.subst hj;rw[getElem?_set_self hi]at q;cases q;exact⟨_,h1,rp⟩
   .rw[eV hj]at q;obtain⟨v,q1,q2⟩:=g.val j b' d q;exact⟨v,q1,q2.mono sm⟩
 . by_cases hj:j=i;.subst hj;rw[getElem?_set_self hi]at q;cases q;cases q'
   . rw[eV hj]at q;obtain⟨x,ys,q1,q2,q3,q4⟩:=g.own j s ds' q q';have hx:x≠a:=by rintro rfl;exact hj (g.dis j i x ⟨⟨s,ds',q,q'⟩,q1⟩ ⟨⟨_,_,e,rfl⟩,h1⟩)
     exact⟨x,ys,q1,by rw[aC hx];exact q2,by rw[aC hx];exact q3,q4.mono sm⟩
 . by_cases hx:x=a;.subst hx;exact .inl oa
   .rw[aC hx]at n';exact absurd n n'
 . have hx:x≠a:=by rintro rfl;exact n oa
   rw[aC hx];exact q
 . by_cases hj:j=i;.subst hj;rw[e]at q;cases q;cases l
   .exact⟨s,by rw[eV hj];exact q,.refl s⟩
theorem Inv.Hw{X:Cx}{pins:List (Addr×Obj)}{s:Shared}{a:Addr}{kvs:List (Key×V)}(I:L2.Inv X pins σ H s)(h:H a=some (.dK kvs)):∃o,L2.Inv X pins σ (upd H a (.cX o (.dK kvs))) s:=by obtain⟨hz,hS,vs,r,dd⟩:=(show bI X.prog X.w H s.heap a (.dK kvs)from I.hok a _ h);obtain⟨o,ho,_⟩:=dd.typeIs;exact⟨o,I.write (h':=s.heap) (t':=s.toks) (by rw[h];exact trivial) (.inl rfl) (fun b u _ e=>e) ⟨o,ho⟩ ⟨ho,hz,hS,vs,r,dd⟩⟩
theorem TY(hN:X.N[i]?=some x)(hv:xg X.env.scope x)(hd:(x==("__debug__":Str))=false:=by decide)(hcd:(x==("__classdict__":Str))=false:=by decide):SX X c (.Name x pos) (.var i):=by
 have h:=fH (X:=X) (pos:=pos) hN hv hd hcd;refine⟨?_,fun j hj=>by cases hj;exact h⟩;rintro pins s σ H Q I⟨F,ρ,r,ρ',g,e,k⟩;rw[HH.E1]at e;split at e;.rename_i b d q;cases e;obtain⟨v,h1,h2⟩:=g.val i b d q;exact h pins s σ H Q I ⟨v,h1,k v F H (.refl g) h2⟩
 .rename_i b ds q;cases e;obtain⟨v,F',h1,h2,h3⟩:=g.freeze q;exact h pins s σ H Q I ⟨v,h1,k v F' H h2 h3⟩
 .rename_i kvs q;cases e;obtain⟨a,h1,h2,h3⟩:=g.Bs q;refine bR (h pins s σ H (fun v H'=>v=.ref a/\H'=H) I ⟨.ref a,h1,rfl,rfl⟩) fun u s1⟨v,H1,I1,r1,e1,e2⟩=>?_;subst e1 e2;obtain⟨o,I2⟩:=Inv.Hw I1 h2;exact⟨.ref a,_,I2,r1,k _ _ _ (h3 o).1 (h3 o).2⟩
 .rename_i kvs q;cases e;obtain⟨a,vs,h1,h2,h3⟩:=g.Ag q;refine bR (h pins s σ H (fun v H'=>v=.ref a/\H'=H) I ⟨.ref a,h1,rfl,rfl⟩) fun u s1⟨v,H1,I1,r1,e1,e2⟩=>?_;subst e1 e2;obtain⟨o,I2⟩:=Inv.Hw I1 h2;exact⟨.ref a,_,I2,r1,k _ _ _ (h3 o).1 (h3 o).2⟩
 .cases e
theorem za{d:D}(h:PE X e (tC v))(hr:∀F,Rep X.K F v d):SX X c e (.con d):=⟨dB h fun σ H Q⟨F,ρ,r,ρ',g,e,k⟩=>by rw[HH.E2]at e;cases e;exact k v F H (.refl g) (hr F),fun i h=>by cases h⟩
theorem aa{i j}:SX X c (.Constant (.int i) j pos) (.con (.int i)):=za qO fun F=>by rw[Rep]
theorem mq{i j}:SX X c (.Constant (.bool i) j pos) (.con (.bl i)):=za Xn fun F=>by rw[Rep]
theorem Il{j}:SX X c (.Constant .none j pos) (.con .non):=za TV fun F=>by rw[Rep]
theorem iu{i:Int}{t:Tok}(hg:Gl X x)(hm:X.mg x=some (.int i t))(hd:(x==("__debug__":Str))=false:=by decide):SX X c (.Name x pos) (.glob x (.int i)):=⟨dB (Lg (v:=.int i) hg hm ⟨t,rfl⟩ hd) fun σ H Q⟨F,ρ,r,ρ',g,e,k⟩=>by rw[HH.E3]at e;cases e;exact k (.int i) F H (.refl g) (show Rep X.K F (.int i) (.int i)by rw[Rep]),fun i h=>by cases h⟩
theorem dw.int{K:PySem.W.Frag}{F H:Hp}{v:V}{i:Int}(h:dw K F H v (.int i)):v=.int i:=by
 rcases h with h|⟨_,_,_,_,_,_,h⟩;.rw[Rep]at h;exact h
 .cases h
theorem dw.bl{K:PySem.W.Frag}{F H:Hp}{v:V}{i:Bool}(h:dw K F H v (.bl i)):v=.bl i:=by
 rcases h with h|⟨_,_,_,_,_,_,h⟩;.rw[Rep]at h;exact h
 .cases h
theorem dw.str{K:PySem.W.Frag}{F H:Hp}{v:V}{i:Str}(h:dw K F H v (.str i)):v=.str i:=by
 rcases h with h|⟨_,_,_,_,_,_,h⟩;.rw[Rep]at h;exact h
 .cases h
theorem dw.non{K:PySem.W.Frag}{F H:Hp}{v:V}(h:dw K F H v .non):v=.non:=by
 rcases h with h|⟨_,_,_,_,_,_,h⟩;.rw[Rep]at h;exact h
 .cases h
theorem dw.tup{K:PySem.W.Frag}{F H:Hp}{v:V}{ds:List D}(s:aF F H)(h:dw K F H v (.tup ds)):∃a xs,v=.ref a/\iD K H a xs/\aG K F xs ds/\Rep K F v (.tup ds):=by
 rcases h with h|⟨_,_,_,_,_,_,h⟩;.have h':=h;rw[Rep]at h;obtain⟨a,xs,rfl,h1,h2⟩:=h;exact⟨a,xs,rfl,aF.gn s h1,h2,h'⟩
 .cases h
theorem dw.lst{K:PySem.W.Frag}{F H:Hp}{v:V}{ds:List D}(s:aF F H)(h:dw K F H v (.lst ds)):∃a xs,v=.ref a/\dX K H a xs/\aG K F xs ds:=by
 rcases h with h|⟨a,xs,es,h1,h2,h3,h⟩;.rw[Rep]at h;obtain⟨a,xs,rfl,h1,h2⟩:=h;exact⟨a,xs,rfl,s.seq h1,h2⟩
 .cases h;exact⟨a,xs,h1,dX.of h2,h3⟩
theorem dw.dU{m:Dc}(s:aF F H)(h:dw K F H v (.dU m)):∃a o,v=.ref a/\H a=some (.cX o m.ho):=by
 rcases h with h|⟨_,_,_,_,_,_,h⟩;.rw[Rep]at h;obtain⟨a,o,rfl,h⟩:=h;exact⟨a,o,rfl,s _ _ h⟩
 .cases h
theorem Gd{X:Cx}{pins:List (Addr×Obj)}{s:Shared}{a:Addr}{ob:Obj}{m:Dc}(I:L2.Inv X pins σ H s)(h:H a=some (.cX ob m.ho)):∃o,s.heap.get? a=some o/\o.cls=.type "dict":=by have z:=(show bI X.prog X.w H s.heap a (.cX ob m.ho)from I.hok a _ h).2;cases m with|k kvs=>obtain⟨_,_,vs,_,d2⟩:=(show bI X.prog X.w H s.heap a (.dK _)from z);exact d2.typeIs|t kvs=>obtain⟨_,_,xs,_,o,es,ep,h1,h2,_⟩:=(show bI X.prog X.w H s.heap a (.dT _)from z);exact⟨o,h1,h2.1⟩
theorem dw.dv{ks:List Int}(s:aF F H)(h:dw K F H v (.dv ks ds)):∃a o vs,v=.ref a/\H a=some (.cX o (Bf ks vs))/\aG K F vs ds/\ks.length=ds.length:=by
 rcases h with h|⟨_,_,_,_,_,_,h⟩;.rw[Rep]at h;obtain⟨a,o,vs,rfl,h,h1,h2⟩:=h;exact⟨a,o,vs,rfl,s _ _ h,h1,h2⟩
 .cases h
theorem Io{X:Cx}{pins:List (Addr×Obj)}{s:Shared}{a:Addr}{ob:Obj}{ks:List Int}(I:L2.Inv X pins σ H s)(h:H a=some (.cX ob (Bf ks vs))):∃o,s.heap.get? a=some o/\o.cls=.type "dict":=by have z:=(show bI X.prog X.w H s.heap a (.cX ob (Bf ks vs))from I.hok a _ h).2;obtain⟨_,_,vs,_,d2⟩:=(show bI X.prog X.w H s.heap a (.dK _)from z);exact d2.typeIs
theorem dw.items{d:D}(s:aF F H)(h:dw K F H v d)(e:items d=some ds):∃a xs,v=.ref a/\(dX K H a xs\/iD K H a xs)/\aG K F xs ds:=by cases d with|tup es=>cases e;obtain⟨a,xs,h1,h2,h3,_⟩:=h.tup s;exact⟨a,xs,h1,.inr h2,h3⟩|lst es=>cases e;obtain⟨a,xs,h1,h2,h3⟩:=h.lst s;exact⟨a,xs,h1,.inl h2,h3⟩|_=>cases e
theorem cg.cV{Q:VK}{d:D}(s:aF F H)(r:Rep K F v d)(k:∀v F' H',Ext F H F' H'->cg K F' H' H v (.val d)->Q v H'):Q v H:=k v F H (.refl s) r
theorem bN(i:Int):Rep K F (.int i) (.int i):=by rw[Rep]
theorem fL(i:Bool):Rep K F (.bl i) (.bl i):=by rw[Rep]
theorem QH(i:Str):Rep K F (.str i) (.str i):=by rw[Rep]
theorem Q0:Rep K F .non .non:=by rw[Rep]
theorem yq{Q:VK}{xs:List V}{p:Addr}(s:aF F H)(r:aG K F xs ds)(hp:H p=none)(k:∀v F' H',Ext F H F' H'->cg K F' H' H v (.own ds)->Q v H'):Q (.ref p) (upd H p (.lst xs)):=by
 have fp:F p=none:=by cases q:F p with|none=>rfl|some o=>rw[s p o q]at hp;cases hp
 exact k _ F _ ⟨aF.bW hp,.refl _,s.trans (aF.bW hp),fun _ a b=>absurd a b⟩ ⟨p,xs,rfl,aM,fp,r,hp⟩
theorem yW{Q:VK}{xs:List V}{p:Addr}(s:aF F H)(r:aG K F xs ds)(hp:H p=none)(k:∀v F' H',Ext F H F' H'->cg K F' H' H v (.val (.tup ds))->Q v H'):Q (.ref p) (upd H p (.tup xs)):=by
 have fp:F p=none:=by cases q:F p with|none=>rfl|some o=>rw[s p o q]at hp;cases hp
 have sm:aF F (upd F p (.tup xs)):=aF.bW fp;refine k _ (upd F p (.tup xs)) _ ⟨aF.bW hp,sm,fun b o e=>?_,fun b n n'=>?_⟩ ?_
 . by_cases hb:b=p;.subst hb;rw[aM]at e ⊢;exact e
   .rw[aC hb]at e ⊢;exact s b o e
 . by_cases hb:b=p;.subst hb;exact jU hp
   .rw[aC hb]at n';exact absurd n n'
 .show Rep K _ _ (.tup ds);rw[Rep];exact⟨p,xs,rfl,iD.of aM,r.mono sm⟩
end
theorem rQ(k:Int)(t:Tok)(l:Addr)(its:Array Value)(n:Nat)(dd:Option Addr)(sl:Array (Option Value)):Meets (Builtin.«int.__rmul__» ⟨[.int k t,.ref l],[]⟩) (fun _ R s=>s.heap.get? l=some ⟨.type "list",dd,.seq its n,sl⟩/\R (.ok (.ret Value.notImplemented)) s):=.of_wp fun prog w A R s h=>by obtain⟨hp,g,d,tk,os⟩:=s;obtain⟨hl,h⟩:=h;wp_walk;exact⟨_,rfl,h⟩
theorem Dk(l:Addr)(its:Array Value)(n:Nat)(dd:Option Addr)(sl:Array (Option Value))(k:Int)(t:Tok)(h0:¬(!Builtin.List.listFitsIndex k)=true)(h1:¬its.size*k.toNat>(2^63-1)/8)(h2:¬listTooLong (its.size*k.toNat)=true):Meets (Builtin.«list.__mul__» ⟨[.ref l,.int k t],[]⟩) (fun _ R s=>s.heap.get? l=some ⟨.type "list",dd,.seq its n,sl⟩/\R (.ok (.ret (Value.ref s.heap.objs.size))) {s with heap:=s.heap.push {cls:=.type "list",data:=.seq (foldl (·++·) #[] (replicate (if its.isEmpty=true then 0 else k.toNat) its))}}):=.of_wp fun prog w A R s h=>by obtain⟨hp,g,d,tk,os⟩:=s;obtain⟨hl,h⟩:=h;have hz:=AutoListH.joined_fits h2;wp_walk using wpAny_loadPart' hl;refine wpAny_ite_false (decide_eq_false (Nat.not_lt.mpr hz)) ?_;wp_walk;exact⟨_,rfl,h⟩
section
variable{X:Cx}{c:Call}{e a b d:Expr}{p pa pb pd:P}{pos:Pos}
theorem Mv:fU X (binaryOp .Add) (fun x y H Q=>∃l b xs zs,x=.ref l/\y=.ref b/\dX X.K H l xs/\dX X.K H b zs/\xs.length+zs.length<=sizeLine/\∀p,H p=none->Q (.ref p) (upd H p (.lst (xs++zs)))):=by
 intro pins s σ H x y v u Q I rx ry h;obtain⟨l,b,xs,zs,rfl,rfl,hl,hb,hz,q⟩:=h;cases rx;cases ry;obtain⟨its,r,pl,_⟩:=I.list hl;obtain⟨its2,r2,Qf,_⟩:=I.list hb;obtain⟨⟨cls,dd,data,sl⟩,ho,hc,n,hd⟩:=id pl.isList;obtain⟨⟨cls2,dd2,data2,sl2⟩,ho2,hc2,n2,hd2⟩:=id Qf.isList;simp only at hc hd hc2 hd2;subst hc hd hc2 hd2;have e:its.toArray++its2.toArray=(its++its2).toArray:=by simp
 refine concat_meets ⟨_,ho,rfl⟩ ⟨_,ho2,rfl⟩ noFill_list_add seq_list_add PySem.F.slot_list_add PySem.F.entry_list_add (PySem.F.args_list_add_2 _ _) (list_addW l b its.toArray its2.toArray n n2 dd dd2 sl sl2 (by simp only[size_toArray];rw[<-r.length,<-r2.length];exact hz)) ⟨ho,ho2,?_⟩;rw[e];exact⟨.ref _,_,I.Rm (t':=s.toks) (r.append r2) (by rw[length_append];exact hz),rfl,q _ I.fresh⟩
theorem Ii:fU X (binaryOp .Add) (fun x y H Q=>∃a b ys,x=.ref a/\y=.ref b/\iD X.K H a []/\iD X.K H b ys/\Q (.ref b) H):=by intro pins s σ H x y v u Q I rx ry h;obtain⟨a,b,ys,rfl,rfl,ha,hb,q⟩:=h;cases rx;cases ry;obtain⟨its,r1,p1,_⟩:=I.tuple ha;obtain⟨its2,r2,p2,_⟩:=I.tuple hb;obtain⟨⟨cls,dd,data,sl⟩,ho,hc,n,hd⟩:=id p1;obtain⟨⟨cls2,dd2,data2,sl2⟩,ho2,hc2,n2,hd2⟩:=id p2;simp only at hc hd hc2 hd2;subst hc hd hc2 hd2;have e0:its=[]:=r1.pL.mpr rfl;subst e0;exact concat_meets ⟨_,ho,rfl⟩ ⟨_,ho2,rfl⟩ noFill_tuple_add seq_tuple_add slot_tuple_add entry_tuple_add (args_tuple_add_2 _ _) (tuple_addW0 a b _ its2.toArray n n2 dd dd2 sl sl2 (by simp)) ⟨ho,ho2,⟨.ref b,H,I,rfl,q⟩⟩
theorem aN:fU X (binaryOp .Add) (rD X.K (rT .add)):=by
 rintro pins s σ H x y v u Q I rx ry⟨F,d,e,r,sm,px,py,he,k⟩;replace he:qY d e=some r:=he;unfold qY at he;split at he;.cases he;rw[px.int]at rx;rw[py.int]at ry;exact RT pins s σ H _ _ v u Q I rx ry ⟨_,_,rfl,rfl,cg.cV sm (bN _) k⟩
 .rename_i xs ys;obtain⟨hl,he⟩:=bF he;subst he;obtain⟨a,vs,rfl,ha,ra⟩:=px.lst sm;obtain⟨b,us,rfl,hb,rb⟩:=py.lst sm;exact Mv pins s σ H _ _ v u Q I rx ry ⟨a,b,vs,us,rfl,rfl,ha,hb,by rw[ra.length,rb.length];exact hl,fun p hp=>yq sm (ra.append rb) hp k⟩
 . rename_i xs ys;obtain⟨hl,he⟩:=bF he;subst he;obtain⟨a,vs,rfl,ha,ra,ta⟩:=px.tup sm;obtain⟨b,us,rfl,hb,rb,tb⟩:=py.tup sm;by_cases h0:vs=[]
   . subst h0;have e0:xs=[]:=by have:=ra.length;exact List.eq_nil_of_length_eq_zero this.symm
     subst e0;exact Ii pins s σ H _ _ v u Q I rx ry ⟨a,b,us,rfl,rfl,ha,hb,cg.cV sm tb k⟩
   . refine Ld pins s σ H _ _ v u Q I rx ry ⟨a,b,vs,us,rfl,rfl,ha,hb,h0,by rw[ra.length,rb.length];exact hl,fun e=>?_,fun _ p hp=>yW sm (ra.append rb) hp k⟩;subst e;have e0:ys=[]:=by have:=rb.length;exact List.eq_nil_of_length_eq_zero this.symm
     subst e0;rw[append_nil]at k;exact cg.cV sm ta k
 .rename_i x1 y1;obtain⟨hl,he⟩:=bF he;subst he;rw[px.str]at rx;rw[py.str]at ry;exact zL pins s σ H _ _ v u Q I rx ry ⟨_,_,rfl,rfl,hl,cg.cV sm (QH _) k⟩
 .cases he
theorem dm:fU X (binaryOp .Sub) (rD X.K (rT .sub)):=by
 rintro pins s σ H x y v u Q I rx ry⟨F,d,e,r,sm,px,py,he,k⟩;replace he:wz d e=some r:=he;unfold wz at he;split at he;.cases he;rw[px.int]at rx;rw[py.int]at ry;exact Tt pins s σ H _ _ v u Q I rx ry ⟨_,_,rfl,rfl,cg.cV sm (bN _) k⟩
 .cases he
theorem Nb:fU X (binaryOp .Mult) (fun x y H Q=>∃l k xs,x=.ref l/\y=.int k/\dX X.K H l xs/\-(2^63)<=k/\k<2^63/\xs.length*k.toNat<=sizeLine/\∀p,H p=none->Q (.ref p) (upd H p (.lst (replicate k.toNat xs).flatten))):=by
 intro pins s σ H x y v u Q I rx ry h;obtain⟨l,k,xs,rfl,rfl,hl,h1,h2,hz,q⟩:=h;cases rx;obtain⟨t,rfl⟩:=ry;obtain⟨its,r,pl,_⟩:=I.list hl;obtain⟨⟨cls,dd,data,sl⟩,ho,hc,n,hd⟩:=id pl.isList;simp only at hc hd;subst hc hd;have hlen:its.toArray.size*k.toNat<=sizeLine:=by rw[size_toArray,<-r.length];exact hz
 have ae5:¬ its.toArray.size*k.toNat>(2^63-1)/8:=by
  have:(sizeLine:Nat)<=(2^63-1)/8:=by decide
  omega
 have hnew:foldl (·++·) #[] (replicate (if its.toArray.isEmpty=true then 0 else k.toNat) its.toArray)=(replicate k.toNat its).flatten.toArray:=by
  have f0:∀m:Nat,foldl (·++·) #[] (replicate m its.toArray)=(replicate m its).flatten.toArray:=fun m=>by have:=foldl_rep its m [];rw[nil_append]at this;exact this
  rw[f0];cases its with|nil=>simp|cons a r'=>rw[if_neg (by simp)]
 refine wpAny_binaryOp_repeat_ref (T:="list") (U:="int") (by decide) ⟨_,ho,rfl⟩ (fun s'=>typeIs_int s' k t) noFill_list_mul F.fills_int_mul F.slot_int_rmul repeat_list F.slot_int_index.lookup ?_;refine call_meets F.slot_int_rmul (typeIs_int s k t) F.entry_int_rmul (F.args_int_rmul_2 _ _) (rQ k t l its.toArray n dd sl) ⟨ho,rfl,⟨_,ho,rfl⟩,?_⟩;refine call_meets F.slot_list_mul ⟨_,ho,rfl⟩ F.entry_list_mul (F.args_list_mul_2 _ _) (Dk l its.toArray n dd sl k t (by rw[fitsIndex_both h1 h2];exact Bool.false_ne_true) ae5 (by rw[Hn hlen];exact Bool.false_ne_true)) ⟨ho,?_⟩;rw[hnew];exact⟨.ref _,_,I.Rm (t':=s.toks) (r.rep k.toNat) (by rw[len_rep,Nat.mul_comm];exact hz),rfl,q _ I.fresh⟩
theorem nF:fillsNumberSlot (.type "tuple") "mul"=pure false:=PySem.fillsNumberSlot_seq (id:="tuple.__mul__") (r:=some (.builtin "tuple.__rmul__")) slot_tuple_mul.lookup (by decide+kernel) PySem.F.slot_tuple_rmul.lookup (by decide+kernel)
theorem uM:seqRepeat? (.type "tuple")=pure (some (.builtin "tuple.__mul__")):=by unfold seqRepeat?;rw[PySem.seqSlot_of (T:="tuple") (name:="__mul__") (id:="tuple.__mul__") slot_tuple_mul.lookup (by decide+kernel),PySem.seqSlot_of (T:="tuple") (name:="__rmul__") (id:="tuple.__rmul__") PySem.F.slot_tuple_rmul.lookup (by decide+kernel)];rfl
theorem qw(k:Int)(t:Tok)(l:Addr)(its:Array Value)(n:Nat)(dd:Option Addr)(sl:Array (Option Value)):Meets (Builtin.«int.__rmul__» ⟨[.int k t,.ref l],[]⟩) (fun _ R s=>s.heap.get? l=some ⟨.type "tuple",dd,.seq its n,sl⟩/\R (.ok (.ret Value.notImplemented)) s):=.of_wp fun prog w A R s h=>by obtain⟨hp,g,d,tk,os⟩:=s;obtain⟨hl,h⟩:=h;wp_walk;exact⟨_,rfl,h⟩
theorem zy(l:Addr)(its:Array Value)(n:Nat)(dd:Option Addr)(sl:Array (Option Value))(k:Int)(t:Tok)(h0:0<=k)(h1:k<2^63)(hz:its.size*k.toNat<=sizeLine)(hne:0<its.size):Meets (Builtin.«tuple.__mul__» ⟨[.ref l,.int k t],[]⟩) (fun _ R s=>s.heap.get? l=some ⟨.type "tuple",dd,.seq its n,sl⟩/\(k=1->R (.ok (.ret (Value.ref l))) s)/\(k≠1->R (.ok (.ret (Value.ref s.heap.objs.size))) {s with heap:=s.heap.push {cls:=.type "tuple",data:=.seq (foldl (·++·) #[] (replicate k.toNat its))}})):=.of_wp fun prog w A R s h=>by
  obtain⟨hp,g,d,tk,os⟩:=s;obtain⟨hl,q1,q2⟩:=h;have hem:its.isEmpty=false:=by cases e:its.isEmpty with|false=>rfl|true=>rw[Array.isEmpty_iff_size_eq_zero]at e;omega
  show wpAny _ _ (asIndex (.int k t)>>=_) _ _ _;wp_walk using wpAny_loadPart' hl;have hI:IsTup hp l its:=⟨_,hl,rfl,n,rfl⟩;rw[if_neg (by simp;omega)];refine wpAny_bind (PyProof.Rows.tupleItemsOf_ hI ?_);try dsimp only
  by_cases e1:k=1;.rw[if_pos (by simp[e1])];wp_walk using wpAny_loadPart' hl;exact⟨_,rfl,q1 e1⟩
  . have q:=q2 e1;rw[if_neg (by simp[hem,e1])];by_cases e0:k=0;.subst e0;rw[if_pos (by simp)];unfold tupleExact;refine wpAny_bind (wpAny_newObj_type ?_);exact wpAny_pure ⟨_,rfl,q⟩
    . have hb:(its.size:Int)*k<=sizeLine:=by
       have:((its.size*k.toNat:Nat):Int)<=(sizeLine:Nat):=by exact_mod_cast hz
       rw[Int.natCast_mul,show((k.toNat:Nat):Int)=k by omega]at this;exact this
      have hs2:(sizeLine:Int)<=(2^63-1)/8:=by decide
      rw[if_neg (by simp[hem];omega),if_neg (by omega),if_neg (by simp[Builtin.Tuple.tupleTooMany];omega)];unfold tupleExact;refine wpAny_bind (wpAny_newObj_type ?_ ?_);.exact wpAny_pure ⟨_,rfl,q⟩
      .have:=foldl_rep its.toList k.toNat [];rw[nil_append,show its.toList.toArray=its by simp]at this;show(foldl (·++·) #[] (replicate k.toNat its)).size<=sizeLine;rw[show(#[]:Array Value)=([]:List Value).toArray from rfl,this,size_toArray,len_rep,length_toList,Nat.mul_comm];exact hz
theorem Kl:fU X (binaryOp .Mult) (fun x y H Q=>∃l k xs,x=.ref l/\y=.int k/\iD X.K H l xs/\0<xs.length/\0<=k/\k<2^63/\xs.length*k.toNat<=sizeLine/\(k=1->Q (.ref l) H)/\(k≠1->∀p,H p=none->Q (.ref p) (upd H p (.tup (replicate k.toNat xs).flatten)))):=by
 intro pins s σ H x y v u Q I rx ry h;obtain⟨l,k,xs,rfl,rfl,hl,hne,h1,h2,hz,qa,qb⟩:=h;cases rx;obtain⟨t,rfl⟩:=ry;obtain⟨its,r,pl,_⟩:=I.tuple hl;obtain⟨⟨cls,dd,data,sl⟩,ho,hc,n,hd⟩:=id pl;simp only at hc hd;subst hc hd;have hlen:its.toArray.size*k.toNat<=sizeLine:=by rw[size_toArray,<-r.length];exact hz
 have hnew:foldl (·++·) #[] (replicate k.toNat its.toArray)=(replicate k.toNat its).flatten.toArray:=by have:=foldl_rep its k.toNat [];rw[nil_append]at this;exact this
 refine wpAny_binaryOp_repeat_ref (T:="tuple") (U:="int") (by decide) ⟨_,ho,rfl⟩ (fun s'=>typeIs_int s' k t) nF F.fills_int_mul F.slot_int_rmul uM F.slot_int_index.lookup ?_;refine call_meets F.slot_int_rmul (typeIs_int s k t) F.entry_int_rmul (F.args_int_rmul_2 _ _) (qw k t l its.toArray n dd sl) ⟨ho,rfl,⟨_,ho,rfl⟩,?_⟩;refine call_meets slot_tuple_mul ⟨_,ho,rfl⟩ PySem.F.entry_tuple_mul (PySem.F.args_tuple_mul_2 _ _) (zy l its.toArray n dd sl k t h1 h2 hlen (by rw[size_toArray,<-r.length];exact hne)) ⟨ho,fun e=>⟨.ref l,H,I,rfl,qa e⟩,fun e=>?_⟩;rw[hnew];refine⟨.ref s.heap.objs.size,_,I.laid (t':=s.toks) (o:=.tup (replicate k.toNat xs).flatten) (fun b ob q=>dC q) (dh) ?_,rfl,qb e _ (I.hok.fresh (dh))⟩;exact⟨by rw[len_rep,Nat.mul_comm];exact hz,_,r.rep k.toNat,IsTup.new _ _⟩
theorem dj:fU X (binaryOp .Mult) (rD X.K (rT .mul)):=by
 rintro pins s σ H x y v u Q I rx ry⟨F,d,e,r,sm,px,py,he,k⟩;replace he:n6 d e=some r:=he;unfold n6 at he;split at he;.obtain⟨hc,he⟩:=bF he;subst he;rw[px.int]at rx;rw[py.int]at ry;exact RV pins s σ H _ _ v u Q I rx ry ⟨_,_,rfl,rfl,hc,cg.cV sm (bN _) k⟩
 . rename_i xs i;obtain⟨⟨h1,h2,h3⟩,he⟩:=bF he;subst he;obtain⟨a,vs,rfl,ha,ra⟩:=px.lst sm;rw[py.int]at ry;have hk:i<2^63:=by have h4:=Nat.le_mul_of_pos_left i.toNat h2;have h5:i.toNat<=16777216:=le_trans h4 h3;omega
   exact Nb pins s σ H _ _ v u Q I rx ry ⟨a,i,vs,rfl,rfl,ha,by omega,hk,by rw[ra.length];exact h3,fun p hp=>yq sm (ra.rep i.toNat) hp k⟩
 . rename_i xs i;obtain⟨⟨h1,h2,h3⟩,he⟩:=bF he;subst he;obtain⟨a,vs,rfl,ha,ra,rr⟩:=px.tup sm;rw[py.int]at ry;have hk:i<2^63:=by have h4:=Nat.le_mul_of_pos_left i.toNat h2;have h5:i.toNat<=16777216:=le_trans h4 h3;omega
   refine Kl pins s σ H _ _ v u Q I rx ry ⟨a,i,vs,rfl,rfl,ha,by rw[ra.length];exact h2,h1,hk,by rw[ra.length];exact h3,fun e=>?_,fun e p hp=>yW sm (ra.rep i.toNat) hp k⟩;subst e;refine cg.cV sm ?_ k;have e1:(replicate (1:Int).toNat xs).flatten=xs:=by simp
   rw[e1];exact rr
 .cases he
theorem wj:fU X (binaryOp .FloorDiv) (rD X.K (rT .fdiv)):=by
 rintro pins s σ H x y v u Q I rx ry⟨F,d,e,r,sm,px,py,he,k⟩;replace he:qH d e=some r:=he;unfold qH at he;split at he
 . rename_i i j;obtain⟨⟨h1,h2⟩,he⟩:=bF he;subst he;rw[px.int]at rx;rw[py.int]at ry;obtain⟨t,rfl⟩:=rx;obtain⟨t',rfl⟩:=ry;have hl:j.natAbs.log2<9000:=by
    have:j.natAbs<2^200:=by
     have:(2:Nat)^200=1606938044258990275541962092341162602522202993782792835301376:=by decide
     omega
    have h3:=(Nat.log2_lt (by omega)).mpr this;omega
   exact floordiv_int (by omega) (by rw[Int.fdiv_eq_ediv_of_nonneg i (by omega)];exact⟨.int _,H,I.tok _,⟨_,rfl⟩,cg.cV sm (bN _) k⟩) (.inl (PyProof.noPylong_of_log2 hl))
 .cases he
theorem dq:fU X (binaryOp .Mod) (rD X.K (rT .mod)):=by
 rintro pins s σ H x y v u Q I rx ry⟨F,d,e,r,sm,px,py,he,k⟩;replace he:xQ d e=some r:=he;unfold xQ at he;split at he;.obtain⟨h1,he⟩:=bF he;subst he;rw[px.int]at rx;rw[py.int]at ry;exact QL pins s σ H _ _ v u Q I rx ry ⟨_,_,rfl,rfl,h1,cg.cV sm (bN _) k⟩
 .cases he
theorem dN:fU X (binaryOp .Pow) (rD X.K (rT .pow)):=by
 rintro pins s σ H x y v u Q I rx ry⟨F,d,e,r,sm,px,py,he,k⟩;replace he:wY d e=some r:=he;unfold wY at he;split at he;.obtain⟨⟨h1,h2,h3⟩,he⟩:=bF he;subst he;rw[px.int]at rx;rw[py.int]at ry;exact TF pins s σ H _ _ v u Q I rx ry ⟨_,_,rfl,rfl,⟨h1,by omega,h3⟩,cg.cV sm (bN _) k⟩
 .cases he
theorem au{o:Op}{op:Operator}(ho:fU X (binaryOp op) (rD X.K (rT o)))(ha:SX X c a pa)(hb:SX X c b pb):SX X c (.BinOp a op b pos) (.bin o pa pb):=uN (fun h1 h2=>XJ ho h1 h2) ha hb (fun ρ=>rfl) rfl
theorem Fy(ha:SX X c a pa):SX X c (.UnaryOp .USub a pos) (.neg pa):=by refine Rp (f:=Ji) (fun h1=>YH ?_ h1) ha (fun ρ=>rfl) rfl;rintro pins s σ H x v Q I rx⟨F,d,r,sm,px,he,k⟩;unfold Ji at he;obtain⟨i,e1,e2⟩:=map_some he;subst e2;cases d<;>cases e1;rw[px.int]at rx;exact Tu pins s σ H _ v Q I rx ⟨_,rfl,cg.cV sm (bN _) k⟩
theorem BZ{f:Int->Int->Bool}(ho:fU X (compareOp op) (JZ fun i j=>.bl (f i j))):fU X (compareOp op) (rD X.K fun x y=>(J4 f x y).map fun k=>.val (.bl k)):=by
 rintro pins s σ H x y v u Q I rx ry⟨F,d,e,r,sm,px,py,he,k⟩;obtain⟨t,e1,e2⟩:=map_some (show(J4 f d e).map _=some r from he);subst e2;unfold J4 at e1;split at e1;.cases e1;rw[px.int]at rx;rw[py.int]at ry;exact ho pins s σ H _ _ v u Q I rx ry ⟨_,_,rfl,rfl,cg.cV sm (fL _) k⟩
 .cases e1
theorem yU{f:Int->Int->Bool}(ho:fU X (compareOp op) (JZ fun i j=>.bl (f i j))){o:Cm}(hc:cm o=J4 f):fU X (compareOp op) (rD X.K (rE o)):=by
 have e:rE o=fun x y=>(J4 f x y).map fun k=>.val (.bl k):=by funext x y;unfold rE;rw[hc]
 rw[e];exact BZ ho
theorem R5:fU X (compareOp .Lt) (rD X.K fun x y=>(J4 (fun i j=>decide (i<j)) x y).map fun k=>.val (.bl k)):=BZ Yj
theorem m8:fU X (compareOp .LtE) (rD X.K (rE .le)):=yU Y5 rfl
theorem lq:fU X (compareOp .Gt) (rD X.K (rE .gt)):=yU YJ rfl
theorem T4:fU X (compareOp .GtE) (rD X.K (rE .ge)):=yU Xx rfl
theorem Er{d:D}(h:dw K F H v d):decide (v=.non)=jM d:=by cases d with
 |non=>rw[h.non];rfl|bl _=>rw[h.bl];rfl|int _=>rw[h.int];rfl|str _=>rw[h.str];rfl|tup _=>
   rcases h with h|⟨a,_,_,rfl,_⟩;.rw[Rep]at h;obtain⟨a,_,rfl,_⟩:=h;rfl
   .rfl|lst _=>
   rcases h with h|⟨a,_,_,rfl,_⟩;.rw[Rep]at h;obtain⟨a,_,rfl,_⟩:=h;rfl
   .rfl|dU _=>
   rcases h with h|⟨a,_,_,rfl,_⟩;.rw[Rep]at h;obtain⟨a,_,rfl,_⟩:=h;rfl
   .rfl|dv _ _=>
   rcases h with h|⟨a,_,_,rfl,_⟩;.rw[Rep]at h;obtain⟨a,_,_,rfl,_⟩:=h;rfl
   .rfl
theorem MT:fU X (compareOp .IsNot) (rD X.K (rE .Nv)):=by
 rintro pins s σ H x y v u Q I rx ry⟨F,d,e,r,sm,px,py,he,k⟩;obtain⟨t,e1,e2⟩:=map_some (show(cmN true d e).map _=some r from he);subst e2;unfold cmN at e1;split at e1;.cases e1;exact Kf pins s σ H x y v u Q I rx ry ⟨py.non,by rw[Er px];exact cg.cV sm (fL _) k⟩
 .cases e1
theorem qQ{o:Cm}(ho:fU X (compareOp op) (rD X.K (rE o)))(ha:SX X c a pa)(hb:SX X c b pb)(hm:behindInMarks op b=false):SX X c (.Compare a [op] [b] pos) (.cmp o pa pb):=uN (fun h1 h2=>Kw ho h1 h2 hm) ha hb (fun ρ=>rfl) rfl
theorem xx{o o':Cm}{op':CmpOp}(ho:fU X (compareOp op) (rD X.K (rE o)))(ho':fU X (compareOp op') (rD X.K (rE o')))(ha:SX X c a pa)(hb:SX X c b pb)(hd:SX X c d pd)(hm:lastMarks [op,op'] [b,d]=false:=by with_unfolding_all rfl):SX X c (.Compare a [op,op'] [b,d] pos) (.chain o o' pa pb pd):=by
 obtain⟨ta,tb,h1,h2,h3⟩:=ha.iw hb;obtain⟨td,h4,h5⟩:=hd.cC;refine⟨dB (Jl ho ho' h1 h2 h4 hm) ?_,fun i h=>by cases h⟩;rintro σ H Q⟨F,ρ,r,ρ',g,e,k⟩;rw[HH.E10]at e;obtain⟨xy,ρ1,e1,e⟩:=aj e;obtain⟨t,ρ2,e2,e⟩:=aj e;have zz:=aD e2;clear e2;obtain⟨e2,e3⟩:=zz;subst e3;have hfl:flat xy.2=true/\cm o xy.1 xy.2=some t:=by
  split at e2;.rename_i hf;exact⟨hf,e2⟩
  .cases e2
 obtain⟨hfl,e2⟩:=hfl;refine h3 g e1 fun v u F' H' s pv pu=>⟨F',xy.1,xy.2,.val (.bl t),s.gs.sub,pv,pu,by unfold rE;rw[e2];rfl,fun w F2 H2 x rn=>?_⟩;have s2:=s.trans (x.stp s.gs);have rn:Rep X.K F2 w (.bl t):=rn;rw[Rep]at rn;subst rn;refine⟨t,rfl,?_⟩;cases t with|false=>rw[if_neg Bool.false_ne_true]at e ⊢;cases e;exact k _ F2 H2 s2 (show Rep X.K F2 _ _ from fL _)|true=>
   rw[if_pos rfl]at e ⊢;obtain⟨z,ρ3,e3,e⟩:=aj e;obtain⟨e4,e5⟩:=aD e;subst e5;refine h5 s2.gs e3 fun w F3 H3 s3 pw=>⟨F3,xy.2,z,r,s3.gs.sub,?_,pw,e4,fun w' F4 H4 x4 rn=>?_⟩
   . have x1:=x.fs;have x2:=s3.bO;rcases pu with pu|⟨_,_,_,_,_,_,h⟩;.exact .inl ((pu.mono x1).mono x2)
     .rw[h]at hfl;cases hfl
   .have s4:=s2.trans s3;exact k w' F4 H4 (s4.trans (x4.stp s4.gs)) (.later s4 (rn.pq s4.gs))
end
section
variable{X:Cx}{c:Call}{e a b d:Expr}{p pa pb pd:P}{pos:Pos}{rest:List Expr}
theorem rC{x:D}{k:Bool}(h:yN x=some k):x=.bl k:=by cases x<;>cases h;rfl
theorem cQ{x:D}{k:Int}(h:iK x=some k):x=.int k:=by cases x<;>cases h;rfl
theorem cM.bool{F' H':Hp}{σ':L2.St}{r:R}{k:Bool}(h:cM K F' ρ' σ' H' ρ σ H v r)(e:r.d=.bl k):v=.bl k:=by cases r with|val d=>cases(show d=.bl k from e);have h:Rep K F' v (.bl k):=h;rw[Rep]at h;exact h|own ds=>cases e
def ST(X:Cx)(c:Call)(e:Expr)(p:P):Prop:=PT X e (Ec X.K (iH (HH.ev c p)))
def SW(X:Cx)(c:Call)(e:Expr)(p:P):Prop:=PW X e (Ec X.K (iH (HH.ev c p)))
theorem SW.st(h:SW X c e p):ST X c e p:=PW.pt h
theorem nQ{t:TE}{Q:Bool->Hp->Prop}(hi:∀Q,vD X.K (HH.ev c p) σ H Q->t σ H Q)(h:Ec X.K (iH (HH.ev c p)) σ H Q):t σ H fun x H1=>∃k,x=.bl k/\Q k H1:=by obtain⟨F,ρ,k,ρ',g,e,q⟩:=h;obtain⟨r,ρ1,e1,e2⟩:=aj e;have zz:=aD e2;clear e2;obtain⟨e2,e3⟩:=zz;subst e3;exact hi _ ⟨F,ρ,r,ρ1,g,e1,fun v F' H' s rr=>⟨k,rr.bool (rC e2),q F' H' s⟩⟩
theorem gw(h:SX X c e p)(he:∀whole,isTrue e X.env whole=(do let v<-whole;standAt e.pos;holding [v] (truthy v)):=by intro _;rfl):ST X c e p:=wJ (R7 h.ev he) fun σ H Q q=>nQ (fun _ z=>z) q
theorem cB{o:Cm}(ho:fU X (compareOp op) (rD X.K (rE o)))(ha:SX X c a pa)(hb:SX X c b pb)(hm:behindInMarks op b=false):ST X c (.Compare a [op] [b] pos) (.cmp o pa pb):=by obtain⟨ta,tb,h1,h2,h3⟩:=ha.iw hb;refine wJ (Bl ho h1 h2 hm) fun σ H Q q=>nQ (t:=QS (rD X.K (rE o)) ta tb) (fun Q z=>?_) q;obtain⟨F,ρ,r,ρ',g,e,k⟩:=z;rw[HH.E9]at e;obtain⟨xy,ρ1,e1,e2⟩:=aj e;have zz:=aD e2;clear e2;obtain⟨e2,e3⟩:=zz;subst e3;refine h3 g e1 fun v u F' H' s pv pu=>⟨F',xy.1,xy.2,r,s.gs.sub,pv,pu,e2,fun w F2 H2 x rn=>?_⟩;exact k w F2 H2 (s.trans (x.stp s.gs)) (.later s (rn.pq s.gs))
theorem nU(ha:ST X c a pa):ST X c (.UnaryOp .Not a pos) (.not pa):=by
 refine wJ (R3 ha) ?_;rintro σ H Q⟨F,ρ,k,ρ',g,e,q⟩;unfold iH at e;rw[HH.E6]at e;obtain⟨r,ρ1,e1,e2⟩:=aj e;obtain⟨k',ρ2,e3,e4⟩:=aj e1;cases e4;have zz:=aD e2;clear e2;obtain⟨e2,e5⟩:=zz;subst e5;have e2:(!k')=k:=by cases e2;rfl
 exact⟨F,ρ,k',_,g,e3,fun F' H' s=>by show Q (!k') H';rw[e2];exact q F' H' s⟩
theorem MP(ρ:List Sl):iH (HH.ev c (.and pa pb)) ρ=(iH (HH.ev c pa) ρ).bind fun x ρ=>if x then iH (HH.ev c pb) ρ else .ok false ρ:=by unfold iH;rw[HH.E7];unfold iH;cases HH.ev c pa ρ with|exc _ _=>rfl|stuck=>rfl|ok r ρ1=>simp only[Res.bind];cases h:yN r.d with|none=>rfl|some k=>cases k with|false=>rfl|true=>simp only[lift,if_true];cases HH.ev c pb ρ1 with|exc _ _=>rfl|stuck=>rfl|ok r2 ρ2=>simp only[Res.bind];cases h2:yN r2.d with|none=>rfl|some k2=>rfl
theorem Th(ρ:List Sl):iH (HH.ev c (.or pa pb)) ρ=(iH (HH.ev c pa) ρ).bind fun x ρ=>if x then .ok true ρ else iH (HH.ev c pb) ρ:=by unfold iH;rw[HH.E8];unfold iH;cases HH.ev c pa ρ with|exc _ _=>rfl|stuck=>rfl|ok r ρ1=>simp only[Res.bind];cases h:yN r.d with|none=>rfl|some k=>cases k with|true=>rfl|false=>simp only[lift,false_eq_true,if_false];cases HH.ev c pb ρ1 with|exc _ _=>rfl|stuck=>rfl|ok r2 ρ2=>simp only[Res.bind];cases h2:yN r2.d with|none=>rfl|some k2=>rfl
theorem Ls(ha:ST X c a pa):SW X c (.BoolOp .And [a] pos) pa:=KQ ha
theorem rF(ha:ST X c a pa):SW X c (.BoolOp .Or [a] pos) pa:=Tv ha
theorem Uz(ha:ST X c a pa)(hb:SW X c (.BoolOp .And (b::rest) pos) pb):SW X c (.BoolOp .And (a::b::rest) pos) (.and pa pb):=by refine O3 (Uc ha hb) ?_;rintro σ H Q⟨F,ρ,k,ρ',g,e,q⟩;rw[MP]at e;obtain⟨x,ρ1,e1,e⟩:=aj e;refine⟨F,ρ,x,ρ1,g,e1,fun F1 H1 s1=>?_⟩;cases x with|true=>rw[if_pos rfl]at e ⊢;exact⟨F1,ρ1,k,ρ',s1.gs,e,fun F2 H2 s2=>q F2 H2 (s1.trans s2)⟩|false=>rw[if_neg Bool.false_ne_true]at e ⊢;cases e;exact q F1 H1 s1
theorem tE(ha:ST X c a pa)(hb:SW X c (.BoolOp .Or (b::rest) pos) pb):SW X c (.BoolOp .Or (a::b::rest) pos) (.or pa pb):=by refine O3 (W4 ha hb) ?_;rintro σ H Q⟨F,ρ,k,ρ',g,e,q⟩;rw[Th]at e;obtain⟨x,ρ1,e1,e⟩:=aj e;refine⟨F,ρ,x,ρ1,g,e1,fun F1 H1 s1=>?_⟩;cases x with|true=>rw[if_pos rfl]at e ⊢;cases e;exact q F1 H1 s1|false=>rw[if_neg Bool.false_ne_true]at e ⊢;exact⟨F1,ρ1,k,ρ',s1.gs,e,fun F2 H2 s2=>q F2 H2 (s1.trans s2)⟩
theorem Jp(ha:SX X c a pa):SX X c (.UnaryOp .Not a pos) (.not pa):=by refine⟨dB (Sy ha.ev) ?_,fun i h=>by cases h⟩;rintro σ H Q⟨F,ρ,r,ρ',g,e,k⟩;rw[HH.E6]at e;obtain⟨x,ρ1,e1,e2⟩:=aj e;cases e2;exact nQ (c:=c) (fun _ z=>z) ⟨F,ρ,x,_,g,e1,fun F' H' s=>k _ F' H' s (show Rep X.K F' _ _ from fL _)⟩
theorem jT{op}(ha:SX X c a pa):PE X (.BoolOp op [a] pos) (vD X.K (HH.ev c pa)):=TJ ha.ev
theorem fZ(ha:SX X c a pa)(hb:PE X (.BoolOp .And (b::rest) pos) (vD X.K (HH.ev c pb))):SX X c (.BoolOp .And (a::b::rest) pos) (.and pa pb):=by refine⟨dB (Q4 ha.ev hb) ?_,fun i h=>by cases h⟩;rintro σ H Q⟨F,ρ,r,ρ',g,e,k⟩;rw[HH.E7]at e;obtain⟨x,ρ1,e1,e⟩:=aj e;refine nQ (c:=c) (fun _ z=>z) (Q:=fun x H1=>if x=true then vD X.K (HH.ev c pb) σ H1 Q else Q (.bl false) H1) ⟨F,ρ,x,ρ1,g,e1,fun F1 H1 s1=>?_⟩;cases x with|true=>rw[if_pos rfl]at e ⊢;obtain⟨y,ρ2,e2,e3⟩:=aj e;cases e3;obtain⟨r2,ρ3,e4,e5⟩:=aj e2;have zz:=aD e5;clear e5;obtain⟨e5,e6⟩:=zz;subst e6;refine⟨F1,ρ1,r2,_,s1.gs,e4,fun v F2 H2 s2 rr=>?_⟩;rw[rr.bool (rC e5)];exact k _ F2 H2 (s1.trans s2) (show Rep X.K F2 _ _ from fL _)|false=>rw[if_neg Bool.false_ne_true]at e ⊢;cases e;exact k _ F1 H1 s1 (show Rep X.K F1 _ _ from fL _)
theorem uO(hc:ST X c e p)(ha:SX X c a pa)(hb:SX X c b pb):SX X c (.IfExp e a b pos) (.Qc p pa pb):=by refine⟨dB (Ja hc ha.ev hb.ev) ?_,fun i h=>by cases h⟩;rintro σ H Q⟨F,ρ,r,ρ',g,e,k⟩;rw[HH.E11]at e;obtain⟨x,ρ1,e1,e⟩:=aj e;refine⟨F,ρ,x,ρ1,g,e1,fun F1 H1 s1=>?_⟩;cases x with|true=>rw[if_pos rfl]at e ⊢;obtain⟨r2,ρ2,e2,e3⟩:=aj e;cases e3;refine⟨F1,ρ1,r2,_,s1.gs,e2,fun v F2 H2 s2 rr=>?_⟩;obtain⟨F3,s3,_,rp⟩:=s2.cX rr;exact k v F3 H2 (s1.trans s3) rp|false=>rw[if_neg Bool.false_ne_true]at e ⊢;obtain⟨r2,ρ2,e2,e3⟩:=aj e;cases e3;refine⟨F1,ρ1,r2,_,s1.gs,e2,fun v F2 H2 s2 rr=>?_⟩;obtain⟨F3,s3,_,rp⟩:=s2.cX rr;exact k v F3 H2 (s1.trans s3) rp
theorem uY:∀{ps:List P}{ρ ρ':List Sl}{ds:List D},evs c ps ρ=.ok ds ρ'->ds.length=ps.length|[],_,_,_,h=>by rw[evs]at h;cases h;rfl|p::ps,_,_,_,h=>by rw[evs]at h;obtain⟨r,ρ1,_,h⟩:=aj h;obtain⟨xs,ρ2,h2,h⟩:=aj h;cases h;simp[uY h2]
theorem aX:SA X c [] []:=⟨p8 dH fun σ H Q⟨F,ρ,ds,ρ',g,e,k⟩=>by rw[evs]at e;cases e;exact k [] F H (.refl g) .nil,rfl⟩
theorem pB{ps:List P}(ha:SX X c a pa)(hr:SA X c es ps)(hs:starEach (a::es) X.env=(false,eval a X.env)::starEach es X.env:=by rfl):SA X c (a::es) (pa::ps):=by refine⟨p8 (bK ha.ev hr.1 hs) ?_,by simp[hr.2]⟩;rintro σ H Q⟨F,ρ,ds,ρ',g,e,k⟩;rw[evs]at e;obtain⟨r,ρ1,e1,e⟩:=aj e;obtain⟨xs,ρ2,e2,e⟩:=aj e;cases e;refine⟨F,ρ,r,ρ1,g,e1,fun v F' H' s rr=>?_⟩;obtain⟨F1,s1,_,rp⟩:=s.cX rr;refine⟨F1,ρ1,xs,_,s1.gs,e2,fun vs F2 H2 s2 rs=>?_⟩;exact k _ F2 H2 (s1.trans s2) (.cons (rp.mono s2.bO) rs)
theorem Ext.Km{H0 F0:Hp}{Q:VK}{xs:List V}(s:aB K F0 ρ σ H0 F ρ' σ H)(r:aG K F xs ds)(k:∀v F' H',aB K F0 ρ σ H0 F' ρ' σ H'->cM K F' ρ' σ H' ρ σ H0 v (.val (.tup ds))->Q v H')(p:Addr)(hp:H p=none):Q (.ref p) (upd H p (.tup xs)):=yW s.gs.sub r hp fun v F' H' x rn=>k v F' H' (s.trans (x.stp s.gs)) rn
theorem cJ{ps:List P}{x1}(h:SA X c es ps)(hz:ps.length<=sizeLine:=by decide):SX X c (.Tuple es x1 pos) (.tup ps):=by refine⟨dB (HX h.1) ?_,fun i h=>by cases h⟩;rintro σ H Q⟨F,ρ,r,ρ',g,e,k⟩;rw[HH.E12]at e;obtain⟨ds,ρ1,e1,e⟩:=aj e;cases e;exact⟨F,ρ,ds,_,g,e1,fun vs F' H' s rs=>⟨by rw[rs.length,uY e1];exact hz,fun p hp=>Ext.Km s rs k p hp⟩⟩
theorem eU{ps:List P}(h:SA X c es ps)(hz:ps.length<=sizeLine:=by decide):SX X c (.List es pos) (.lst ps):=by refine⟨dB (Rb h.1) ?_,fun i h=>by cases h⟩;rintro σ H Q⟨F,ρ,r,ρ',g,e,k⟩;rw[HH.E13]at e;obtain⟨ds,ρ1,e1,e⟩:=aj e;cases e;exact⟨F,ρ,ds,_,g,e1,fun vs F' H' s rs=>⟨by rw[rs.length,uY e1];exact hz,fun p hp=>yq s.gs.sub rs hp fun v F2 H2 x rn=>k v F2 H2 (s.trans (x.stp s.gs)) (.later s (rn.pq s.gs))⟩⟩
theorem Jc{i:Int}{d:D}(h:at' ds i=some d):∃j,L2.jC ds.length i=some j/\ds[j]?=some d:=bV h
theorem acI:IxR X (rD X.K Ly):=by
 rintro value slice pins s σ H x y v u Q I rx ry⟨F,d,e,r,sm,px,py,he,k⟩hs;unfold Ly at he;obtain⟨ds,e1,he⟩:=bV he;obtain⟨i,e2,he⟩:=bV he;obtain⟨z,e3,he⟩:=map_some he;subst he;cases cQ e2;rw[py.int]at ry;obtain⟨p,xs,rfl,hq,rs⟩:=px.items sm e1;obtain⟨j,h1,h2⟩:=Jc e3;obtain⟨w,h3,h4⟩:=rs.get h2;have hat:Jd xs i=some w:=by unfold Jd;rw[rs.length,h1];exact h3
 rcases hq with hq|hq;.exact CG value slice pins s σ H _ _ v u Q I rx ry ⟨p,xs,i,w,rfl,rfl,hq,hat,cg.cV sm h4 k⟩ hs
 .exact Uy value slice pins s σ H _ _ v u Q I rx ry ⟨p,xs,i,w,rfl,rfl,hq,hat,cg.cV sm h4 k⟩ hs
theorem ao(ha:SX X c a pa)(hb:SX X c b pb)(hs:uV b:=by intro _ _;rfl):SX X c (.Subscript a b pos) (.idx pa pb):=uN (f:=Ly) (fun h1 h2=>Pn acI h1 h2 hs) ha hb (fun ρ=>rfl) rfl
def Lh(K:PySem.W.Frag)(f:D->Option R):List V->Hp->VK->Prop:=fun xs H Q=>∃x,xs=[x]/\rD1 K f x H Q
theorem oF{E:Expr}{f:D->Option R}{q:P}(hp:∀{t},PA X [a] t->PE X E (tCB (Lh X.K f) t))(ha:SX X c a pa)(hq:∀ρ,HH.ev c q ρ=(HH.cC (isVar pa) (HH.ev c pa) ρ).bind fun x ρ=>lift (f x) ρ)(hv:isVar q=none)(hs:starEach [a] X.env=(false,eval a X.env)::starEach [] X.env:=by rfl):SX X c E q:=by obtain⟨ta,h1,h3⟩:=ha.cC;refine⟨dB (hp (bK h1 dH hs)) ?_,fun i h=>by rw[hv]at h;cases h⟩;rintro σ H Q⟨F,ρ,r,ρ',g,e,k⟩;rw[hq]at e;obtain⟨x,ρ1,e1,e2⟩:=aj e;have zz:=aD e2;clear e2;obtain⟨e2,e3⟩:=zz;subst e3;refine h3 g e1 fun v F' H' s pv=>⟨v,rfl,F',x,r,s.gs.sub,pv,e2,fun w F2 H2 x rn=>?_⟩;exact k w F2 H2 (s.trans (x.stp s.gs)) (.later s (rn.pq s.gs))
theorem YX:dz X (.builtin "len") (Lh X.K fun x=>blt .len [x]):=by rintro pins s σ H xs us Q I r⟨x,hx,F,d,r',sm,px,he,k⟩;obtain⟨ds,e1,he⟩:=map_some (show(items d).map _=some r' from he);subst he;obtain⟨p,ys,rfl,hq,rs⟩:=px.items sm e1;exact uL pins s σ H xs us Q I r ⟨p,ys,hx,hq,by rw[rs.length];exact cg.cV sm (bN _) k⟩
theorem SJ:dz X (.type "list") (Lh X.K fun x=>blt .list [x]):=by rintro pins s σ H xs us Q I r⟨x,hx,F,d,r',sm,px,he,k⟩;obtain⟨ds,e1,he⟩:=map_some (show(items d).map _=some r' from he);subst he;obtain⟨p,ys,rfl,hq,rs⟩:=px.items sm e1;exact uw pins s σ H xs us Q I r ⟨p,ys,hx,hq,fun l hl=>yq sm rs hl k⟩
theorem Ma:dz X (.type "tuple") (Lh X.K fun x=>blt .tuple [x]):=by rintro pins s σ H xs us Q I r⟨x,hx,F,d,r',sm,px,he,k⟩;obtain⟨ds,e1,he⟩:=map_some (show(items d).map _=some r' from he);subst he;cases d with|tup es=>cases e1;obtain⟨a,ys,rfl,hq,rs,rt⟩:=px.tup sm;exact kW pins s σ H xs us Q I r ⟨a,ys,hx,.inr ⟨hq,cg.cV sm rt k⟩⟩|lst es=>cases e1;obtain⟨a,ys,rfl,hq,rs⟩:=px.lst sm;exact kW pins s σ H xs us Q I r ⟨a,ys,hx,.inl ⟨hq,fun l hl=>yW sm rs hl k⟩⟩|_=>cases e1
theorem cI(hx:x="len")(hg:Gl X x)(hm:X.mg x=none)(ha:SX X c a pa)(hs:starEach [a] X.env=(false,eval a X.env)::starEach [] X.env:=by rfl):SX X c (.Call (.Name x p') [a] [] pos) (.blt .len [pa]):=by subst hx;exact oF (fun h=>dJ YX hg hm PySem.boot_len h (he:=hs)) ha (fun ρ=>rfl) rfl hs
theorem LR(hx:x="list")(hg:Gl X x)(hm:X.mg x=none)(ha:SX X c a pa)(hs:starEach [a] X.env=(false,eval a X.env)::starEach [] X.env:=by rfl):SX X c (.Call (.Name x p') [a] [] pos) (.blt .list [pa]):=by subst hx;exact oF (fun h=>mX SJ hg hm (by decide+kernel) h (he:=hs)) ha (fun ρ=>rfl) rfl hs
theorem ir(hx:x="tuple")(hg:Gl X x)(hm:X.mg x=none)(ha:SX X c a pa)(hs:starEach [a] X.env=(false,eval a X.env)::starEach [] X.env:=by rfl):SX X c (.Call (.Name x p') [a] [] pos) (.blt .tuple [pa]):=by subst hx;exact oF (fun h=>mX Ma hg hm (by decide+kernel) h (he:=hs)) ha (fun ρ=>rfl) rfl hs
end
def Mm(K:PySem.W.Frag)(np:Nat)(f:List Sl->Res R):Sp:=fun vs H Q _=>vs.length=np/\∃F args r args',GS K F args (vs.map some) H/\f args=.ok r args'/\∀v F' σ' H',aB K F args (vs.map some) H F' args' σ' H'->cM K F' args' σ' H' args (vs.map some) H v r->Q v H'
section
variable{K:PySem.W.Frag}
def zb(K:PySem.W.Frag)(F:Hp)(ρ:List Sl)(σ:L2.St)(H:Hp)(ρ₀:List Sl)(H₀:Hp)(v:V):Arg->Prop|.dat d=>Rep K F v d|.tmp ds=>∃x xs,v=.ref x/\H x=some (.lst xs)/\F x=none/\aG K F xs ds/\¬ Own ρ σ x/\(Own ρ₀ σ x\/H₀ x=none)|.fC i=>σ[i]?=some (some v)
structure wL(K:PySem.W.Frag)(F:Hp)(ρ:List Sl)(σ:L2.St)(H:Hp)(ρ₀:List Sl)(H₀:Hp)(as:List Arg)(vs:List V):Prop where
 len:as.length=vs.length
 one:∀(j:Nat)(a:Arg)(v:V),as[j]?=some a->vs[j]?=some v->zb K F ρ σ H ρ₀ H₀ v a
 dis:∀(j k:Nat)(ds es:List D)(x:Addr),as[j]?=some (.tmp ds)->as[k]?=some (.tmp es)->vs[j]?=some (.ref x)->vs[k]?=some (.ref x)->j=k
theorem zb.later{F' H':Hp}{a:Arg}(s:aB K F ρ σ H F' ρ' σ H')(h:zb K F ρ σ H ρ₀ H₀ v a):zb K F' ρ' σ H' ρ₀ H₀ v a:=by cases a with|dat d=>exact Rep.mono s.bO h|fC i=>exact h|tmp ds=>
   obtain⟨x,xs,h1,h2,h3,h4,h5,h6⟩:=h;refine⟨x,xs,h1,s.keep x _ h2 h5,?_,h4.mono s.bO,fun o=>?_,h6⟩;.cases q:F' x with|none=>rfl|some o=>
       rcases s.xV x h3 (by rw[q];simp)with z|z;.exact absurd z h5
       .exact(Jo h2 z).elim
   . rcases s.vN x o with z|z;.exact h5 z
     .rw[h2]at z;cases z
theorem wL.nil:wL K F ρ σ H ρ₀ H₀ [] []:=⟨rfl,fun j a v h=>by simp at h,fun j k ds es x h=>by simp at h⟩
theorem wL.cons{F H H₀:Hp}{ρ ρ₀:List Sl}{σ:L2.St}{a:Arg}{v:V}{as:List Arg}{vs:List V}(h:zb K F ρ σ H ρ₀ H₀ v a)(t:wL K F ρ σ H ρ₀ H₀ as vs)(hd:∀ds x,a=.tmp ds->v=.ref x->∀(k:Nat)es,as[k]?=some (.tmp es)->vs[k]?≠some (.ref x)):wL K F ρ σ H ρ₀ H₀ (a::as) (v::vs):=by
 refine⟨by simp[t.len],fun j b u h1 h2=>?_,fun j k ds es x h1 h2 h3 h4=>?_⟩;.cases j with|zero=>simp at h1 h2;subst h1;subst h2;exact h|succ j=>exact t.one j b u (by simpa using h1) (by simpa using h2)
 .cases j with
   |zero=>cases k with|zero=>rfl|succ k=>simp at h1 h3;exact absurd (by simpa using h4) (hd ds x h1 h3 k es (by simpa using h2))
   |succ j=>cases k with|zero=>simp at h2 h4;exact absurd (by simpa using h3) (hd es x h2 h4 j ds (by simpa using h1))|succ k=>rw[t.dis j k ds es x (by simpa using h1) (by simpa using h2) (by simpa using h3) (by simpa using h4)]
def HY(ρ:List Sl):Arg->Sl->Prop|.dat d,s=>s=.val false d|.tmp ds,s=>s=.own false ds|.fC i,s=>(∃b d,ρ[i]?=some (.val b d)/\s=.val false d)\/(∃b ds,ρ[i]?=some (.own b ds)/\s=.own true ds)\/∃ds,ρ[i]?=some (.lent ds)/\s=.lent ds
theorem qT{ρ:List Sl}:∀{as:List Arg}{used:List Nat}{args:List Sl},bT ρ as used=some args->args.length=as.length/\(∀(j:Nat)(a:Arg)(s:Sl),as[j]?=some a->args[j]?=some s->HY ρ a s)/\(∀(j:Nat)(i:Nat)(s:Sl)ds,as[j]?=some (.fC i)->args[j]?=some s->lst? s=some ds->i∉used)/\(∀(j k:Nat)(i:Nat)(s t:Sl)ds es,as[j]?=some (.fC i)->as[k]?=some (.fC i)->args[j]?=some s->args[k]?=some t->lst? s=some ds->lst? t=some es->j=k)
 |[],used,args,h=>by rw[bT]at h;cases h;exact⟨rfl,fun j a s h=>by simp at h,fun j i s ds h=>by simp at h,fun j k i s t ds es h=>by simp at h⟩|a::as,used,args,h=>by--the ae6 slot,the ae7
   have key:∃s0 r xW,args=s0::r/\bT ρ as xW=some r/\HY ρ a s0/\((∃i ds,a=.fC i/\lst? s0=some ds/\xW=i::used/\i∉used)\/((∀i ds,a=.fC i->lst? s0≠some ds)/\xW=used)):=by cases a with|dat d=>rw[bT]at h;obtain⟨r,e1,e2⟩:=map_some h;exact⟨_,r,used,e2.symm,e1,rfl,.inr ⟨fun i ds z=>(by cases z),rfl⟩⟩|tmp d=>rw[bT]at h;obtain⟨r,e1,e2⟩:=map_some h;exact⟨_,r,used,e2.symm,e1,rfl,.inr ⟨fun i ds z=>(by cases z),rfl⟩⟩|fC i=>
      rw[bT]at h;split at h;.rename_i b d q;obtain⟨r,e1,e2⟩:=map_some h;exact⟨_,r,used,e2.symm,e1,.inl ⟨b,d,q,rfl⟩,.inr ⟨fun _ _ _ z=>(by cases z),rfl⟩⟩
      . rename_i b ds q;split at h;.cases h
        .rename_i hu;obtain⟨r,e1,e2⟩:=map_some h;exact⟨_,r,_,e2.symm,e1,.inr (.inl ⟨b,ds,q,rfl⟩),.inl ⟨i,_,rfl,rfl,rfl,by simpa using hu⟩⟩
      . rename_i ds q;split at h;.cases h
        .rename_i hu;obtain⟨r,e1,e2⟩:=map_some h;exact⟨_,r,_,e2.symm,e1,.inr (.inr ⟨ds,q,rfl⟩),.inl ⟨i,_,rfl,rfl,rfl,by simpa using hu⟩⟩
      .cases h
   obtain⟨s0,r,xW,rfl,hr,hs0,hu⟩:=key;obtain⟨l1,l2,l3,l4⟩:=qT hr;have sub:∀i,i∉xW->i∉used:=fun i hi hm=>by
    rcases hu with⟨_,_,_,_,rfl,_⟩|⟨_,rfl⟩;.exact hi (mem_cons_of_mem _ hm)
    .exact hi hm
   refine⟨by simp[l1],fun j b s h1 h2=>?_,fun j i s ds h1 h2 h3=>?_,fun j k i s t ds es h1 h2 h3 h4 h5 h6=>?_⟩;.cases j with|zero=>simp at h1 h2;subst h1;subst h2;exact hs0|succ j=>exact l2 j b s (by simpa using h1) (by simpa using h2)
   .cases j with|zero=>
       simp at h1 h2;subst h1;subst h2;rcases hu with⟨i',_,e,_,_,hn⟩|⟨hn,_⟩;.cases e;exact hn
       .exact absurd h3 (hn i ds rfl)|succ j=>exact sub i (l3 j i s ds (by simpa using h1) (by simpa using h2) h3)
   . have z0:∀(k:Nat)(t:Sl)es,a=.fC i->lst? s0=some ds->(as[k]?=some (.fC i))->r[k]?=some t->lst? t=some es->False:=fun k t es ea e0 hk ht he=>by
      rcases hu with⟨i',_,e,_,rfl,hn⟩|⟨hn,_⟩;.rw[ea]at e;cases e;exact l3 k i t es hk ht he mem_cons_self
      .exact hn i ds ea e0
     have z1:∀(k:Nat)(t:Sl)es,a=.fC i->lst? s0=some es->(as[k]?=some (.fC i))->r[k]?=some t->lst? t=some ds->False:=fun k t es ea e0 hk ht he=>by
      rcases hu with⟨i',_,e,_,rfl,hn⟩|⟨hn,_⟩;.rw[ea]at e;cases e;exact l3 k i t ds hk ht he mem_cons_self
      .exact hn i es ea e0
     cases j with
     |zero=>cases k with|zero=>rfl|succ k=>simp at h1 h3;subst h3;exact(z0 k t es h1 h5 (by simpa using h2) (by simpa using h4) h6).elim
     |succ j=>cases k with|zero=>simp at h2 h4;subst h4;exact(z1 j s es h2 h6 (by simpa using h1) (by simpa using h3) h5).elim|succ k=>rw[l4 j k i s t ds es (by simpa using h1) (by simpa using h2) (by simpa using h3) (by simpa using h4) h5 h6]
theorem wL.get(A:wL K F ρ σ H ρ₀ H₀ as vs){args:List Sl}{j:Nat}{s:Sl}(hl:args.length=as.length)(h:args[j]?=some s):∃a v,as[j]?=some a/\vs[j]?=some v/\zb K F ρ σ H ρ₀ H₀ v a:=by
 have hj:j<args.length:=(dI h).1;have h1:j<as.length:=by omega
 have h2:j<vs.length:=by rw[<-A.len];exact h1
 exact⟨as[j],vs[j],by simp[h1],by simp[h2],A.one j _ _ (by simp[h1]) (by simp[h2])⟩
theorem args_gs{args:List Sl}(g:GS K F ρ σ H)(A:wL K F ρ σ H ρ₀ H₀ as vs)(h:bT ρ as []=some args):GS K F args (vs.map some) H:=by
 obtain⟨l1,l2,l3,l4⟩:=qT h;have up:∀{j:Nat}{v:V},vs[j]?=some v->(vs.map some)[j]?=some (some v):=fun e=>by rw[getElem?_map,e];rfl
 have dn:∀{j:Nat}{v:V},(vs.map some)[j]?=some (some v)->vs[j]?=some v:=fun{j v}e=>by rw[getElem?_map]at e;cases q:vs[j]?with|none=>rw[q]at e;cases e|some w=>rw[q]at e;cases e;rfl
 refine⟨g.sub,by rw[l1,A.len,length_map],fun j b d e=>?_,fun j s ds e e'=>?_,fun j k x⟨⟨s,ds,e1,e2⟩,e3⟩⟨⟨t,es,f1,f2⟩,f3⟩=>?_⟩;.obtain⟨a,v,h1,h2,h3⟩:=A.get l1 e;have h4:=l2 j a _ h1 e;refine⟨v,up h2,?_⟩;cases a with|dat d'=>cases h4;exact h3|tmp ds=>cases h4|fC i=>
     rcases h4 with⟨b',d',q1,q2⟩|⟨_,_,_,q2⟩|⟨_,_,q2⟩;.cases q2;obtain⟨w,q3,q4⟩:=g.val i b' d q1;have h3:σ[i]?=some (some v):=h3;rw[h3]at q3;cases q3;exact q4
     .cases q2
     .cases q2
 .obtain⟨a,v,h1,h2,h3⟩:=A.get l1 e;have h4:=l2 j a _ h1 e;cases a with|dat d'=>cases h4;cases e'|tmp es=>cases h4;cases e';obtain⟨x,xs,rfl,q2,q3,q4,_⟩:=h3;exact⟨x,_,up h2,q2,q3,xs,rfl,q4⟩|fC i=>
     have h3:σ[i]?=some (some v):=h3;rcases h4 with⟨b',d',q1,q2⟩|⟨b',es,q1,q2⟩|⟨es,q1,q2⟩;.cases q2;cases e'
     .cases q2;cases e';obtain⟨x,xs,q3,q4⟩:=g.own i _ _ q1 rfl;rw[h3]at q3;cases q3;exact⟨x,xs,up h2,q4⟩
     .cases q2;cases e';obtain⟨x,xs,q3,q4⟩:=g.own i _ _ q1 rfl;rw[h3]at q3;cases q3;exact⟨x,xs,up h2,q4⟩
 . obtain⟨a,v,h1,h2,h3⟩:=A.get l1 e1;obtain⟨a',v',h1',h2',h3'⟩:=A.get l1 f1;have e3:=dn e3;have f3:=dn f3;rw[h2]at e3;cases e3;rw[h2']at f3;cases f3;have s1:=l2 j a _ h1 e1;have s2:=l2 k a' _ h1' f1;have nm:∀{i:Nat}{s:Sl}{ds:Oc},lst? s=some ds->HY ρ (.fC i) s->∃s' ds',ρ[i]?=some s'/\lst? s'=some ds':=fun{i s ds}l z=>by
    rcases z with⟨_,_,_,z⟩|⟨b,es,q,_⟩|⟨es,q,_⟩;.subst z;cases l
    .exact⟨_,_,q,rfl⟩
    .exact⟨_,_,q,rfl⟩
   cases a with
   |dat d=>cases s1;cases e2|tmp U0=>cases a' with|dat d=>cases s2;cases f2|tmp NK=>exact A.dis j k U0 NK x h1 h1' h2 h2'|fC i=>obtain⟨y,_,q1,_,_,_,q2,_⟩:=h3;cases q1;obtain⟨s',ds',q3,q4⟩:=nm f2 s2;exact absurd ⟨i,⟨s',ds',q3,q4⟩,h3'⟩ q2
   |fC i=>obtain⟨s',ds',q3,q4⟩:=nm e2 s1;cases a' with|dat d=>cases s2;cases f2|tmp NK=>obtain⟨y,_,q1,_,_,_,q2,_⟩:=h3';cases q1;exact absurd ⟨i,⟨s',ds',q3,q4⟩,h3⟩ q2|fC i'=>obtain⟨s'',ae8,q5,q6⟩:=nm f2 s2;have:=g.dis i i' x ⟨⟨s',ds',q3,q4⟩,h3⟩ ⟨⟨s'',ae8,q5,q6⟩,h3'⟩;subst this;exact l4 j k i s t ds es h1 h1' e1 f1 e2 f2
theorem nj{as:List Arg}{ss:List Sl}:∀(ρ:List Sl)(n i:Nat),(cZ as ss n ρ)[i]?=(ρ[i]?).map fun s=>eO s (bf (n+i) as ss)
 |[],n,i=>by simp[cZ]|s::ρ,n,0=>by simp[cZ]|s::ρ,n,i+1=>by
   rw[cZ];simp only[getElem?_cons_succ];rw[nj ρ (n+1) i];have:n+1+i=n+(i+1):=by omega
   rw[this]
theorem mY{as:List Arg}{ss:List Sl}:∀(ρ:List Sl)(n:Nat),(cZ as ss n ρ).length=ρ.length|[],n=>rfl|s::ρ,n=>by rw[cZ];simp[mY ρ]
theorem iR{i:Nat}:∀{as:List Arg}{ss:List Sl}{t:Sl},bf i as ss=some t->∃j:Nat,as[j]?=some (.fC i)/\ss[j]?=some t
 |[],_,_,h=>by simp[bf]at h|a::as,[],_,h=>by cases a<;>simp[bf]at h|a::as,s::ss,t,h=>by
   have tl:bf i as ss=some t->∃j:Nat,(a::as)[j]?=some (.fC i)/\(s::ss)[j]?=some t:=fun h=>by obtain⟨j,h1,h2⟩:=iR h;exact⟨j+1,by simpa using h1,by simpa using h2⟩
   cases a with|dat d=>exact tl (by simpa[bf]using h)|tmp d=>exact tl (by simpa[bf]using h)|fC k=>
     rw[bf]at h;split at h;.rename_i hk;cases h;subst hk;exact⟨0,rfl,rfl⟩
     .exact tl h
theorem lz{i:Nat}:∀{as:List Arg}{ss:List Sl},as.length=ss.length->bf i as ss=none->∀j:Nat,as[j]?≠some (.fC i)
 |[],_,_,_=>fun j h=>by simp at h|a::as,[],hl,_=>by simp at hl|a::as,s::ss,hl,h=>fun j hj=>by
   have hl':as.length=ss.length:=by simpa using hl
   have tl:bf i as ss=none/\a≠.fC i:=by cases a with|dat d=>exact⟨by simpa[bf]using h,by simp⟩|tmp d=>exact⟨by simpa[bf]using h,by simp⟩|fC k=>
      rw[bf]at h;split at h;.cases h
      .rename_i hk;exact⟨h,fun e=>hk (by cases e;rfl)⟩
   cases j with|zero=>simp at hj;exact tl.2 hj|succ j=>exact lz hl' tl.1 j (by simpa using hj)
theorem Jy{F₀ F' H':Hp}{args args':List Sl}{σ':L2.St}(s0:aB K F₀ ρ₀ σ H₀ F ρ σ H)(A:wL K F ρ σ H ρ₀ H₀ as vs)(hb:bT ρ as []=some args)(s:aB K F args (vs.map some) H F' args' σ' H'):aB K F₀ ρ₀ σ H₀ F' (cZ as args' 0 ρ) σ H'/\∀v r,cM K F' args' σ' H' args (vs.map some) H v r->cM K F' (cZ as args' 0 ρ) σ H' ρ₀ σ H₀ v r:=by
 have g:=s0.gs;obtain⟨l1,l2,l3,l4⟩:=qT hb;have up:∀{j:Nat}{v:V},vs[j]?=some v->(vs.map some)[j]?=some (some v):=fun e=>by rw[getElem?_map,e];rfl
 have dn:∀{j:Nat}{v:V},(vs.map some)[j]?=some (some v)->vs[j]?=some v:=fun{j v}e=>by rw[getElem?_map]at e;cases q:vs[j]?with|none=>rw[q]at e;cases e|some w=>rw[q]at e;cases e;rfl
 have la:as.length=args'.length:=by rw[s.len,l1]--whose are the lists that the callee holds
 have own:∀b,Own args (vs.map some) b->(∃(j:Nat)(ds:List D),as[j]?=some (Arg.tmp ds)/\vs[j]?=some (V.ref b)/\¬ Own ρ σ b/\(Own ρ₀ σ b\/H₀ b=none))\/Own ρ σ b:=fun b⟨j,⟨sl,ds,e1,e2⟩,e3⟩=>by obtain⟨a,v,h1,h2,h3⟩:=A.get l1 e1;have s1:=l2 j a _ h1 e1;have e3:=dn e3;rw[h2]at e3;cases e3;cases a with|dat d=>cases s1;cases e2|tmp es=>obtain⟨x,_,q1,_,_,_,q2,q3⟩:=h3;cases q1;exact .inl ⟨j,es,h1,h2,q2,q3⟩|fC i=>
    right;rcases s1 with⟨_,_,_,z⟩|⟨b',es,q,_⟩|⟨es,q,_⟩;.subst z;cases e2
    .exact⟨i,⟨_,_,q,rfl⟩,h3⟩
    .exact⟨i,⟨_,_,q,rfl⟩,h3⟩
 have back:∀b,Own ρ σ b\/H b=none->Own ρ₀ σ b\/H₀ b=none:=fun b h=>by
  rcases h with h|h;.exact s0.vN b h
  . by_cases ho:Own ρ₀ σ b;.exact .inl ho
    .right;cases e:H₀ b with|none=>rfl|some o=>rw[s0.keep b o e ho]at h;cases h
 have own':∀b,Own args (vs.map some) b->Own ρ₀ σ b\/H₀ b=none:=fun b h=>by
  rcases own b h with⟨_,_,_,_,_,z⟩|z;.exact z
  .exact back b (.inl z)--a name's slot behind the call
 have slot:∀{i:Nat}{t:Sl},(cZ as args' 0 ρ)[i]?=some t->∃s1,ρ[i]?=some s1/\t=eO s1 (bf i as args'):=fun{i t}h=>by rw[nj]at h;obtain⟨s1,e1,e2⟩:=map_some h;exact⟨s1,e1,by rw[<-e2,Nat.zero_add]⟩
 have Zz:∀{i:Nat}{s1:Sl},ρ[i]?=some s1->(cZ as args' 0 ρ)[i]?=some (eO s1 (bf i as args')):=fun{i s1}h=>by rw[nj,h,Nat.zero_add];rfl--what the callee left of a list that was lent to it
 have lent:∀{i j:Nat}{s1 t:Sl}{ds:List D},ρ[i]?=some s1->lst? s1=some (.l ds)->as[j]?=some (.fC i)->args'[j]?=some t->∃v s2,σ[i]?=some (some v)/\σ'[j]?=some (some v)/\args[j]?=some s2/\mD s2 t/\((∃b,s1=.own b ds/\s2=.own true ds)\/(s1=.lent ds/\s2=.lent ds)):=fun{i j s1 t ds}h1 h2 h3 h4=>by
  have hj:j<args.length:=by rw[l1];exact(dI h3).1
  have e1:args[j]?=some args[j]:=by simp[hj]
  obtain⟨a,v,q1,q2,q3⟩:=A.get l1 e1;rw[h3]at q1;cases q1;have q4:=l2 j _ _ h3 e1;have kind:(∃b,s1=.own b ds/\args[j]=.own true ds)\/(s1=.lent ds/\args[j]=.lent ds):=by
   rcases q4 with⟨_,_,z,_⟩|⟨b,es,z,z'⟩|⟨es,z,z'⟩;.rw[h1]at z;cases z;cases h2
   .rw[h1]at z;cases z;cases h2;exact .inl ⟨b,rfl,z'⟩
   .rw[h1]at z;cases z;cases h2;exact .inr ⟨rfl,z'⟩
  have lk:sI args[j]=true:=by rcases kind with⟨_,_,z⟩|⟨_,z⟩<;>rw[z]<;>rfl
  obtain⟨z1,s',z2,z3⟩:=s.lk j _ e1 lk;rw[h4]at z2;cases z2;exact⟨v,_,q3,by rw[z1];exact up q2,e1,z3,kind⟩
 have NP:∀{i:Nat}{x:Addr},aZ (cZ as args' 0 ρ) σ i x->aZ ρ σ i x:=fun{i x}⟨⟨t,ds,e1,e2⟩,e3⟩=>by obtain⟨s1,q1,q2⟩:=slot e1;refine⟨?_,e3⟩;cases s1 with|aO=>subst q2;cases e2|val b d=>subst q2;cases e2|own b es=>exact⟨_,_,q1,rfl⟩|lent es=>exact⟨_,_,q1,rfl⟩|gH m=>exact⟨_,_,q1,rfl⟩|cF m=>exact⟨_,_,q1,rfl⟩|hold _=>subst q2;cases e2
 refine⟨?_,fun v r h=>?_⟩;rotate_left;.cases r with|val d=>exact h|own ds=>
     obtain⟨x,xs,h1,h2,h3,h4,h5,h6⟩:=h;refine⟨x,xs,h1,h2,h3,h4,fun⟨i,h⟩=>?_,?_⟩
     . have hO:=NP h;obtain⟨⟨s1,U0,q1,q2⟩,q3⟩:=hO;obtain⟨x',xs',w1,w2,_⟩:=g.own i s1 U0 q1 q2;rw[q3]at w1;cases w1;rcases h6 with h6|h6
       . rcases own x h6 with⟨_,_,_,_,z,_⟩|_;.exact z ⟨i,⟨s1,U0,q1,q2⟩,q3⟩
         .--a name was lent
           obtain⟨j,⟨sl,es,w3,w4⟩,w5⟩:=h6;obtain⟨a',v',y1,y2,y3⟩:=A.get l1 w3;have sa:=l2 j a' _ y1 w3;have w5:=dn w5;rw[y2]at w5;cases w5;cases a' with|dat d=>cases sa;cases w4|tmp es'=>obtain⟨_,_,u1,_,_,_,u2,_⟩:=y3;cases u1;exact u2 ⟨i,⟨s1,U0,q1,q2⟩,q3⟩|fC i'=>
             have ex:∃s' ds',ρ[i']?=some s'/\lst? s'=some ds':=by
              rcases sa with⟨_,_,_,z⟩|⟨b,es,q,_⟩|⟨es,q,_⟩;.subst z;cases w4
              .exact⟨_,_,q,rfl⟩
              .exact⟨_,_,q,rfl⟩
             have:=g.dis i i' x ⟨⟨s1,U0,q1,q2⟩,q3⟩ ⟨ex,y3⟩;subst this;have hk:∃NK,U0=.l NK:=by
              rcases sa with⟨_,_,_,z⟩|⟨b,es,q,_⟩|⟨es,q,_⟩;.subst z;cases w4
              .rw[q1]at q;cases q;cases q2;exact⟨_,rfl⟩
              .rw[q1]at q;cases q;cases q2;exact⟨_,rfl⟩
             obtain⟨NK,rfl⟩:=hk;have hj:j<args'.length:=by rw[<-la];exact(dI y1).1
             have e':args'[j]?=some args'[j]:=by simp[hj]
             obtain⟨v2,s2,u1,u2,u3,u4,u5⟩:=lent q1 q2 y1 e';rw[q3]at u1;cases u1--the slot behind the call is a list's
             obtain⟨⟨t,dt,t1,t2⟩,_⟩:=h;obtain⟨s3,t3,t4⟩:=slot t1;rw[q1]at t3;cases t3;have lo:∃t5,bf i as args'=some t5:=by cases hl:bf i as args' with|none=>exact absurd y1 (lz la hl j)|some t5=>exact⟨t5,rfl⟩
             obtain⟨t5,hl⟩:=lo;obtain⟨j2,t6,t7⟩:=iR hl;have hj2:j2<args.length:=by rw[l1];exact(dI t6).1
             obtain⟨_,s6,_,v2',v3',v4',v5'⟩:=lent q1 q2 t6 t7;have l4':j2=j:=by
              have a1:lst? s6=some (.l NK):=by rcases v5' with⟨_,_,z⟩|⟨_,z⟩<;>rw[z]<;>rfl
              have a2:lst? s2=some (.l NK):=by rcases u5 with⟨_,_,z⟩|⟨_,z⟩<;>rw[z]<;>rfl
              exact l4 j2 j i s6 s2 _ _ t6 y1 v3' u3 a1 a2
             subst l4';rw[e']at t7;cases t7;rw[hl]at t4;refine h5 ⟨j2,?_,u2⟩;rcases u5 with⟨b,z1,z2⟩|⟨z1,z2⟩
             . subst z1;subst z2;rcases u4 with⟨d2,z⟩|⟨d2,z⟩;.exact⟨_,.l d2,e',by rw[z];rfl⟩
               .rw[z]at t4;subst t4;cases t2
             .subst z1;subst z2;exact⟨_,.l NK,e',by rw[show args'[j2]=.lent NK from u4];rfl⟩
       .rw[w2]at h6;cases h6
     . rcases h6 with h6|h6;.exact own' x h6
       .exact back x (.inr h6)
 refine⟨⟨s.gs.sub,by rw[mY];exact g.len,fun i b d e=>?_,fun i t ds e e'=>?_,fun i j x h1 h2=>g.dis i j x (NP h1) (NP h2)⟩,s0.bO.trans s.bO,fun b n n'=>?_,fun b o h n=>?_,fun b⟨i,h⟩=>back b (.inl ⟨i,NP h⟩),by rw[mY];exact s0.len,fun i s1 h l=>?_⟩;.--data
   obtain⟨s1,q1,q2⟩:=slot e;cases s1 with|aO=>cases q2|lent es=>cases q2|gH _=>cases q2|cF _=>cases q2|hold _=>cases q2|val b' d'=>cases q2;obtain⟨v,z1,z2⟩:=g.val i b d q1;exact⟨v,z1,z2.mono s.bO⟩|own b' es=>cases hl:bf i as args' with|none=>rw[hl]at q2;cases q2|some t=>rw[hl]at q2;obtain⟨j,z1,z2⟩:=iR hl;obtain⟨v,s2,y1,y2,y3,y4,y5⟩:=lent q1 rfl z1 z2;cases t with|aO=>cases q2|own _ _=>cases q2|lent _=>cases q2|gH _=>cases q2|cF _=>cases q2|hold _=>cases q2|val b2 d2=>cases q2;obtain⟨w,x1,x2⟩:=s.gs.val j b2 d z2;rw[y2]at x1;cases x1;exact⟨v,y1,x2⟩
 .--lists
   obtain⟨s1,q1,q2⟩:=slot e--a list that was not lent
   have stay:∀es,lst? s1=some es->(∀j:Nat,as[j]?≠some (.fC i))->t=s1->∃(a:Addr)(xs:HO),σ[i]?=some (some (V.ref a))/\H' a=some xs/\F' a=none/\kI K F' xs ds:=fun es he hn ht=>by
    subst ht;rw[he]at e';cases e';obtain⟨a,xs,z1,z2,z3,z4⟩:=g.own i _ ds q1 he;have no:¬ Own args (vs.map some) a:=fun h=>by obtain⟨j,⟨sl,es,w1,w2⟩,w3⟩:=h;obtain⟨a',v,h1,h2,h3⟩:=A.get l1 w1;have sa:=l2 j a' _ h1 w1;have w3:=dn w3;rw[h2]at w3;cases w3;cases a' with|dat d=>cases sa;cases w2|tmp es=>obtain⟨x,_,y1,_,_,_,y2,_⟩:=h3;cases y1;exact y2 ⟨i,⟨_,ds,q1,he⟩,z1⟩|fC i'=>
       have:∃s' ds',ρ[i']?=some s'/\lst? s'=some ds':=by
        rcases sa with⟨_,_,_,z⟩|⟨b,es,q,_⟩|⟨es,q,_⟩;.subst z;cases w2
        .exact⟨_,_,q,rfl⟩
        .exact⟨_,_,q,rfl⟩
       have:=g.dis i i' a ⟨⟨_,ds,q1,he⟩,z1⟩ ⟨this,h3⟩;subst this;exact hn j h1
    refine⟨a,xs,z1,s.keep a _ z2 no,?_,z4.mono s.bO⟩;cases q:F' a with|none=>rfl|some o=>
      rcases s.xV a z3 (by rw[q];simp)with z|z;.exact absurd z no
      .rw[z2]at z;exact(Hj z4 z).elim
   cases hl:bf i as args' with
   |none=>have hn:=lz la hl;rw[hl]at q2;cases s1 with|aO=>subst q2;cases e'|val b' d'=>subst q2;cases e'|own b' es=>exact stay _ rfl hn q2|lent es=>exact stay _ rfl hn q2|gH m=>exact stay _ rfl hn q2|cF m=>exact stay _ rfl hn q2|hold _=>subst q2;cases e'
   |some t2=>rw[hl]at q2;obtain⟨j,z1,z2⟩:=iR hl;cases s1 with
     |aO=>subst q2;cases e'|val b' d'=>subst q2;cases e'|hold _=>subst q2;cases e'|gH m=>
       have hj:j<args.length:=by rw[l1];exact(dI z1).1
       rcases l2 j _ _ z1 (show args[j]?=some args[j]by simp[hj])with⟨_,_,z,_⟩|⟨_,_,z,_⟩|⟨_,z,_⟩<;>(rw[q1]at z;cases z)|cF m=>
       have hj:j<args.length:=by rw[l1];exact(dI z1).1
       rcases l2 j _ _ z1 (show args[j]?=some args[j]by simp[hj])with⟨_,_,z,_⟩|⟨_,_,z,_⟩|⟨_,z,_⟩<;>(rw[q1]at z;cases z)|own b' es=>
       obtain⟨v,s2,y1,y2,y3,y4,y5⟩:=lent q1 rfl z1 z2;have:t2≠.aO/\∀x,t2≠.lent x:=by
        rcases y5 with⟨_,_,y5⟩|⟨y5,_⟩;.subst y5;rcases y4 with⟨_,rfl⟩|⟨_,rfl⟩<;>simp
        .cases y5
       cases t2 with
       |aO=>exact absurd rfl this.1|hold x=>
         rcases y5 with⟨_,_,y5⟩|⟨y5,_⟩;.subst y5;rcases y4 with⟨_,h⟩|⟨_,h⟩<;>cases h
         .cases y5|gH x=>
         rcases y5 with⟨_,_,y5⟩|⟨y5,_⟩;.subst y5;rcases y4 with⟨_,h⟩|⟨_,h⟩<;>cases h
         .cases y5|cF x=>
         rcases y5 with⟨_,_,y5⟩|⟨y5,_⟩;.subst y5;rcases y4 with⟨_,h⟩|⟨_,h⟩<;>cases h
         .cases y5|lent x=>exact absurd rfl (this.2 x)|val b2 d2=>subst q2;cases e'|own b2 es2=>subst q2;cases e';obtain⟨a,xs,x1,x2⟩:=s.gs.own j _ _ z2 rfl;rw[y2]at x1;cases x1;exact⟨a,xs,y1,x2⟩
     |lent es=>
       obtain⟨v,s2,y1,y2,y3,y4,y5⟩:=lent q1 rfl z1 z2;have ht:t=.lent es:=by rw[q2];cases t2<;>rfl
       subst ht;cases e';rcases y5 with⟨_,y5,_⟩|⟨_,y5⟩;.cases y5
       .subst y5;cases(show t2=.lent es from y4);obtain⟨a,xs,x1,x2⟩:=s.gs.own j _ _ z2 rfl;rw[y2]at x1;cases x1;exact⟨a,xs,y1,x2⟩
 . by_cases q:F b=none
   . rcases s.xV b q n' with z|z;.exact(own' b z).imp id jU
     . by_cases ho:Own ρ₀ σ b;.exact .inl ho
       .right;cases q2:H₀ b with|none=>rfl|some o=>rw[s0.keep b o q2 ho]at z;exact z
   .exact s0.xV b n q
 . refine s.keep b o (s0.keep b o h n) fun z=>?_;rcases own' b z with z|z;.exact n z
   .rw[h]at z;cases z
 .obtain⟨e1,s2,h2,k2⟩:=s0.lk i s1 h l;refine⟨e1,_,Zz h2,?_⟩;have WK:=k2.sI l;refine mD.trans l k2 ?_;cases s2 with
   |aO=>cases WK|gH _=>cases WK|cF _=>cases WK|hold _=>exact mD.refl _|val b d=>exact mD.refl _|lent es=>cases bf i as args' with|none=>rfl|some t=>cases t<;>rfl
   |own b es=>cases b with|false=>cases WK|true=>cases bf i as args' with|none=>exact .inl ⟨_,rfl⟩|some t=>cases t with|aO=>exact .inl ⟨_,rfl⟩|lent _=>exact .inl ⟨_,rfl⟩|gH _=>exact .inl ⟨_,rfl⟩|cF _=>exact .inl ⟨_,rfl⟩|hold _=>exact .inl ⟨_,rfl⟩|own _ ds=>exact .inl ⟨_,rfl⟩|val _ d=>exact .inr ⟨_,rfl⟩
theorem wL.rebase{F1 H1 F2 H2:Hp}{ρ1 ρ2:List Sl}(a:aB K F ρ σ H F1 ρ1 σ H1)(A:wL K F2 ρ2 σ H2 ρ1 H1 as vs):wL K F2 ρ2 σ H2 ρ H as vs:=by refine⟨A.len,fun j b v h1 h2=>?_,A.dis⟩;have h:=A.one j b v h1 h2;cases b with|dat d=>exact h|fC i=>exact h|tmp ds=>
   obtain⟨x,xs,q1,q2,q3,q4,q5,q6⟩:=h;refine⟨x,xs,q1,q2,q3,q4,q5,?_⟩;rcases q6 with q6|q6;.exact a.vN x q6
   . by_cases ho:Own ρ σ x;.exact .inl ho
     .right;cases e:H x with|none=>rfl|some o=>rw[a.keep x o e ho]at q6;cases q6
theorem wL.Xf{F1 H1 F2 H2:Hp}{ρ1 ρ2:List Sl}{r:R}(s1:aB K F ρ σ H F1 ρ1 σ H1)(rr:cM K F1 ρ1 σ H1 ρ σ H v r)(s2:aB K F1 ρ1 σ H1 F2 ρ2 σ H2)(A:wL K F2 ρ2 σ H2 ρ1 H1 as vs):wL K F2 ρ2 σ H2 ρ H (vP r::as) (v::vs):=by
 have h1:zb K F1 ρ1 σ H1 ρ H v (vP r):=by cases r with|val d=>exact rr|own ds=>exact rr
 refine .cons (h1.later s2) (A.rebase s1) fun ds x ea ev k es ek evk=>?_;cases r with|val d=>cases ea|own ds'=>
   obtain⟨y,xs,q1,q2,q3,q4,q5,q6⟩:=rr;rw[ev]at q1;cases q1;have h:=A.one k _ _ ek evk;obtain⟨z,zs,w1,_,_,_,_,w6⟩:=h;cases w1;rcases w6 with w6|w6;.exact q5 w6
   .rw[q2]at w6;cases w6
end
section
variable{K:PySem.W.Frag}{F F1 H H1:Hp}{ρ ρ1 ρ2:List Sl}{σ σ1:L2.St}
theorem uC{s:Sl}(h:put ρ i s=some ρ1):∃s0,ρ[i]?=some s0/\sI s0=false/\ρ1=ρ.set i s:=by
 unfold put at h;split at h;.rename_i q;cases h;exact⟨_,q,rfl,rfl⟩
 .rename_i q;cases h;exact⟨_,q,rfl,rfl⟩
 .rename_i q;cases h;exact⟨_,q,rfl,rfl⟩
 .cases h
theorem aB.put{r:R}(s:aB K F ρ σ H F1 ρ1 σ1 H1)(rr:cM K F1 ρ1 σ1 H1 ρ σ H v r)(h:HH.put ρ1 i (ym r)=some ρ2):aB K F ρ σ H F1 ρ2 (σ1.set i (some v)) H1:=by
 obtain⟨s0,h0,hl,rfl⟩:=uC h;have hi:i<ρ1.length:=(dI h0).1;have hi':i<σ1.length:=by rw[<-s.gs.len];exact hi
 have old:∀{j:Nat}{a:Addr},j≠i->aZ (ρ1.set i (ym r)) (σ1.set i (some v)) j a->aZ ρ1 σ1 j a:=fun{j a}hj⟨⟨t,ds,e1,e2⟩,e3⟩=>by rw[eV hj]at e1 e3;exact⟨⟨t,ds,e1,e2⟩,e3⟩
 have new:∀{a:Addr},aZ (ρ1.set i (ym r)) (σ1.set i (some v)) i a->¬ Own ρ1 σ1 a/\(Own ρ σ a\/H a=none):=fun{a}⟨⟨t,ds,e1,e2⟩,e3⟩=>by rw[getElem?_set_self hi]at e1;rw[getElem?_set_self hi']at e3;cases e1;cases e3;cases r with|val d=>cases e2|own es=>obtain⟨x,xs,q1,q2,q3,q4,q5,q6⟩:=rr;cases q1;exact⟨q5,q6⟩
 refine⟨⟨s.gs.sub,by simp[s.gs.len],fun j b d e=>?_,fun j t ds e e'=>?_,fun j k a h1 h2=>?_⟩,s.bO,s.xV,s.keep,fun a⟨j,hj⟩=>?_,by simp[s.len],fun j t e l=>?_⟩
 . by_cases hj:j=i;.subst hj;rw[getElem?_set_self hi]at e;cases r with|own es=>cases e|val d'=>cases e;exact⟨v,getElem?_set_self hi',rr⟩
   .rw[eV hj]at e ⊢;exact s.gs.val j b d e
 . by_cases hj:j=i;.subst hj;rw[getElem?_set_self hi]at e;cases r with|val d'=>cases e;cases e'|own es=>cases e;cases e';obtain⟨x,xs,rfl,q2,q3,q4,_⟩:=rr;exact⟨x,_,getElem?_set_self hi',q2,q3,xs,rfl,q4⟩
   .rw[eV hj]at e ⊢;exact s.gs.own j t ds e e'
 . by_cases hj:j=i
   . by_cases hk:k=i;.rw[hj,hk]
     .subst hj;exact absurd ⟨k,old hk h2⟩ (new h1).1
   . by_cases hk:k=i;.subst hk;exact absurd ⟨j,old hj h1⟩ (new h2).1
     .exact s.gs.dis j k a (old hj h1) (old hk h2)
 . by_cases hji:j=i;.subst hji;exact(new hj).2
   .exact s.vN a ⟨j,old hji hj⟩
 . obtain⟨e1,t1,e2,e3⟩:=s.lk j t e l;have hj:j≠i:=by rintro rfl;rw[h0]at e2;cases e2;rw[e3.sI l]at hl;cases hl
   exact⟨by rw[eV hj];exact e1,t1,by rw[eV hj];exact e2,e3⟩
theorem GS.mut{x:Nat}{b:Bool}{es:List D}{a:Addr}{ys:List V}(g:GS K F ρ σ H)(e:ρ[x]?=some (.own b ds))(hx:σ[x]?=some (some (.ref a)))(r:aG K F ys es):aB K F ρ σ H F (ρ.set x (.own b es)) σ (upd H a (.lst ys)):=by
 have hi:x<ρ.length:=(dI e).1;have oa:aZ ρ σ x a:=⟨⟨_,_,e,rfl⟩,hx⟩;obtain⟨a',xs,h1,h2,h3,h4⟩:=g.mz x _ ds e rfl;rw[hx]at h1;cases h1;have old:∀{j:Nat}{c:Addr},aZ (ρ.set x (.own b es)) σ j c->aZ ρ σ j c:=fun{j c}⟨⟨t,dt,q1,q2⟩,q3⟩=>by
  by_cases hj:j=x;.subst hj;exact⟨⟨_,_,e,rfl⟩,q3⟩
  .rw[eV hj]at q1;exact⟨⟨t,dt,q1,q2⟩,q3⟩
 refine⟨⟨fun c o q=>?_,by simp[g.len],fun j b' d q=>?_,fun j t dt q q'=>?_,fun j k c q1 q2=>g.dis j k c (old q1) (old q2)⟩,.refl _,fun c n n'=>absurd n n',fun c o q n=>?_,fun c⟨j,q⟩=>.inl ⟨j,old q⟩,by simp,fun j t q l=>⟨rfl,?_⟩⟩
 . have:c≠a:=by rintro rfl;rw[h3]at q;cases q
   rw[aC this];exact g.sub c o q
 . by_cases hj:j=x;.subst hj;rw[getElem?_set_self hi]at q;cases q
   .rw[eV hj]at q;exact g.val j b' d q
 . by_cases hj:j=x;.subst hj;rw[getElem?_set_self hi]at q;cases q;cases q';exact⟨a,_,hx,aM,h3,ys,rfl,r⟩
   . rw[eV hj]at q;obtain⟨c,zs,w1,w2,w3,w4⟩:=g.own j t dt q q';have:c≠a:=by rintro rfl;exact hj (g.dis j x c ⟨⟨t,dt,q,q'⟩,w1⟩ oa)
     exact⟨c,zs,w1,by rw[aC this];exact w2,w3,w4⟩
 . have:c≠a:=by rintro rfl;exact n ⟨x,oa⟩
   rw[aC this];exact q
 . by_cases hj:j=x;.subst hj;rw[e]at q;cases q;refine⟨_,getElem?_set_self hi,?_⟩;cases b with|true=>exact .inl ⟨_,rfl⟩|false=>cases l
   .exact⟨t,by rw[eV hj];exact q,.refl t⟩
theorem GS.lend{b:Bool}(g:GS K F ρ σ H)(e:ρ[i]?=some (.own b ds)):GS K F (ρ.set i (.lent ds)) σ H:=by
 have hi:i<ρ.length:=(dI e).1;have old:∀{j:Nat}{c:Addr},aZ (ρ.set i (.lent ds)) σ j c->aZ ρ σ j c:=fun{j c}⟨⟨t,dt,q1,q2⟩,q3⟩=>by
  by_cases hj:j=i;.subst hj;exact⟨⟨_,_,e,rfl⟩,q3⟩
  .rw[eV hj]at q1;exact⟨⟨t,dt,q1,q2⟩,q3⟩
 refine⟨g.sub,by simp[g.len],fun j b' d q=>?_,fun j t dt q q'=>?_,fun j k c q1 q2=>g.dis j k c (old q1) (old q2)⟩
 . by_cases hj:j=i;.subst hj;rw[getElem?_set_self hi]at q;cases q
   .rw[eV hj]at q;exact g.val j b' d q
 . by_cases hj:j=i;.subst hj;rw[getElem?_set_self hi]at q;cases q;cases q';exact g.own j _ _ e rfl
   .rw[eV hj]at q;exact g.own j t dt q q'
theorem aB.aW{b:Bool}(g:GS K F ρ σ H)(e:ρ[i]?=some (.own b ds))(s:aB K F (ρ.set i (.lent ds)) σ H F1 ρ1 σ1 H1):aB K F ρ σ H F1 (ρ1.set i (.own b ds)) σ1 H1/\∀v r,cM K F1 ρ1 σ1 H1 (ρ.set i (.lent ds)) σ H v r->cM K F1 (ρ1.set i (.own b ds)) σ1 H1 ρ σ H v r:=by
 have hi:i<ρ.length:=(dI e).1;have h1:(ρ.set i (.lent ds))[i]?=some (.lent ds):=getElem?_set_self hi;obtain⟨z1,s',z2,z3⟩:=s.lk i _ h1 rfl;cases(show s'=.lent ds from z3);have hi1:i<ρ1.length:=(dI z2).1;have o1:∀{j:Nat}{c:Addr},aZ (ρ.set i (.lent ds)) σ j c->aZ ρ σ j c:=fun{j c}⟨⟨t,dt,q1,q2⟩,q3⟩=>by
  by_cases hj:j=i;.subst hj;exact⟨⟨_,_,e,rfl⟩,q3⟩
  .rw[eV hj]at q1;exact⟨⟨t,dt,q1,q2⟩,q3⟩
 have o1':∀{c:Addr},Own ρ σ c->Own (ρ.set i (.lent ds)) σ c:=fun{c}⟨j,⟨t,dt,q1,q2⟩,q3⟩=>by
  by_cases hj:j=i;.subst hj;exact⟨j,⟨_,_,h1,rfl⟩,q3⟩
  .exact⟨j,⟨t,dt,by rw[eV hj];exact q1,q2⟩,q3⟩
 have o2:∀{j:Nat}{c:Addr},aZ (ρ1.set i (.own b ds)) σ1 j c->aZ ρ1 σ1 j c:=fun{j c}⟨⟨t,dt,q1,q2⟩,q3⟩=>by
  by_cases hj:j=i;.subst hj;exact⟨⟨_,_,z2,rfl⟩,q3⟩
  .rw[eV hj]at q1;exact⟨⟨t,dt,q1,q2⟩,q3⟩
 have w:∀{c:Addr}{h:Hp},Own (ρ.set i (.lent ds)) σ c\/h c=none->Own ρ σ c\/h c=none:=fun{c h}q=>q.imp (fun⟨j,q⟩=>⟨j,o1 q⟩) id;have w':∀{c:Addr}{h:Hp},Own (ρ.set i (.lent ds)) σ c\/nt (h c)=none->Own ρ σ c\/nt (h c)=none:=fun{c h}q=>q.imp (fun⟨j,q⟩=>⟨j,o1 q⟩) id;refine⟨⟨⟨s.gs.sub,by simp[s.gs.len],fun j b' d q=>?_,fun j t dt q q'=>?_,fun j k c q1 q2=>s.gs.dis j k c (o2 q1) (o2 q2)⟩,s.bO,fun c n n'=>w' (s.xV c n n'),fun c o q n=>s.keep c o q fun⟨j,x⟩=>n ⟨j,o1 x⟩,fun c⟨j,q⟩=>w (s.vN c ⟨j,o2 q⟩),by simpa using s.len,fun j t q l=>?_⟩,fun v r h=>?_⟩
 . by_cases hj:j=i;.subst hj;rw[getElem?_set_self hi1]at q;cases q
   .rw[eV hj]at q;exact s.gs.val j b' d q
 . by_cases hj:j=i;.subst hj;rw[getElem?_set_self hi1]at q;cases q;cases q';exact s.gs.own j _ _ z2 rfl
   .rw[eV hj]at q;exact s.gs.own j t dt q q'
 . by_cases hj:j=i;.subst hj;rw[e]at q;cases q;refine⟨z1,_,getElem?_set_self hi1,?_⟩;cases b with|true=>exact .inl ⟨_,rfl⟩|false=>cases l
   .obtain⟨y1,t',y2,y3⟩:=s.lk j t (by rw[eV hj];exact q) l;exact⟨y1,t',by rw[eV hj];exact y2,y3⟩
 .cases r with|val d=>exact h|own es=>obtain⟨x,xs,q1,q2,q3,q4,q5,q6⟩:=h;exact⟨x,xs,q1,q2,q3,q4,fun⟨j,q⟩=>q5 ⟨j,o2 q⟩,w q6⟩
theorem GS.give(g:GS K F ρ σ H)(e:ρ[i]?=some (.own false ds)):∃v,σ[i]?=some (some v)/\aB K F ρ σ H F (ρ.set i .aO) σ H/\cM K F (ρ.set i .aO) σ H ρ σ H v (.own ds):=by
 have hi:i<ρ.length:=(dI e).1;obtain⟨a,xs,h1,h2,h3,h4⟩:=g.mz i _ ds e rfl;have old:∀{j:Nat}{c:Addr},aZ (ρ.set i .aO) σ j c->aZ ρ σ j c/\j≠i:=fun{j c}⟨⟨t,dt,q1,q2⟩,q3⟩=>by
  by_cases hj:j=i;.subst hj;rw[getElem?_set_self hi]at q1;cases q1;cases q2
  .rw[eV hj]at q1;exact⟨⟨⟨t,dt,q1,q2⟩,q3⟩,hj⟩
 have oa:aZ ρ σ i a:=⟨⟨_,_,e,rfl⟩,h1⟩;refine⟨.ref a,h1,⟨⟨g.sub,by simp[g.len],fun j b' d q=>?_,fun j t dt q q'=>?_,fun j k c q1 q2=>g.dis j k c (old q1).1 (old q2).1⟩,.refl _,fun c n n'=>absurd n n',fun _ _ q _=>q,fun c⟨j,q⟩=>.inl ⟨j,(old q).1⟩,by simp,fun j t q l=>⟨rfl,?_⟩⟩,a,xs,rfl,h2,h3,h4,fun⟨j,q⟩=>?_,.inl ⟨i,oa⟩⟩
 . by_cases hj:j=i;.subst hj;rw[getElem?_set_self hi]at q;cases q
   .rw[eV hj]at q;exact g.val j b' d q
 . by_cases hj:j=i;.subst hj;rw[getElem?_set_self hi]at q;cases q;cases q'
   .rw[eV hj]at q;exact g.own j t dt q q'
 . by_cases hj:j=i;.subst hj;rw[e]at q;cases q;cases l
   .exact⟨t,by rw[eV hj];exact q,.refl t⟩
 .exact(old q).2 (g.dis j i a (old q).1 oa)
theorem GS.more{τ:List (Option V)}(g:GS K F ρ σ H)(hn:τ.length=n):GS K F (ρ++replicate n .aO) (σ++τ) H:=by
 have get:∀{j:Nat}{t:Sl},(ρ++replicate n Sl.aO)[j]?=some t->t≠.aO->ρ[j]?=some t/\j<ρ.length:=fun{j t}q ne=>by
  by_cases hj:j<ρ.length;.rw[getElem?_append_left hj]at q;exact⟨q,hj⟩
  . rw[getElem?_append_right (by omega),List.getElem?_replicate]at q;split at q;.cases q;exact absurd rfl ne
    .cases q
 have up:∀{j:Nat}{v:Option V},j<ρ.length->(σ[j]?=some v↔(σ++τ)[j]?=some v):=fun{j v}hj=>by rw[getElem?_append_left (by rw[<-g.len];exact hj)]
 have old:∀{j:Nat}{c:Addr},aZ (ρ++replicate n .aO) (σ++τ) j c->aZ ρ σ j c:=fun{j c}⟨⟨t,dt,q1,q2⟩,q3⟩=>by obtain⟨h1,h2⟩:=get q1 (by rintro rfl;cases q2);exact⟨⟨t,dt,h1,q2⟩,(up h2).mpr q3⟩
 refine⟨g.sub,by simp[g.len,hn],fun j b d q=>?_,fun j t dt q q'=>?_,fun j k c q1 q2=>g.dis j k c (old q1) (old q2)⟩;.obtain⟨h1,h2⟩:=get q (by simp);obtain⟨v,e1,e2⟩:=g.val j b d h1;exact⟨v,(up h2).mp e1,e2⟩
 .obtain⟨h1,h2⟩:=get q (by rintro rfl;cases q');obtain⟨a,xs,e1,e2⟩:=g.own j t dt h1 q';exact⟨a,xs,(up h2).mp e1,e2⟩
theorem aB.less{τ:List (Option V)}{m:Nat}(hm:m=ρ.length)(g:GS K F ρ σ H)(hn:τ.length=n)(s:aB K F (ρ++replicate n .aO) (σ++τ) H F1 ρ1 σ1 H1):aB K F ρ σ H F1 (ρ1.take m) (σ1.take m) H1/\∀v r,cM K F1 ρ1 σ1 H1 (ρ++replicate n .aO) (σ++τ) H v r->cM K F1 (ρ1.take m) (σ1.take m) H1 ρ σ H v r:=by
 subst hm;have l1:ρ.length<=ρ1.length:=by rw[s.len];simp
 have l2:ρ.length<=σ1.length:=by rw[<-s.gs.len];exact l1
 have tk:∀{α:Type}{l:List α}{j:Nat}{x:α},(l.take ρ.length)[j]?=some x->l[j]?=some x/\j<ρ.length:=fun{α l j x}q=>by
  rw[List.getElem?_take]at q;split at q;.exact⟨q,by assumption⟩
  .cases q
 have kt:∀{α:Type}{l:List α}{j:Nat}{x:α},j<ρ.length->l[j]?=some x->(l.take ρ.length)[j]?=some x:=fun{α l j x}hj q=>by rw[List.getElem?_take,if_pos hj];exact q
 have oN:∀{c:Addr},Own (ρ++replicate n .aO) (σ++τ) c->Own ρ σ c:=fun{c}⟨j,⟨t,dt,q1,q2⟩,q3⟩=>by
  by_cases hj:j<ρ.length;.rw[getElem?_append_left hj]at q1;rw[getElem?_append_left (by rw[<-g.len];exact hj)]at q3;exact⟨j,⟨t,dt,q1,q2⟩,q3⟩
  . rw[getElem?_append_right (by omega),List.getElem?_replicate]at q1;split at q1;.cases q1;cases q2
    .cases q1
 have oN':∀{c:Addr},Own ρ σ c->Own (ρ++replicate n .aO) (σ++τ) c:=fun{c}⟨j,⟨t,dt,q1,q2⟩,q3⟩=>by have hj:j<ρ.length:=(dI q1).1;exact⟨j,⟨t,dt,by rw[getElem?_append_left hj];exact q1,q2⟩,by rw[getElem?_append_left (by rw[<-g.len];exact hj)];exact q3⟩
 have o1:∀{j:Nat}{c:Addr},aZ (ρ1.take ρ.length) (σ1.take ρ.length) j c->aZ ρ1 σ1 j c:=fun{j c}⟨⟨t,dt,q1,q2⟩,q3⟩=>⟨⟨t,dt,(tk q1).1,q2⟩,(tk q3).1⟩;have w:∀{c:Addr}{h:Hp},Own (ρ++replicate n .aO) (σ++τ) c\/h c=none->Own ρ σ c\/h c=none:=fun{c h}q=>q.imp oN id;have w':∀{c:Addr}{h:Hp},Own (ρ++replicate n .aO) (σ++τ) c\/nt (h c)=none->Own ρ σ c\/nt (h c)=none:=fun{c h}q=>q.imp oN id;refine⟨⟨⟨s.gs.sub,by simp only[length_take];omega,fun j b d q=>?_,fun j t dt q q'=>?_,fun j k c q1 q2=>s.gs.dis j k c (o1 q1) (o1 q2)⟩,s.bO,fun c a b=>w' (s.xV c a b),fun c o q n=>s.keep c o q fun x=>n (oN x),fun c⟨j,q⟩=>w (s.vN c ⟨j,o1 q⟩),by simp only[length_take];omega,fun j t q l=>?_⟩,fun v r h=>?_⟩;.obtain⟨h1,h2⟩:=tk q;obtain⟨v,e1,e2⟩:=s.gs.val j b d h1;exact⟨v,kt h2 e1,e2⟩
 .obtain⟨h1,h2⟩:=tk q;obtain⟨a,xs,e1,e2⟩:=s.gs.own j t dt h1 q';exact⟨a,xs,kt h2 e1,e2⟩
 .have hj:j<ρ.length:=(dI q).1;obtain⟨y1,t',y2,y3⟩:=s.lk j t (by rw[getElem?_append_left hj];exact q) l;rw[getElem?_append_left (by rw[<-g.len];exact hj)]at y1;refine⟨?_,t',kt hj y2,y3⟩;rw[List.getElem?_take,if_pos hj];exact y1
 .cases r with|val d=>exact h|own es=>obtain⟨x,xs,q1,q2,q3,q4,q5,q6⟩:=h;exact⟨x,xs,q1,q2,q3,q4,fun⟨j,q⟩=>q5 ⟨j,o1 q⟩,w q6⟩
end
section
variable{X:Cx}{c:Call}{n:Nat}{e a b d:Expr}{p pa pb pd:P}{pos:Pos}{es:List Expr}{ps:List P}
inductive acQ(K:PySem.W.Frag)(f:List Sl->Res (List Arg))(σ:L2.St)(H:Hp)(Q:List V->Hp->Prop):Prop where|mk(F:Hp)(ρ:List Sl)(as:List Arg)(ρ':List Sl)(g:GS K F ρ σ H)(e:f ρ=.ok as ρ')(k:∀vs F' H',aB K F ρ σ H F' ρ' σ H'->wL K F' ρ' σ H' ρ H as vs->Q vs H')
def SG(X:Cx)(c:Call)(es:List Expr)(ps:List P):Prop:=PA X es (acQ X.K (yf c ps))
theorem aA:SG X c [] []:=p8 dH fun σ H Q⟨F,ρ,as,ρ',g,e,k⟩=>by rw[yf]at e;cases e;exact k [] F H (.refl g) .nil
theorem Mt(ha:SX X c a pa)(hr:SG X c es ps)(hs:starEach (a::es) X.env=(false,eval a X.env)::starEach es X.env:=by rfl):SG X c (a::es) (pa::ps):=by cases hv:isVar pa with|none=>refine p8 (bK ha.ev hr hs) ?_;rintro σ H Q⟨F,ρ,as,ρ',g,e,k⟩;rw[yf,hv]at e;obtain⟨r,ρ1,e1,e⟩:=aj e;obtain⟨xs,ρ2,e2,e⟩:=aj e;cases e;refine⟨F,ρ,r,ρ1,g,e1,fun v F1 H1 s1 rr=>⟨F1,ρ1,xs,_,s1.gs,e2,fun vs F2 H2 s2 A=>k _ F2 H2 (s1.trans s2) (wL.Xf s1 rr s2 A)⟩⟩|some i=>refine p8 (bK (ha.var i hv) hr hs) ?_;rintro σ H Q⟨F,ρ,as,ρ',g,e,k⟩;rw[yf,hv]at e;obtain⟨x0,ρ0,e0,e⟩:=aj e;obtain⟨e00,Ez⟩:=aD e0;subst Ez;obtain⟨xs,ρ2,e2,e⟩:=aj e;cases e;obtain⟨v,h1,_⟩:=g.pk e00;exact⟨v,h1,F,ρ,xs,_,g,e2,fun vs F2 H2 s2 A=>k _ F2 H2 s2 (.cons h1 A fun ds x z=>by cases z)⟩
theorem Np{k f:Nat}{fa:Addr}{fd:FuncData}{qs:List Str}(Fn:m5 X.prog X.w X.K X.mg X.base Ft k fa fd qs (Mm X.K qs.length (c f)))(hr:jF k X.A)(hg:Gl X x)(hm:X.mg x=some (.ref fa))(hk:keepIn X.K (.ref fa)=true)(hb:Binds X.K fd qs [])(ha:SG X c (e::es) ps)(hl:(e::es).length=qs.length)(hdb:(x==("__debug__":Str))=false:=by decide)(he:starEach (e::es) X.env=(false,eval e X.env)::starEach es X.env:=by rfl)(hpl:(backTo pos (starEach es X.env)).any (·.1)=false:=by rfl)(hl2:ps.length=(e::es).length:=by rfl):SX X c (.Call (.Name x p') (e::es) [] pos) (.call f ps):=by
 refine⟨dB (K7 (E:=E0) Fn hr hg hm hk hb .nil Xv ha hdb he hpl) ?_,fun i h=>by cases h⟩;rintro σ H Q⟨F,ρ,r,ρ',g,e,k⟩;rw[HH.E16]at e;obtain⟨as,ρ1,e1,e⟩:=aj e;unfold qi at e;split at e;.cases e
 . rename_i args hb';split at e
   . rename_i r' args' hc;cases e;refine⟨F,ρ,as,ρ1,g,e1,fun vs F1 H1 s1 A=>?_⟩;have hlen:vs.length=qs.length:=by
      have:∀{ps:List P}{ρ ρ':List Sl}{as:List Arg},yf c ps ρ=.ok as ρ'->as.length=ps.length:=by intro ps;induction ps with|nil=>intro ρ ρ' as h;rw[yf]at h;cases h;rfl|cons q qs ih=>
         intro ρ ρ' as h;rw[yf]at h;split at h;.obtain⟨_,_,_,h⟩:=aj h;obtain⟨xs,ρ2,h2,h⟩:=aj h;cases h;simp[ih h2]
         .obtain⟨_,_,_,h⟩:=aj h;obtain⟨xs,ρ2,h2,h⟩:=aj h;cases h;simp[ih h2]
      rw[<-A.len,this e1,hl2,hl]
     show Mm X.K qs.length (c f) (vs++[]) H1 Q E0;rw[append_nil];refine⟨hlen,F1,args,r,args',args_gs s1.gs A hb',hc,fun v F' σ' H' s rr=>?_⟩;obtain⟨z1,z2⟩:=Jy s1 A hb' s;exact k v F' H' z1 (z2 v r rr)
   .cases e
   .cases e
def GP(K:PySem.W.Frag)(D:Ends)(F':Hp)(ρ':List Sl)(σ':L2.St)(H':Hp)(ρ:List Sl)(σ:L2.St)(H:Hp)(fl:Fl):Prop:=match fl with|.next=>D.nx σ' H'|.brk=>D.bk σ' H'|.cont=>D.ct σ' H'|.ret r=>∀v,cM K F' ρ' σ' H' ρ σ H v r->D.rt v H'
inductive tEx(K:PySem.W.Frag)(f:List Sl->Res Fl)(D:Ends)(σ:L2.St)(H:Hp):Prop where|mk(F:Hp)(ρ:List Sl)(fl:Fl)(ρ':List Sl)(g:GS K F ρ σ H)(e:f ρ=.ok fl ρ')(k:∀F' σ' H',aB K F ρ σ H F' ρ' σ' H'->GP K D F' ρ' σ' H' ρ σ H fl)
def SS(X:Cx)(c:Call)(n:Nat)(st:Stmt)(s:S):Prop:=PS X st (tEx X.K (ex c n s))
def SB(X:Cx)(c:Call)(n:Nat)(st:List Stmt)(s:List S):Prop:=wI X st (tEx X.K (ik c n s))
theorem dD{st:Stmt}{t t':TS}(h:PS X st t)(i:∀D σ H,t' D σ H->t D σ H):PS X st t':=fun pins s σ H D I q=>h pins s σ H D I (i D σ H q)
theorem nT{st:List Stmt}{t t':TS}(h:wI X st t)(i:∀D σ H,t' D σ H->t D σ H):wI X st t':=fun pins s σ H D I q=>h pins s σ H D I (i D σ H q)
theorem xs0{c:Call}:ik c n [] ρ=.ok .next ρ:=rfl
theorem Tw{c:Call}{s:S}{r:List S}:ik c n (s::r) ρ=(ex c n s ρ).bind fun fl ρ=>match fl with|.next=>ik c n r ρ|fl=>.ok fl ρ:=rfl
theorem aq:SB X c n [] []:=nT An fun D σ H⟨F,ρ,fl,ρ',g,e,k⟩=>by rw[xs0]at e;cases e;exact k F σ H (.refl g)
theorem aL{st:Stmt}{s:S}{sts:List Stmt}{ss:List S}(h1:SS X c n st s)(h2:SB X c n sts ss):SB X c n (st::sts) (s::ss):=by refine nT (mL h1 h2) ?_;rintro D σ H⟨F,ρ,fl,ρ',g,e,k⟩;rw[Tw]at e;obtain⟨f1,ρ1,e1,e⟩:=aj e;cases f1 with
 |next=>refine⟨F,ρ,.next,ρ1,g,e1,fun F1 σ1 H1 s1=>⟨F1,ρ1,fl,ρ',s1.gs,e,fun F2 σ2 H2 s2=>?_⟩⟩;have q:=k F2 σ2 H2 (s1.trans s2);cases fl with|next=>exact q|brk=>exact q|cont=>exact q|ret r=>exact fun v rr=>q v (rr.later s1)
 |brk=>cases e;exact⟨F,ρ,.brk,_,g,e1,k⟩|cont=>cases e;exact⟨F,ρ,.cont,_,g,e1,k⟩|ret r=>cases e;exact⟨F,ρ,.ret r,_,g,e1,k⟩
theorem m9{st:Stmt}:SS X c n st .bad:=dD Gf fun D σ H⟨F,ρ,fl,ρ',g,e,k⟩=>by rw[HH.X4]at e;cases e
theorem Cd(he:SX X c e p)(hs:swapsWith e none pos.line X.env=pure false:=by rfl):SS X c n (.Expr e pos) (.expr p):=by refine dD (uI he.ev hs) ?_;rintro D σ H⟨F,ρ,fl,ρ',g,e,k⟩;rw[HH.X5]at e;obtain⟨r,ρ1,e1,e⟩:=aj e;cases e;exact⟨F,ρ,r,_,g,e1,fun v F1 H1 s1 rr=>k F1 σ H1 s1⟩
theorem Xz{t1 t2:TE}(h1:PE X e t1)(h2:PE X e t2):PE X e (fun σ H Q=>t1 σ H Q\/t2 σ H Q):=fun pins s σ H Q I h=>h.elim (h1 pins s σ H Q I) (h2 pins s σ H Q I)
theorem SN(he:SX X c e p):SS X c n (.Return (some e) pos) (.ret p):=by
 have plain:∀(D:Ends)(σ:L2.St)(H:Hp),(∃F ρ fl ρ',GS X.K F ρ σ H/\((HH.ev c p ρ).bind fun r ρ=>.ok (Fl.ret r) ρ)=.ok fl ρ'/\∀F' σ' H',aB X.K F ρ σ H F' ρ' σ' H'->(match fl with|.next=>D.nx σ' H'|.brk=>D.bk σ' H'|.cont=>D.ct σ' H'|.ret r=>∀v,cM X.K F' ρ' σ' H' ρ σ H v r->D.rt v H'))->vD X.K (HH.ev c p) σ H D.rt:=fun D σ H⟨F,ρ,fl,ρ',g,e,k⟩=>by obtain⟨r,ρ1,e1,e⟩:=aj e;cases e;exact⟨F,ρ,r,_,g,e1,fun v F1 H1 s1 rr=>k F1 σ H1 s1 v rr⟩
 cases hv:isVar p with|none=>refine dD (G5 he.ev) fun D σ H⟨F,ρ,fl,ρ',g,e,k⟩=>plain D σ H ⟨F,ρ,fl,ρ',g,?_,k⟩;rw[HH.X11,hv]at e;exact e|some i=>--by the name itself:its own list is handed back,else its data
   have hp:p=.var i:=by cases p<;>cases hv;rfl
   subst hp;refine dD (G5 (Xz (he.var i hv) he.ev)) ?_;rintro D σ H⟨F,ρ,fl,ρ',g,e,k⟩;rw[HH.X11,hv]at e;dsimp only at e;split at e;.rename_i ds q;cases e;obtain⟨v,h1,h2,h3⟩:=g.give q;exact .inl ⟨v,h1,k F σ H h2 v h3⟩
   .exact .inr (plain D σ H ⟨F,ρ,fl,ρ',g,e,k⟩)
theorem fj{sa sb:List Stmt}{ta tb:List S}(hc:ST X c e p)(ha:SB X c n sa ta)(hb:SB X c n sb tb):SS X c n (.If e sa sb pos) (.ifs p ta tb):=by refine dD (N7 hc ha hb) ?_;rintro D σ H⟨F,ρ,fl,ρ',g,e,k⟩;rw[HH.X13]at e;obtain⟨x,ρ1,e1,e⟩:=aj e;refine⟨F,ρ,x,ρ1,g,e1,fun F1 H1 s1=>?_⟩;have go:∀{f:List Sl->Res Fl},f ρ1=.ok fl ρ'->tEx X.K f D σ H1:=fun{f}h=>⟨F1,ρ1,fl,ρ',s1.gs,h,fun F2 σ2 H2 s2=>by have q:=k F2 σ2 H2 (s1.trans s2);cases fl with|next=>exact q|brk=>exact q|cont=>exact q|ret r=>exact fun v rr=>q v (rr.later s1)⟩;cases x with|true=>rw[if_pos rfl]at e;exact go e|false=>rw[if_neg Bool.false_ne_true]at e;exact go e
theorem nD{pos':Pos}(hN:X.N.Nodup)(hi:X.N[i]?=some x)(hx:Loc X.env.scope x)(he:SX X c e p)(hs:swapsWith e (some (.Name x pos')) pos.line X.env=pure false:=by rfl)(hf:X.fn x=true\/X.env.scope.names.lookup x=some .local:=by first|exact .inl rfl|exact .inr rfl|assumption):SS X c n (.Assign [.Name x pos'] e pos) (.asg i p):=by refine dD (uE hN hi hx he.ev hs hf) ?_;rintro D σ H⟨F,ρ,fl,ρ',g,e,k⟩;rw[HH.X6]at e;obtain⟨r,ρ1,e1,e⟩:=aj e;obtain⟨ρ2,ρ3,e2,e⟩:=aj e;cases e;have zz:=aD e2;clear e2;obtain⟨e2,e3⟩:=zz;exact⟨F,ρ,r,ρ1,g,e1,fun v F1 H1 s1 rr=>k F1 _ H1 (s1.put rr e2)⟩
end
end HH
end
section
namespace L2
open PySem PySem.Spec PyProof.Rows
variable{env:Env}{scope:Scope}{X:Cx}
noncomputable def ou(X:Cx)(scope:Scope)(N':List Str)(cl:List (Str×Addr))(C:Addr)(s₀:Shared)(H₀:Hp)(ex:List Addr):Cx:={X with N:=N',s₀:=s₀,H₀:=H₀,env:=compEnvC scope cl C X.env,outer:=X.stack,stack:=X.stack,ex:=ex,fn:=fun x=>scope.names.lookup x==some .cell,pn:=[],xe:=fun _ _=>False}
theorem yu(l:List (Str×NameKind)):∀(cs:List (Str×Addr)),(∀n,(n,NameKind.free)∈l->∃c,env.cells.lookup n=some c)->(∀n c,cs.lookup n=some c->env.cells.lookup n=some c)->∃ cl,(forIn l cs (fun(x:Str × NameKind)(r:List (Str × Addr))=>(if(x.2==NameKind.free)=true then(do let a<-cellOf env x.1;pure (ForInStep.yield ((x.1,a)::r)))else pure (ForInStep.yield r):Sem (ForInStep (List (Str × Addr))))):Sem (List (Str × Addr)))=pure cl/\(∀n c,cl.lookup n=some c->env.cells.lookup n=some c)/\(∀n,((n,NameKind.free)∈l\/(cs.lookup n).isSome)->(cl.lookup n).isSome):=by induction l with|nil=>intro cs _ h;exact⟨cs,rfl,h,fun n hn=>by rcases hn with hn|hn;cases hn;exact hn⟩|cons y l ih=>
   obtain⟨n,k⟩:=y;intro cs hl hc;rw[forIn_cons];by_cases hk:k=.free
   . subst hk;obtain⟨a,ha⟩:=hl n mem_cons_self;obtain⟨cl,e,h1,h2⟩:=ih ((n,a)::cs) (fun m hm=>hl m (mem_cons_of_mem _ hm)) fun m c hm=>by
      rw[lookup_cons]at hm;split at hm;.rename_i q;have q:=eq_of_beq q;subst q;cases hm;exact ha
      .exact hc m c hm
     refine⟨cl,?_,h1,fun m hm=>h2 m ?_⟩
     . rw[<-e];have:cellOf env n=pure a:=by unfold cellOf;rw[ha]
       simp only[beq_self_eq_true,if_true,this];rfl
     . rcases hm with hm|hm
       . rcases mem_cons.mp hm with hm|hm;.cases hm;right;simp[lookup_cons]
         .exact .inl hm
       . right;rw[lookup_cons];split;.rfl
         .exact hm
   . obtain⟨cl,e,h1,h2⟩:=ih cs (fun m hm=>hl m (mem_cons_of_mem _ hm)) hc;refine⟨cl,?_,h1,fun m hm=>h2 m ?_⟩
     . rw[<-e];have:(k==NameKind.free)=false:=by simpa using hk
       simp only[this,false_eq_true,if_false];rfl
     . rcases hm with hm|hm
       . rcases mem_cons.mp hm with hm|hm;.cases hm;exact absurd rfl hk
         .exact .inl hm
       .exact .inr hm
theorem yh(hl:∀n,(n,NameKind.free)∈scope.names->∃c,env.cells.lookup n=some c):∃cl,closureFor scope env=pure cl/\(∀n c,cl.lookup n=some c->env.cells.lookup n=some c)/\∀n,(n,NameKind.free)∈scope.names->(cl.lookup n).isSome:=by obtain⟨cl,e,h1,h2⟩:=yu (env:=env) scope.names [] hl (by simp);refine⟨cl,?_,h1,fun n hn=>h2 n (.inl hn)⟩;unfold closureFor;exact(congrArg (fun t=>t>>=fun r=>pure r) e).trans rfl
theorem eG{env:Env}:∀(names:List (Str×NameKind))(x:Str),(names.map fun(n,k)=>if(k==NameKind.free&&env.scope.kind==.function&&env.kindOf n==some .cell)then(n,NameKind.cell)else(n,k)).lookup x=(names.lookup x).map fun k=>if(k==NameKind.free&&env.scope.kind==.function&&env.kindOf x==some .cell)=true then NameKind.cell else k
 |[],x=>rfl|(n,k)::r,x=>by
   have ih:=eG (env:=env) r x;show List.lookup x ((if(k==NameKind.free&&env.scope.kind==.function&&env.kindOf n==some .cell)=true then(n,NameKind.cell)else(n,k))::_)=_;by_cases hc:(k==NameKind.free&&env.scope.kind==.function&&env.kindOf n==some .cell)=true;.rw[if_pos hc,lookup_cons,lookup_cons];cases hx:x==n with|true=>have:=eq_of_beq hx;subst this;show some NameKind.cell=some (if _ then _ else _);rw[if_pos hc]|false=>exact ih
   .rw[if_neg hc,lookup_cons,lookup_cons];cases hx:x==n with|true=>have:=eq_of_beq hx;subst this;show some k=some (if _ then _ else _);rw[if_neg hc]|false=>exact ih
noncomputable def Xc(N N':List Str)(sc:Scope):Bool:=(N.zip N').all fun p=>(p.1==p.2&&sc.names.lookup p.2==some .free)||(sc.names.lookup p.2!=some .local&&sc.names.lookup p.2!=some .cell&&sc.names.lookup p.2!=some .free)
structure dY(X:Cx)(scope:Scope)(N':List Str)(n:Nat):Prop where
 kind:scope.kind=.function
 cons:∀y∈scope.names,scope.names.lookup y.1=some y.2
 names:∀y∈scope.names,y.2=.local->scope.names.lookup y.1=some .local
 cap:∀y∈scope.names,y.2=.free->X.env.scope.names.lookup y.1=some .cell\/X.env.scope.names.lookup y.1=some .free
 len:N'.length=X.N.length+n
 same:Xc X.N N' scope=true
theorem dY.get{N':List Str}{n:Nat}(c:dY X scope N' n){i:Nat}{x:Str}(hi:i<X.N.length)(h:N'[i]?=some x)(hv:xg (relabel scope X.env) x):X.N[i]?=some x/\scope.names.lookup x=some .free:=by
 have hz:(X.N.zip N')[i]?=some (X.N[i],x):=by rw[List.getElem?_zip_eq_some];exact⟨by simp[hi],h⟩
 have:=(all_eq_true.mp c.same) _ (mem_of_getElem? hz);simp only[or_eq_true,and_eq_true]at this;rcases this with⟨h1,h2⟩|⟨⟨h1,h2⟩,h3⟩;.have h1:=eq_of_beq h1;have h2:=eq_of_beq h2;exact⟨by simp[hi,h1],h2⟩
 . exfalso;have h1:scope.names.lookup x≠some .local:=by simpa using h1
   have h2:scope.names.lookup x≠some .cell:=by simpa using h2
   have h3:scope.names.lookup x≠some .free:=by simpa using h3
   have e:=eG (env:=X.env) scope.names x;have hv:(relabel scope X.env).names.lookup x=some .local\/(relabel scope X.env).names.lookup x=some .cell\/(relabel scope X.env).names.lookup x=some .free:=hv;rw[show(relabel scope X.env).names.lookup x=_ from e]at hv;cases q:scope.names.lookup x with|none=>rw[q]at hv;simp at hv|some k=>
     rw[q]at hv h1 h2 h3;have hk:(k==NameKind.free)=false:=by cases k<;>first|rfl|exact absurd rfl h3
     simp only[Option.map_some,hk,Bool.false_and,false_eq_true,if_false,Option.some.injEq]at hv;rcases hv with rfl|rfl|rfl;.exact h1 rfl
     .exact h2 rfl
     .exact h3 rfl
structure CI(cl:List (Str×Addr))(z:Nat)(h:Heap)(acc:List (Str×Addr)):Prop where from':∀n c,acc.lookup n=some c->cl.lookup n=some c\/(z<=c/\h.IsCell c none)inj:∀n n' c,acc.lookup n=some c->acc.lookup n'=some c->n=n'
theorem Jk{cl:List (Str×Addr)}{z:Nat}(hcl:∀n c,cl.lookup n=some c->c<z):∀(names:List (Str×NameKind))(h:Heap)(acc:List (Str×Addr)),z<=h.objs.size->CI cl z h acc->CI cl z (pushCells h names) (cellsFrom h.objs.size names acc)/\(∀n,(acc.lookup n).isSome->((cellsFrom h.objs.size names acc).lookup n).isSome)/\(∀n,((∃c,acc.lookup n=some c/\z<=c)\/(n,NameKind.cell)∈names)->∃c,(cellsFrom h.objs.size names acc).lookup n=some c/\z<=c)/\(∀n c,(n,NameKind.cell)∉names->(cellsFrom h.objs.size names acc).lookup n=some c->acc.lookup n=some c)
 |[],h,acc,hz,x=>by
   refine⟨x,fun _ q=>q,fun n q=>?_,fun _ _ _ q=>q⟩;rcases q with q|q;.exact q
   .cases q|(name,kind)::r,h,acc,hz,x=>by
   unfold pushCells cellsFrom;by_cases hk:kind=.cell
   . subst hk;rw[if_pos (by rfl),if_pos (by rfl)];have hx:CI cl z (h.push {cls:=.type "cell",data:=.cell none}) ((name,h.objs.size)::acc):=by
      have lt:∀n c,acc.lookup n=some c->c<h.objs.size:=fun n c e=>by
       rcases x.from' n c e with q|q;.exact lt_of_lt_of_le (hcl n c q) hz
       .exact q.2.lt
      refine⟨fun n c e=>?_,fun n n' c e e'=>?_⟩
      . rw[lookup_cons]at e;split at e;.cases e;exact .inr ⟨hz,_,get?_push_size _ rfl,rfl⟩
        . rcases x.from' n c e with q|q;.exact .inl q
          .exact .inr ⟨q.1,q.2.keeps fun b o e=>dC e⟩
      . rw[lookup_cons]at e e';split at e<;>split at e';.rename_i _ a _ b;rw[eq_of_beq a,eq_of_beq b]
        .cases e;exact absurd (lt n' _ e') (lt_irrefl _)
        .cases e';exact absurd (lt n _ e) (lt_irrefl _)
        .exact x.inj n n' c e e'
     have ih:=Jk hcl r (h.push {cls:=.type "cell",data:=.cell none}) ((name,h.objs.size)::acc) (by rw[size_push];omega) hx;rw[size_push]at ih;refine⟨ih.1,fun n q=>ih.2.1 n ?_,fun n q=>ih.2.2.1 n ?_,fun n c q e=>?_⟩
     . rw[lookup_cons];split;.rfl
       .exact q
     . rcases q with⟨c,e,hc⟩|q
       . left;rw[lookup_cons];split;.exact⟨_,rfl,hz⟩
         .exact⟨c,e,hc⟩
       . rcases mem_cons.mp q with q|q;.cases q;left;exact⟨_,by simp[lookup_cons],hz⟩
         .exact .inr q
     . have:=ih.2.2.2 n c (fun z=>q (mem_cons_of_mem _ z)) e;rw[lookup_cons]at this;split at this;.rename_i a;exact absurd (by rw[eq_of_beq a];exact mem_cons_self) q
       .exact this
   . have hk':(kind==NameKind.cell)=false:=by simpa using hk
     rw[if_neg (by rw[hk'];decide),if_neg (by rw[hk'];decide)];have ih:=Jk hcl r h acc hz x;refine⟨ih.1,ih.2.1,fun n q=>ih.2.2.1 n ?_,fun n c q e=>ih.2.2.2 n c (fun z=>q (mem_cons_of_mem _ z)) e⟩;rcases q with q|q;.exact .inl q
     . rcases mem_cons.mp q with q|q;.cases q;exact absurd rfl hk
       .exact .inr q
structure Ie(X:Cx)(scope:Scope)(z:Nat)(h:Heap)(cs:List (Str×Addr)):Prop where
 from':∀n c,cs.lookup n=some c->X.env.cells.lookup n=some c\/(z<c/\h.IsCell c none)inj:∀n n' c,cs.lookup n=some c->cs.lookup n'=some c->n=n'
 has:∀n,(scope.names.lookup n=some .free\/scope.names.lookup n=some .cell)->∃c,cs.lookup n=some c
 fre:∀n c,scope.names.lookup n=some .free->cs.lookup n=some c->X.env.cells.lookup n=some c
 own:∀n c,scope.names.lookup n=some .cell->cs.lookup n=some c->z<c
theorem Dl{M:Model}{A:Around}{E:Value->Shared->Prop}{s:Shared}{N':List Str}{n:Nat}{cl:List (Str×Addr)}{Q:Env->Shared->Prop}(ok:dY X scope N' n)(hlt:∀n c,X.env.cells.lookup n=some c->c<s.heap.objs.size)(hinj:∀x y c,X.env.cells.lookup x=some c->X.env.cells.lookup y=some c->x=y)(hcl:∀n c,cl.lookup n=some c->X.env.cells.lookup n=some c)(zT:∀n,(n,NameKind.free)∈scope.names->(cl.lookup n).isSome)(hQ:∀ cs h',h'.Ns s.heap.objs.size (fun _=>none)->(∀ b o,s.heap.get? b=some o->h'.get? b=some o)->Ie X scope s.heap.objs.size h' cs->Q {scope:=scope,locals:=s.heap.objs.size,globals:=X.env.globals,cells:=cs,qual:=X.env.qual,func:=none,code:=X.env.code,frame:=X.env.frame,builtins:=X.env.builtins} {s with heap:=h'}):wpAny M A (newFunctionEnv scope X.env.globals cl [] X.env.qual none .none (some X.env)) Q E s:=by
 simp only[newFunctionEnv,Option.isSome_some,if_true];refine wpAny_bind (wpAny_alloc ?_);refine wpAny_bind (wpAny_layCells _ (fun name kind cells=>by cases hkc:kind==NameKind.cell<;>simp[hkc]) _ _ _ _ ?_);have ck:=Jk (cl:=cl) (z:=s.heap.objs.size+1) (fun n c e=>Nat.lt_succ_of_lt (hlt n c (hcl n c e))) scope.names (s.heap.push {cls:=.type "dict",data:=.dict #[]}) cl (by rw[size_push];exact dh) ⟨fun n c e=>.inl e,fun n n' c e e'=>hinj n n' c (hcl n c e) (hcl n' c e')⟩;obtain⟨c1,c2,c3,c4⟩:=ck;rw[show({s with heap:=s.heap.push {cls:=.type "dict",data:=.dict #[]}}:Shared).heap.objs.size=(s.heap.push {cls:=.type "dict",data:=.dict #[]}).objs.size from rfl];refine wpAny_bind ?_;rw[forIn_nil];refine wpAny_pure (wpAny_pure (hQ _ _ ((Heap.Ns.new s.heap (.type "dict")).keeps (pushCells_keeps _ _)) (fun b o e=>pushCells_keeps _ _ b o (dC e)) ⟨fun n c e=>?_,c1.inj,fun n q=>?_,fun n c q e=>?_,fun n c q e=>?_⟩))
 . rcases c1.from' n c e with z|z;.exact .inl (hcl n c z)
   .exact .inr ⟨z.1,z.2⟩
 . rcases q with q|q;.exact Option.isSome_iff_exists.mp (c2 n (zT n (PySem.mem_of_lookup q)))
   .obtain⟨c,e,_⟩:=c3 n (.inr (PySem.mem_of_lookup q));exact⟨c,e⟩
 .refine hcl n c (c4 n c (fun z=>?_) e);have:=ok.cons _ z;rw[q]at this;cases this
 .obtain⟨c',e',hc'⟩:=c3 n (.inr (PySem.mem_of_lookup q));rw[e]at e';cases e';exact hc'
section
variable{X:Cx}{pins:List (Addr×Obj)}{σ:L2.St}{H:Hp}{s:Shared}{scope:Scope}{N':List Str}{n:Nat}{fp:List Addr}{cl:List (Str×Addr)}
theorem GZ{h1:Heap}{m:Str->Option Value}{t:Nat}{cs:List (Str×Addr)}(ok:dY X scope N' n)(I:Inv X pins σ H s)(hf:∀b∈fp,nY X pins H b/\b<s.heap.objs.size)(bc:Ie X scope s.heap.objs.size h1 cs)(hn:h1.Ns s.heap.objs.size m)(old:∀b u,s.heap.get? b=some u->h1.get? b=some u):Inv (ou X scope N' cs s.heap.objs.size s H fp) [] (σ++replicate n none) H {s with heap:=h1,toks:=t}:=by
 have ZC:∀x,scope.names.lookup x=some .free->(relabel scope X.env).names.lookup x=some .cell\/(relabel scope X.env).names.lookup x=some .free:=fun x h=>by
  have e:=eG (env:=X.env) scope.names x;rw[h]at e;have e':(relabel scope X.env).names.lookup x=_:=e;rw[e'];simp only[Option.map_some];split;.exact .inl rfl
  .exact .inr rfl
 refine⟨⟨I.ok.mod,ok.kind,I.ok.glob,I.ok.blt,dh,fun x y c h1 h2=>bc.inj x y c h1 h2,fun x hx=>?_,fun x c h e=>le_of_lt (bc.own x c (eq_of_beq (show(scope.names.lookup x==some NameKind.cell)=true from h)) e),I.ok.hd,I.ok.frames,.inl rfl,fun b hb=>?_,I.bs,le_trans I.ok.PX I.sz,fun b u e hb=>?_,fun b hb hfs=>?_,I.stack,I.Bd⟩,rfl,I.bare,Un.kept old,⟨m,hn,fun i x v e1 e2 hv=>?_⟩,fun x c e=>?_,I.hok.fresh (dh),fun x c e=>?_,fun p hp=>(by cases hp),I.hok.kept old,?_⟩;.--a ZD name has its cell
   have hx:(relabel scope X.env).names.lookup x=some .cell\/(relabel scope X.env).names.lookup x=some .free:=hx;have e:=eG (env:=X.env) scope.names x;have e':(relabel scope X.env).names.lookup x=_:=e;rw[e']at hx;refine bc.has x ?_;cases q:scope.names.lookup x with|none=>rw[q]at hx;simp at hx|some k=>
     rw[q]at hx;by_cases hk:k=.free;.rw[hk];exact .inl rfl
     . have hk':(k==NameKind.free)=false:=by simpa using hk
       simp only[Option.map_some,hk',Bool.false_and,false_eq_true,if_false,Option.some.injEq]at hx;rcases hx with rfl|rfl;.exact .inr rfl
       .exact absurd rfl hk
 . obtain⟨f,lt⟩:=hf b hb;refine⟨ne_of_lt lt,fun x c e=>?_⟩;rcases bc.from' x c e with e|e;.exact f.2.2.2.2.1 x c e
   .rintro rfl;exact absurd (Nat.lt_trans e.1 lt) (lt_irrefl _)
 . obtain⟨f,lt⟩:=hf b hb;rcases f.2.2.2.1 with h|h;.exact I.ok.Jz b u e h
   .have this:b<X.base.objs.size:=lt_size e;exact absurd (lt_of_lt_of_le this (le_trans I.ok.PX h)) (lt_irrefl _)
 . obtain⟨f,lt⟩:=hf b hb;rcases mem_cons.mp (I.vf b hfs)with h|h;.exact f.2.1 h
   .exact f.2.2.1 h
 .--the names
   have hi:i<σ.length:=by
    by_cases hi:i<σ.length;.exact hi
    .rw[getElem?_append_right (by omega),List.getElem?_replicate]at e2;split at e2<;>cases e2
   rw[getElem?_append_left hi]at e2;obtain⟨h1',h2'⟩:=ok.get (by rw[<-I.len];exact hi) e1 hv;have hk:=ok.cap (x,.free) (PySem.mem_of_lookup h2') rfl;obtain⟨m0,hn0,hl⟩:=I.loc;obtain⟨u,r,l⟩:=hl i x v h1' e2 (.inr hk);refine⟨u,r,.inr ⟨ZC x h2',?_⟩⟩;rcases l with⟨hk',_⟩|⟨_,c,hc,hcell⟩;.have hk':X.env.scope.names.lookup x=some .local:=hk';rcases hk with hk|hk<;>(rw[hk']at hk;cases hk)
   .obtain⟨c',hc'⟩:=bc.has x (.inl h2');have:=bc.fre x c' h2' hc';rw[hc]at this;cases this;refine⟨c,hc',?_⟩;obtain⟨oc,e3,e4⟩:=hcell;exact⟨oc,old c oc e3,e4⟩
 . rcases bc.from' x c e with e|e;.obtain⟨v,oc,e3,e4⟩:=I.cell x c e;exact⟨v,oc,old c oc e3,e4⟩
   .exact⟨_,e.2⟩
 . rcases bc.from' x c e with e|e;.exact I.kY x c e
   .exact I.hok.fresh (le_of_lt e.1)
 .show(σ++replicate n none).length=N'.length;rw[length_append,List.length_replicate,I.len,ok.len]
theorem u6{prog:Program}{w:World}{A:Around}{R:Result->Shared->Prop}{elt target iter:Expr}{ifs:List Expr}{pos:Pos}{it acc:Value}(I:Nat->Shared->Prop)(turn:∀ n s,I n s->wpAny (model prog w) A (pyNext it) (fun r s₁=>match r with|none=>R (.ok .next) s₁|some v=>wpAny (model prog w) A (letOwnedTupleGo target it v) (fun _ s₁=>wpAny (model prog w) A (assign target env v) (fun _ s₂=>wpAny (model prog w) A (forIn ifs true fun c r=>if r=true then do let ok<-isTrue c env (eval c env);pure (ForInStep.yield ok)else pure (ForInStep.yield r)) (fun ok s₃=>if ok=true then wpAny (model prog w) A (eval elt env) (fun x s₄=>wpAny (model prog w) A (call (.builtin "list.append") [acc,x]) (fun _ s₅=>∃m,m<n/\I m s₅) (notedBy (model prog w) A env fun e s'=>R (.error e) s') s₄) (notedBy (model prog w) A env fun e s'=>R (.error e) s') s₃ else ∃m,m<n/\I m s₃) (notedBy (model prog w) A env fun e s'=>R (.error e) s') s₂) (notedBy (model prog w) A env fun e s'=>R (.error e) s') s₁) (notedBy (model prog w) A env fun e s'=>R (.error e) s') s₁) (notedBy (model prog w) A env fun e s'=>R (.error e) s') s)(n:Nat){s:Shared}(h:I n s):codeAny (model prog w) A (.compLoop (.ListComp elt [⟨target,iter,ifs,0⟩] scope pos) 0 it acc env) R s:=by refine codeAny_loop rfl I (fun n s hI=>?_) n h;show wpAny _ A ((compTurn (.ListComp elt [⟨target,iter,ifs,0⟩] scope pos) 0 it acc env).onRaise (fun x=>do noteFrame x env;theTreesLotGoes x)) _ _ s;refine wpAny_noted ?_;rw[compTurn_list];refine wpAny_bind (wpAny_standAt (wpAny_bind (wpAny_mono (turn n s hI) (fun r s₁ h₁=>?_) fun _ _ h'=>h')));cases r with|none=>exact wpAny_pure h₁|some v=>refine wpAny_bind (wpAny_mono h₁ (fun _ s₁ h₁=>?_) fun _ _ h'=>h');refine wpAny_bind (wpAny_mono h₁ (fun _ s₂ h₂=>wpAny_bind (wpAny_mono h₂ (fun ok s₃ h₃=>?_) fun _ _ h'=>h')) fun _ _ h'=>h');cases ok with|false=>exact wpAny_pure ⟨rfl,h₃⟩|true=>exact wpAny_bind (wpAny_bind (wpAny_mono h₃ (fun x s₄ h₄=>wpAny_bind (wpAny_mono h₄ (fun _ s₅ h₅=>wpAny_pure (wpAny_pure ⟨rfl,h₅⟩)) fun _ _ h'=>h')) fun _ _ h'=>h'))
def Tg(X:Cx)(ifs:List Expr)(t:TT):Prop:=∀(pins:List (Addr × Obj))(s:Shared)(σ:L2.St)(H:Hp)(Q:Bool->Hp->Prop),Inv X pins σ H s->t σ H Q->wpAny (model X.prog X.w) X.A (forIn ifs true fun c r=>if r=true then do let ok<-isTrue c X.env (eval c X.env);pure (ForInStep.yield ok)else pure (ForInStep.yield r)) (TP X pins σ Q) X.xe s
theorem Nk:Tg X [] (fun _ H Q=>Q true H):=fun pins s σ H Q I h=>wpAny_tests_nil ⟨H,I,h⟩
theorem Lx{c:Expr}{t:TT}(h:PT X c t):Tg X [c] t:=fun pins s σ H Q I q=>wpAny_tests_one (h pins s σ H Q I q)
def Pk(J:It)(g:TG)(tt:TT)(te:TE)(D:Addr)(Q:Hp->Prop)(W:Nat->Nat->List V->L2.St->Hp->Prop):Prop:=∀ i m ys σ H,W i m ys σ H->H D=some (.lst ys)/\((J.stop i H/\Q H)\/(J.go i H/\∀ x H2,J.JC i H x H2->g x σ H2 fun σ3 H3=>tt σ3 H3 fun b H4=>if b=true then te σ3 H4 fun y H5=>H5 D=some (.lst ys)/\ys.length<sizeLine/\∃m',m'<m/\W (i+1) m' (ys++[y]) σ3 (upd H5 D (.lst (ys++[y])))else ∃m',m'<m/\W (i+1) m' ys σ3 H4))
theorem tO{E:Value->Shared->Prop}{elt target iter:Expr}{ifs:List Expr}{pos:Pos}{it:Addr}{tn:Nat->Heap->Prop}{J:It}{g:TG}{tt:TT}{te:TE}{Q:Addr->Hp->Prop}{RR:Value->Addr->Result->Shared->Prop}(hc:X.calm=true)(ok:dY X scope N' n)(I:Inv X pins σ H s)(hcl:∀n c,cl.lookup n=some c->X.env.cells.lookup n=some c)(zT:∀n,(n,NameKind.free)∈scope.names->(cl.lookup n).isSome)(T:Turn X.prog X.w X.K target J fp it tn)(h0:tn 0 s.heap)(hf:∀b∈fp,nY X pins H b)(hg:∀cl C s₀ H₀ ex,PG (ou X scope N' cl C s₀ H₀ ex) target g)(ht:∀cl C s₀ H₀ ex,Tg (ou X scope N' cl C s₀ H₀ ex) ifs tt)(he:∀cl C s₀ H₀ ex,PE (ou X scope N' cl C s₀ H₀ ex) elt te)(hw:∀D,H D=none->∃W,(∃m,W 0 m [] (σ++replicate n none) (upd H D (.lst [])))/\Pk J g tt te D (Q D) W)(hRR:∀D C s' H',Q D H'->(∃m,s'.heap.Ns C m)->nY X pins H' C->Inv X pins σ H' s'->RR (.ref D) C (.ok .next) s'):wpAny (model X.prog X.w) X.A (newList []) (fun acc s₃=>wpAny (model X.prog X.w) X.A (newFunctionEnv scope X.env.globals cl [] X.env.qual none .none (some X.env)) (fun cenv s₄=>codeAny (model X.prog X.w) X.A (.compStart (.ListComp elt [⟨target,iter,ifs,0⟩] scope pos) 0 (.ref it) acc {cenv with scope:=relabel scope X.env}) (RR acc cenv.locals) s₄) E s₃) E s:=by
 refine wpAny_newObj_type (Dl ok (fun x c e=>?lt) I.ok.inj hcl zT (fun cs h₁ hns hold bc=>?_));case lt=>obtain⟨v,z⟩:=I.cell x c e;exact lt_of_lt_of_le z.lt (by show _<=(s.heap.push _).objs.size;rw[size_push];exact le_succ _)
 dsimp only at hns hold bc ⊢--the new list,tracked
 have I3:Inv X pins σ (upd H s.heap.objs.size (.lst [])) {s with heap:=s.heap.push {cls:=.type "list",data:=.seq ([]:List Value).toArray}}:=I.Rm (t':=s.toks) .nil (uW);generalize hs3:({s with heap:=s.heap.push {cls:=.type "list",data:=.seq ([]:List Value).toArray}}:Shared)=s3 at I3;have hsz:s3.heap.objs.size=s.heap.objs.size+1:=by rw[<-hs3];exact size_push _ _
 have Qg:s3.heap=s.heap.push {cls:=.type "list",data:=.seq ([]:List Value).toArray}:=by rw[<-hs3]
 obtain⟨W,⟨m0,w0⟩,turn⟩:=hw s.heap.objs.size I.fresh;have tnK:∀{h':Heap},(∀b o,s.heap.get? b=some o->h'.get? b=some o)->tn 0 h':=fun k=>T.keep _ _ _ h0 fun b hb o e=>k b o e;have fp3:∀b∈fp,nY X pins (upd H s.heap.objs.size (.lst [])) b/\b<s3.heap.objs.size:=fun b hb=>by obtain⟨o,e,_⟩:=T.obj 0 _ h0 b hb;have lt:=lt_size e;obtain⟨f1,f2⟩:=hf b hb;exact⟨⟨by rw[aC (ne_of_lt lt)];exact f1,f2⟩,by rw[hsz];exact Nat.lt_succ_of_lt lt⟩
 rw[<-Qg]at hns hold bc ⊢;have I4:=GZ (t:=s3.toks) ok I3 fp3 bc hns hold;have ZF:∀b o,s.heap.get? b=some o->h₁.get? b=some o:=fun b o e=>hold b o (by rw[Qg];exact dC e);generalize hX:ou X scope N' cs s3.heap.objs.size s3 (upd H s.heap.objs.size (.lst [])) fp=X' at I4;have hA:X'.A=X.A:=by rw[<-hX];rfl
 have hpr:X'.prog=X.prog:=by rw[<-hX];rfl
 have hwr:X'.w=X.w:=by rw[<-hX];rfl
 have hKK:X'.K=X.K:=by rw[<-hX];rfl
 have hcalm:X'.calm=true:=by rw[<-hX];exact hc
 have hxe:X'.xe=fun _ _=>False:=by rw[<-hX];rfl
 have henv:X'.env=compEnvC scope cs s3.heap.objs.size X.env:=by rw[<-hX];rfl
 have hg':PG X' target g:=by rw[<-hX];exact hg _ _ _ _ _
 have ht':Tg X' ifs tt:=by rw[<-hX];exact ht _ _ _ _ _
 have he':PE X' elt te:=by rw[<-hX];exact he _ _ _ _ _
 have ff:∀{H':Hp}{b:Addr},b∈fp->H' b=none->nY X' [] H' b:=fun{H' b}hb hn=>by
  obtain⟨f,lt⟩:=fp3 b hb;rw[<-hX];refine⟨hn,ne_of_lt lt,fun hfs=>?_,.inl hb,fun x c e=>?_,fun p hp=>by cases hp⟩
  . rcases mem_cons.mp (I3.vf b hfs)with h|h;.exact f.2.1 h
    .exact f.2.2.1 h
  . rcases bc.from' x c e with e|e;.exact f.2.2.2.2.1 x c e
    .rintro rfl;exact absurd (Nat.lt_trans e.1 lt) (lt_irrefl _)--behind the block
 have fin:∀{σ':L2.St}{H':Hp}{s':Shared},Inv X' [] σ' H' s'->Q s.heap.objs.size H'->RR (.ref s.heap.objs.size) s3.heap.objs.size (.ok .next) s':=fun{σ' H' s'}J' q=>by
  rw[<-hX]at J';have hC:H' s3.heap.objs.size=none:=J'.free;obtain⟨hh,gg,dd,tt',os'⟩:=s';have eos:os'=s3.os:=J'.os;subst eos;refine hRR _ _ _ H' q (let⟨m,hm,_⟩:=J'.loc;⟨m,hm⟩) ?_ (I3.call (h':=hh) (g':=gg) (d':=dd) (t':=tt') (ch:=fp) J'.base J'.hok J'.bare fun b hb=>?_);.exact I3.yw (dh) hC
  .obtain⟨f,lt⟩:=fp3 b hb;exact⟨f.2.2.2.1,f.2.1,f.2.2.2.2.1,f.2.2.2.2.2⟩
 have main:codeAny (model X.prog X.w) X.A (.compLoop (.ListComp elt [⟨target,iter,ifs,0⟩] scope pos) 0 (.ref it) (.ref s.heap.objs.size) X'.env) (RR (.ref s.heap.objs.size) s3.heap.objs.size) {s3 with heap:=h₁,toks:=s3.toks}:=by
  refine u6 (fun k s'=>∃i ys σ' H',Inv X' [] σ' H' s'/\tn i s'.heap/\(∀b∈fp,H' b=none)/\W i k ys σ' H') (fun k s5 hI=>?_) m0 ⟨0,[],_,_,I4,tnK ZF,fun b hb=>(fp3 b hb).1.1,w0⟩;obtain⟨i,ys,σ5,H5,I5,t5,f5,w5⟩:=hI;obtain⟨hD,hturn⟩:=turn i k ys σ5 H5 w5;have noE:∀{Z:Value->Shared->Prop},∀(e:Value)(s':Shared),X'.xe e s'->Z e s':=fun e s' z=>by rw[hxe]at z;exact False.elim z
  rcases hturn with⟨stop,q⟩|⟨go,step⟩;.have z:=T.done X' hpr hwr hKK hcalm i [] s5 σ5 H5 (fun _ _=>False) I5 (fun b hb=>ff hb (f5 b hb)) t5 stop;rw[hA]at z;refine wpAny_mono z (?_) fun _ _ z=>False.elim z;rintro r s6⟨hr,I6⟩;subst hr;exact fin I6 q
  . have z:=T.item X' hpr hwr hKK hcalm i [] s5 σ5 H5 (fun _ _=>False) I5 (fun b hb=>ff hb (f5 b hb)) t5 go;rw[hA]at z;refine wpAny_mono z (?_) fun _ _ z=>False.elim z;rintro r s6⟨u,hr,z6⟩;subst hr;refine wpAny_mono z6 (?_) fun _ _ z=>False.elim z;rintro _ s7⟨x,H7,I7,r7,y7,t7,f7⟩;have I7':=I7.pinned (fun b hb=>ff hb (f7 b hb)) (T.obj _ _ t7)--what the pins keep
    have back:∀{σ':L2.St}{H':Hp}{s':Shared},Inv X' ([]++qp fp s7.heap) σ' H' s'->Inv X' [] σ' H' s'/\tn (i+1) s'.heap/\∀b∈fp,H' b=none:=fun{σ' H' s'}J'=>by refine⟨J'.mC,T.keep _ _ _ t7 fun b hb o e=>(J'.pin (b,o) (mem_append_right _ (mem_append_right _ (iQ hb e)))).1,fun b hb=>?_⟩;obtain⟨o,e,_⟩:=T.obj _ _ t7 b hb;exact(J'.pin (b,o) (mem_append_right _ (mem_append_right _ (iQ hb e)))).2.1
    have z7:=hg' _ s7 σ5 H7 x u _ I7' r7 (step x H7 y7);rw[hA,hpr,hwr]at z7;refine wpAny_mono z7 (?_) noE;rintro _ s8⟨σ8,H8,I8,q8⟩;have z8:=ht' _ s8 σ8 H8 _ I8 q8;rw[hA,hpr,hwr]at z8;refine wpAny_mono z8 (?_) noE;rintro b s9⟨H9,I9,q9⟩;cases b with|false=>rw[if_neg Bool.false_ne_true]at q9 ⊢;obtain⟨m',hm,w'⟩:=q9;obtain⟨b1,b2,b3⟩:=back I9;exact⟨m',hm,i+1,ys,σ8,H9,b1,b2,b3,w'⟩|true=>rw[if_pos rfl]at q9 ⊢;have z9:=he' _ s9 σ8 H9 _ I9 q9;rw[hA,hpr,hwr]at z9;refine wpAny_mono z9 (?_) noE;rintro y ni⟨yv,H10,I10,r10,ae9,hlen,m',hm,w'⟩;have z10:=m6 _ ni σ8 H10 (.ref s.heap.objs.size) [yv] (.ref s.heap.objs.size) [y] (fun v H11=>H11=upd H10 s.heap.objs.size (.lst (ys++[yv]))) I10 rfl (.cons r10 .nil) ⟨_,ys,yv,rfl,rfl,ae9,hlen,rfl⟩;rw[hA,hpr,hwr]at z10;refine wpAny_mono z10 (?_) noE;rintro _ J5⟨_,H11,I11,_,e11⟩;subst e11;obtain⟨b1,b2,b3⟩:=back I11;exact⟨m',hm,i+1,ys++[yv],σ8,_,b1,b2,b3,w'⟩
 have e3:({s3 with heap:=h₁,toks:=s3.toks}:Shared)={s with heap:=h₁}:=by rw[<-hs3]
 rw[henv,e3]at main;exact codeAny_compStart_list main (T.self _ 0 _ _ _ (tnK ZF) main)
end
section
variable{X:Cx}{elt target iter:Expr}{ifs:List Expr}{scope:Scope}{pos:Pos}{N':List Str}{n:Nat}{wi:TI}{g:TG}{tt:TT}{te:TE}
def ud(n:Nat)(wi:TI)(g:TG)(tt:TT)(te:TE):TE:=fun σ H Q=>wi σ H fun J H1=>∀D,H1 D=none->∃W,(∃m,W 0 m [] (σ++replicate n none) (upd H1 D (.lst [])))/\Pk J g tt te D (fun H'=>Q (.ref D) H') W
theorem mG{pins:List (Addr×Obj)}{σ:L2.St}{H:Hp}{s:Shared}(I:Inv X pins σ H s)(ok:dY X scope N' n):∃cl,closureFor scope X.env=pure cl/\(∀n c,cl.lookup n=some c->X.env.cells.lookup n=some c)/\∀n,(n,NameKind.free)∈scope.names->(cl.lookup n).isSome:=yh fun m hm=>I.ok.has m (ok.cap (m,.free) hm rfl)
theorem Ai(hc:X.calm=true)(ok:dY X scope N' n)(hi:PI X target iter wi)(hg:∀cl C s₀ H₀ ex,PG (ou X scope N' cl C s₀ H₀ ex) target g)(ht:∀cl C s₀ H₀ ex,Tg (ou X scope N' cl C s₀ H₀ ex) ifs tt)(he:∀cl C s₀ H₀ ex,PE (ou X scope N' cl C s₀ H₀ ex) elt te)(hs:∀x,foldedSetIterable iter X.env x=pure x:=by intro _;rfl):PE X (.ListComp elt [⟨target,iter,ifs,0⟩] scope pos) (ud n wi g tt te):=by intro pins s σ H Q I h;obtain⟨cl,hclos,hcl,zT⟩:=mG I ok;rw[eval_ListComp];refine wpAny_comprehension_free (use:=none) rfl hs hclos ok.kind ok.names (bR (hi pins s σ H _ I h) fun v s1 h1=>bR h1 fun itv s2 h2=>?_);obtain⟨it,fp,tn,J,H2,rfl,I2,T,t0,f2,hw⟩:=h2;refine tO (Q:=fun D H'=>Q (.ref D) H') (RR:=fun acc C=>compPost (model X.prog X.w) X.A X.xe none (EP X pins σ Q) acc C) hc ok I2 hcl zT T t0 f2 hg ht he hw fun D C s' H' q hm EY I'=>?_;obtain⟨m,hm⟩:=hm;refine⟨m,hm,fun h' hs'=>⟨.ref D,H',?_,rfl,q⟩⟩;exact I'.turned (t':=s'.toks) (fun b o hb e=>hs'.extBut b o hb e) EY.1 EY.2.1 EY.2.2.2.1 EY.2.2.2.2.1 EY.2.2.2.2.2
theorem vd{i:Nat}{x:Str}{pos' spos:Pos}(hc:X.calm=true)(hN:X.N.Nodup)(hx0:X.N[i]?=some x)(hx:Loc X.env.scope x)(ok:dY X scope N' n)(hi:PI X target iter wi)(hg:∀cl C s₀ H₀ ex,PG (ou X scope N' cl C s₀ H₀ ex) target g)(ht:∀cl C s₀ H₀ ex,Tg (ou X scope N' cl C s₀ H₀ ex) ifs tt)(he:∀cl C s₀ H₀ ex,PE (ou X scope N' cl C s₀ H₀ ex) elt te)(hsw:swapsWith (.ListComp elt [⟨target,iter,ifs,0⟩] scope pos) (some (.Name x pos')) spos.line X.env=pure true)(hs:∀x,foldedSetIterable iter X.env x=pure x:=by intro _;rfl)(hf:X.fn x=true\/X.env.scope.names.lookup x=some .local:=by first|exact .inl rfl|exact .inr rfl|assumption):PS X (.Assign [.Name x pos'] (.ListComp elt [⟨target,iter,ifs,0⟩] scope pos) spos) (RJ (ud n wi g tt te) (jl i)):=by
 intro pins s σ H D I h;obtain⟨cl,hclos,hcl,zT⟩:=mG I ok;rw[exec_Assign_Name_used _ _ _ _ hsw];refine wpAny_bind (wpAny_standAt (wpAny_bind ?_));show wpAny _ X.A (do let _<-comprehension (.ListComp elt [⟨target,iter,ifs,0⟩] scope pos) scope X.env _ (newList []) false (eval iter X.env) (some (assign (.Name x pos') X.env))) _ _ s;refine wpAny_bind (wpAny_mono (wpAny_comprehension_free (use:=some (assign (.Name x pos') X.env)) (Q:=fun _ s'=>SP X pins D .next s') rfl hs hclos ok.kind ok.names (bR (hi pins s σ H _ I h) fun v s1 h1=>bR h1 fun itv s2 h2=>?_)) (fun _ s' hq=>wpAny_pure (wpAny_pure hq)) fun _ _ e=>e);obtain⟨it,fp,tn,J,H2,rfl,I2,T,t0,f2,hw⟩:=h2;refine tO (Q:=fun Da H'=>D.nx (σ.set i (some (.ref Da))) H') (RR:=fun acc C=>compPost (model X.prog X.w) X.A X.xe (some (assign (.Name x pos') X.env)) (fun _ s'=>SP X pins D .next s') acc C) hc ok I2 hcl zT T t0 f2 hg ht he hw fun Da C s' H' q hm EY I'=>?_;obtain⟨m,hm⟩:=hm;show wpAny _ X.A (assign (.Name x pos') X.env (.ref Da)) _ _ _;refine wpAny_assign_Name (sX I' hN hx0 hx (show RelV (.ref Da) (.ref Da)from rfl) (?_) hf);rintro s'' I''⟨a,sb,ha⟩;have hCa:C≠a:=by
  rcases ha with rfl|ha;.exact EY.2.1
  .exact fun z=>EY.2.2.2.2.1 x a ha z.symm
 refine⟨m,hm.sameBut sb hCa,fun h' hs'=>⟨_,H',?_,q⟩⟩;exact I''.turned (t':=s''.toks) (fun b o hb e=>hs'.extBut b o hb e) EY.1 EY.2.1 EY.2.2.2.1 EY.2.2.2.2.1 EY.2.2.2.2.2
def aej(K:PySem.W.Frag)(tl:TE):TI:=fun σ H R=>tl σ H fun x H1=>∃a,x=.ref a/\(((∃xs,dX K H1 a xs)/\R (Su K a) H1)\/((∃xs,iD K H1 a xs)/\R (Wv K a) H1))
theorem yC{tg l:Expr}{tl:TE}(hl:PE X l tl):PI X tg l (aej X.K tl):=by
 intro pins s σ H R I h;refine bR (hl pins s σ H _ I h) ?_;rintro v s1⟨x,H1,I1,r1,q1⟩;obtain⟨a,e,q1⟩:=q1;subst e;cases r1;rcases q1 with⟨⟨xs,hq⟩,q⟩|⟨⟨xs,hq⟩,q⟩
 . obtain⟨its,rv,p,hz⟩:=I1.list hq;refine wpAny_pyIter_list p.isList ?_;refine⟨s1.heap.objs.size,[s1.heap.objs.size],_,_,H1,rfl,I1.kept (t':=s1.toks) fun b o e=>dC e,El a _,⟨_,get?_push_size _ rfl,rfl,rfl⟩,fun b hb=>?_,q⟩;have e:b=s1.heap.objs.size:=by simpa using hb
   subst e;exact I1.yw (dh) (I1.hok.fresh (dh))
 . obtain⟨its,rv,p,hz⟩:=I1.tuple hq;refine wpAny_pyIter_tuple (show s1.heap.IsTuple a its.toArray from p) ?_;refine⟨s1.heap.objs.size,[s1.heap.objs.size],_,_,H1,rfl,I1.kept (t':=s1.toks) fun b o e=>dC e,yp a _,⟨_,get?_push_size _ rfl,rfl,rfl⟩,fun b hb=>?_,q⟩;have e:b=s1.heap.objs.size:=by simpa using hb
   subst e;exact I1.yw (dh) (I1.hok.fresh (dh))
end
end L2
end
section
namespace HH
open PySem L2 PySem.Spec PyProof.Rows
variable{v:V}{i m:Nat}{K:PySem.W.Frag}{F H:Hp}{ρ:List Sl}{σ:L2.St}{x:Str}{p':Pos}{is:List Nat}{ds:List D}{s:Shared}{A:Around}{u':Value}
structure Walk(K:PySem.W.Frag)(F:Hp)(ρ:List Sl)(σ:L2.St)(H:Hp)(ul:List Sl->List Sl)(J:It)(ds:List D)(F1:Hp)(ρ1:List Sl)(H1:Hp):Prop where
 gs:GS K F1 ρ1 σ H1
 src:∀(n k:Nat)(F':Hp)(ρ':List Sl)(σ':L2.St)(H':Hp),aB K F1 (ρ1++replicate n .aO) (σ++replicate n none) H1 F' ρ' σ' H'->(∀d,ds[k]?=some d->J.go k H'/\∀x kh,J.JC k H' x kh->∃F'',Ext F' H' F'' kh/\Rep K F'' x d)/\(ds.length<=k->J.stop k H')fin:∀F2 ρ2 σ2 H2,aB K F1 ρ1 σ H1 F2 ρ2 σ2 H2->aB K F ρ σ H F2 (ul ρ2) σ2 H2/\∀v r,cM K F2 ρ2 σ2 H2 ρ1 σ H1 v r->cM K F2 (ul ρ2) σ2 H2 ρ σ H v r
inductive tIt(K:PySem.W.Frag)(iv:Option Nat)(f:Ev)(σ:L2.St)(H:Hp)(R:It->Hp->Prop):Prop where|mk(F:Hp)(ρ:List Sl)(ds:List D)(ρ1:List Sl)(g:GS K F ρ σ H)(e:srcOf iv f ρ=.ok ds ρ1)(k:∀J F1 H1,Walk K F ρ σ H (aW ρ iv) J ds F1 ρ1 H1->R J H1)
section
variable{K:PySem.W.Frag}{F F1 H H1:Hp}{ρ ρ1:List Sl}{σ:L2.St}{ds:List D}{a:Addr}
theorem Cy{xs:List V}{F' H':Hp}(hq:iD K H' a xs)(r:aG K F' xs ds)(s:aF F' H')(k:Nat):(∀d,ds[k]?=some d->(Wv K a).go k H'/\∀x kh,(Wv K a).JC k H' x kh->∃F'',Ext F' H' F'' kh/\Rep K F'' x d)/\(ds.length<=k->(Wv K a).stop k H'):=by refine⟨fun d hd=>?_,fun h=>⟨xs,hq,by rw[r.length];exact h⟩⟩;obtain⟨w,h1,h2⟩:=r.get hd;refine⟨⟨xs,w,hq,h1⟩,?_⟩;rintro x kh⟨e,y⟩;subst e;have:=y xs hq;rw[h1]at this;cases this;exact⟨F',.refl s,h2⟩
theorem qZ{xs:List V}{F' H':Hp}(hq:dX K H' a xs)(r:aG K F' xs ds)(s:aF F' H')(k:Nat):(∀d,ds[k]?=some d->(Su K a).go k H'/\∀x kh,(Su K a).JC k H' x kh->∃F'',Ext F' H' F'' kh/\Rep K F'' x d)/\(ds.length<=k->(Su K a).stop k H'):=by refine⟨fun d hd=>?_,fun h=>⟨xs,hq,by rw[r.length];exact h⟩⟩;obtain⟨w,h1,h2⟩:=r.get hd;refine⟨⟨xs,w,hq,h1⟩,?_⟩;rintro x kh⟨e,y⟩;subst e;have:=y xs hq;rw[h1]at this;cases this;exact⟨F',.refl s,h2⟩
theorem vQ{ul:List Sl->List Sl}{d:D}(s:aB K F ρ σ H F1 ρ1 σ H1)(r:Rep K F1 v d)(hi:items d=some ds)(fin:∀F2 ρ2 σ2 H2,aB K F1 ρ1 σ H1 F2 ρ2 σ2 H2->aB K F ρ σ H F2 (ul ρ2) σ2 H2/\∀v r,cM K F2 ρ2 σ2 H2 ρ1 σ H1 v r->cM K F2 (ul ρ2) σ2 H2 ρ σ H v r):∃a,v=.ref a/\(((∃xs,dX K H1 a xs)/\Walk K F ρ σ H ul (Su K a) ds F1 ρ1 H1)\/((∃xs,iD K H1 a xs)/\Walk K F ρ σ H ul (Wv K a) ds F1 ρ1 H1)):=by cases d with|tup es=>cases hi;rw[Rep]at r;obtain⟨a,xs,rfl,h1,h2⟩:=r;exact⟨a,rfl,.inr ⟨⟨xs,aF.gn s.gs.sub h1⟩,s.gs,fun n k F' ρ' σ' H' s'=>Cy (aF.gn s'.gs.sub (aF.gn s'.bO h1)) (h2.mono s'.bO) s'.gs.sub k,fin⟩⟩|lst es=>cases hi;rw[Rep]at r;obtain⟨a,xs,rfl,h1,h2⟩:=r;exact⟨a,rfl,.inl ⟨⟨xs,s.gs.sub.seq h1⟩,s.gs,fun n k F' ρ' σ' H' s'=>qZ (s'.gs.sub.seq (s'.bO.seq h1)) (h2.mono s'.bO) s'.gs.sub k,fin⟩⟩|_=>cases hi
theorem tX{ul:List Sl->List Sl}(g:GS K F ρ1 σ H)(e:ρ1[i]?=some (.lent ds))(fin:∀F2 ρ2 σ2 H2,aB K F ρ1 σ H F2 ρ2 σ2 H2->aB K F ρ σ H F2 (ul ρ2) σ2 H2/\∀v r,cM K F2 ρ2 σ2 H2 ρ1 σ H v r->cM K F2 (ul ρ2) σ2 H2 ρ σ H v r):∃a,σ[i]?=some (some (.ref a))/\(∃xs,dX K H a xs)/\Walk K F ρ σ H ul (Su K a) ds F ρ1 H:=by obtain⟨a,xs,h1,h2,h3,h4⟩:=g.mz i _ ds e rfl;have hi:i<ρ1.length:=(dI e).1;refine⟨a,h1,⟨xs,dX.of h2⟩,g,fun n k F' ρ' σ' H' s'=>?_,fin⟩;obtain⟨z1,t,z2,z3⟩:=s'.lk i _ (by rw[getElem?_append_left hi];exact e) rfl;cases(show t=.lent ds from z3);rw[getElem?_append_left (by rw[<-g.len];exact hi),h1]at z1;obtain⟨a',ys,w1,w2,w3,w4⟩:=s'.gs.mz i _ ds z2 rfl;rw[z1]at w1;cases w1;exact qZ (dX.of w2) w4 s'.gs.sub k
end
section
variable{X:Cx}{c:Call}{n:Nat}{e a b d tg:Expr}{p pa pb pd:P}{pos:Pos}
theorem kE{t t':TI}(h:PI X tg e t)(i:∀σ H R,t' σ H R->t σ H R):PI X tg e t':=fun pins s σ H R I q=>h pins s σ H R I (i σ H R q)
def SI(X:Cx)(c:Call)(tg e:Expr)(p:P):Prop:=PI X tg e (tIt X.K (isVar p) (HH.ev c p))
theorem dG(h:SX X c e p):SI X c tg e p:=by unfold SI;cases hv:isVar p with|none=>refine kE (yC h.ev) ?_;rintro σ H R⟨F,ρ,ds,ρ1,g,e,k⟩;obtain⟨r,ρ2,e1,e2⟩:=aj e;have zz:=aD e2;clear e2;obtain⟨e2,e3⟩:=zz;subst e3;refine⟨F,ρ,r,_,g,e1,fun v F' H' s rr=>?_⟩;obtain⟨F2,s2,_,rp⟩:=s.cX rr;obtain⟨a,ha,hw⟩:=vQ (ul:=aW ρ none) s2 rp e2 fun F3 ρ3 σ3 H3 s3=>⟨s2.trans s3,fun v r rr=>rr.later s2⟩;exact⟨a,ha,hw.imp (fun⟨z,w⟩=>⟨z,k _ _ _ w⟩) (fun⟨z,w⟩=>⟨z,k _ _ _ w⟩)⟩|some i=>
   refine kE (yC (h.var i hv)) ?_;rintro σ H R⟨F,ρ,ds,ρ1,g,e,k⟩;unfold srcOf at e;dsimp only at e;split at e
   . rename_i b d q;have zz:=aD e;clear e;obtain⟨e2,e3⟩:=zz;subst e3;obtain⟨v,h1,h2⟩:=g.val i b d q;have fin:∀F2 ρ2 σ2 H2,aB X.K F ρ σ H F2 ρ2 σ2 H2->aB X.K F ρ σ H F2 (aW ρ (some i) ρ2) σ2 H2/\∀v r,cM X.K F2 ρ2 σ2 H2 ρ σ H v r->cM X.K F2 (aW ρ (some i) ρ2) σ2 H2 ρ σ H v r:=fun F2 ρ2 σ2 H2 s=>by unfold aW;dsimp only;rw[q];exact⟨s,fun _ _ z=>z⟩
     obtain⟨a,ha,hw⟩:=vQ (ul:=aW ρ (some i)) (.refl g) h2 e2 fin;exact⟨v,h1,a,ha,hw.imp (fun⟨z,w⟩=>⟨z,k _ _ _ w⟩) (fun⟨z,w⟩=>⟨z,k _ _ _ w⟩)⟩
   . rename_i b ds' q;cases e;have hi:i<ρ.length:=(dI q).1;have fin:∀F2 ρ2 σ2 H2,aB X.K F (ρ.set i (.lent ds)) σ H F2 ρ2 σ2 H2->aB X.K F ρ σ H F2 (aW ρ (some i) ρ2) σ2 H2/\∀v r,cM X.K F2 ρ2 σ2 H2 (ρ.set i (.lent ds)) σ H v r->cM X.K F2 (aW ρ (some i) ρ2) σ2 H2 ρ σ H v r:=fun F2 ρ2 σ2 H2 s=>by unfold aW;dsimp only;rw[q];exact aB.aW g q s
     obtain⟨a,h1,hx,w⟩:=tX (ul:=aW ρ (some i)) (g.lend q) (getElem?_set_self hi) fin;exact⟨_,h1,a,rfl,.inl ⟨hx,k _ _ _ w⟩⟩
   . rename_i ds' q;cases e;have fin:∀F2 ρ2 σ2 H2,aB X.K F ρ σ H F2 ρ2 σ2 H2->aB X.K F ρ σ H F2 (aW ρ (some i) ρ2) σ2 H2/\∀v r,cM X.K F2 ρ2 σ2 H2 ρ σ H v r->cM X.K F2 (aW ρ (some i) ρ2) σ2 H2 ρ σ H v r:=fun F2 ρ2 σ2 H2 s=>by unfold aW;dsimp only;rw[q];exact⟨s,fun _ _ z=>z⟩
     obtain⟨a,h1,hx,w⟩:=tX (ul:=aW ρ (some i)) g q fin;exact⟨_,h1,a,rfl,.inl ⟨hx,k _ _ _ w⟩⟩
   .cases e
theorem xP{F1 H1:Hp}{ρ1:List Sl}(s:aB K F ρ σ H F1 ρ1 σ H1)(i j:Int):Walk K F ρ σ H (aW ρ none) (Vb i (j-i).toNat) ((List.range (j-i).toNat).map fun(k:Nat)=>D.int (i+(k:Int))) F1 ρ1 H1:=by
 refine⟨s.gs,fun n k F' ρ' σ' H' s'=>⟨fun d hd=>?_,fun h=>?_⟩,fun F3 ρ3 σ3 H3 s3=>⟨s.trans s3,fun v r rr=>rr.later s⟩⟩;.rw[getElem?_map]at hd;obtain⟨m,e1,e2⟩:=map_some hd;obtain⟨h1,h2⟩:=dI e1;rw[List.getElem_range]at h2;subst h2;subst e2;rw[length_range]at h1;refine⟨h1,?_⟩;rintro x kh⟨q1,q2⟩;subst q1;subst q2;exact⟨F',.refl s'.gs.sub,bN _⟩
 .rw[length_map,length_range]at h;exact h
theorem fP(hx:x="range")(hg:Gl X x)(hm:X.mg x=none)(ha:SX X c a pa)(hs:starEach [a] X.env=[(false,eval a X.env)]:=by rfl):SI X c tg (.Call (.Name x p') [a] [] pos) (.sy (.con (.int 0)) pa):=by
 subst hx;obtain⟨ta,h1,h2⟩:=ha.cC;refine kE (ue hg hm (bK h1 dH hs) hs) ?_;rintro σ H R⟨F,ρ,ds,ρ1,g,e,k⟩;obtain⟨r,ρ2,e1,e2⟩:=aj e;have zz:=aD e2;clear e2;obtain⟨e2,e3⟩:=zz;subst e3;rw[HH.E21]at e1;obtain⟨xy,ρ3,e4,e5⟩:=aj e1;have zz:=aD e5;clear e5;obtain⟨e5,e6⟩:=zz;subst e6;obtain⟨y0,ρ5,e9,e10⟩:=aj e4;cases e10;obtain⟨i,f1,e5⟩:=bV e5;obtain⟨j,f2,e5⟩:=bV e5;obtain⟨⟨b1,b2,b3,b4⟩,e5⟩:=bF e5;have f1:i=0:=by cases f1;rfl
 subst f1;subst e5;cases e2;cases cQ f2;refine h2 g e9 fun v F' H' s pv=>⟨j,by rw[pv.int],by omega,by omega,?_⟩;have:=xP s 0 j;rw[sub_zero]at this;refine k _ F' H' ?_;rw[sub_zero];exact this
theorem Nj(hx:x="range")(hg:Gl X x)(hm:X.mg x=none)(ha:SX X c a pa)(hb:SX X c b pb)(hs:starEach [a,b] X.env=[(false,eval a X.env),(false,eval b X.env)]:=by rfl)(hs2:starEach [b] X.env=[(false,eval b X.env)]:=by rfl):SI X c tg (.Call (.Name x p') [a,b] [] pos) (.sy pa pb):=by subst hx;obtain⟨ta,tb,h1,h2,h3⟩:=ha.iw hb;refine kE (CV hg hm (bK h1 (bK h2 dH hs2) (by rw[hs,hs2])) hs hs2) ?_;rintro σ H R⟨F,ρ,ds,ρ1,g,e,k⟩;obtain⟨r,ρ2,e1,e2⟩:=aj e;have zz:=aD e2;clear e2;obtain⟨e2,e3⟩:=zz;subst e3;rw[HH.E21]at e1;obtain⟨xy,ρ3,e4,e5⟩:=aj e1;have zz:=aD e5;clear e5;obtain⟨e5,e6⟩:=zz;subst e6;obtain⟨i,f1,e5⟩:=bV e5;obtain⟨j,f2,e5⟩:=bV e5;obtain⟨⟨b1,b2,b3,b4⟩,e5⟩:=bF e5;subst e5;cases e2;refine h3 g e4 fun v u F' H' s pv pu=>⟨i,j,?_,by omega,k _ F' H' (xP s i j)⟩;have e1:=cQ f1;have e2:=cQ f2;rw[e1]at pv;rw[e2]at pu;rw[pv.int,pu.int]
end
section
variable{X:Cx}{c:Call}{n:Nat}{e a b d tg iter:Expr}{p pa pb pd:P}{pos:Pos}{body:List Stmt}{ss:List S}
def GX(K:PySem.W.Frag)(bd:List Sl->D->Option (List Sl))(g:TG):Prop:=∀(x:V)(d:D)(F:Hp)(ρ ρ':List Sl)(σ:L2.St)(H:Hp)(Q:L2.St->Hp->Prop),GS K F ρ σ H->Rep K F x d->bd ρ d=some ρ'->(∀σ',aB K F ρ σ H F ρ' σ' H->Q σ' H)->g x σ H Q
theorem ur(i:Nat):GX K (fun ρ d=>put ρ i (.val false d)) (jl i):=fun x d F ρ ρ' σ H Q g r h k=>k _ (aB.put (r:=.val d) (.refl g) r h)
theorem cW:∀(is:List Nat)(gs:Fp),(∀(xs:List V)(ds:List D)(F:Hp)(ρ ρ':List Sl)(σ:L2.St)(H:Hp)(Q:L2.St->Hp->Prop),GS K F ρ σ H->aG K F xs ds->putAll ρ is ds=some ρ'->(∀σ',aB K F ρ σ H F ρ' σ' H->Q σ' H)->gs xs σ H Q)->∀i,∀(xs:List V)(ds:List D)(F:Hp)(ρ ρ':List Sl)(σ:L2.St)(H:Hp)(Q:L2.St->Hp->Prop),GS K F ρ σ H->aG K F xs ds->putAll ρ (i::is) ds=some ρ'->(∀σ',aB K F ρ σ H F ρ' σ' H->Q σ' H)->FJ (jl i) gs xs σ H Q:=by intro is gs ih i xs ds F ρ ρ' σ H Q g r h k;cases ds with|nil=>simp[putAll]at h|cons d ds=>obtain⟨v,vs,rfl,h1,h2⟩:=r.cu;rw[putAll]at h;obtain⟨ρ1,e1,e2⟩:=bV h;have s1:=aB.put (r:=.val d) (.refl g) h1 e1;refine⟨v,vs,rfl,ih vs ds F ρ1 ρ' _ H _ s1.gs h2 e2 fun σ' s2=>k σ' (s1.trans s2)⟩
theorem jZ:∀(xs:List V)(ds:List D)(F:Hp)(ρ ρ':List Sl)(σ:L2.St)(H:Hp)(Q:L2.St->Hp->Prop),GS K F ρ σ H->aG K F xs ds->putAll ρ [] ds=some ρ'->(∀σ',aB K F ρ σ H F ρ' σ' H->Q σ' H)->Te xs σ H Q:=by intro xs ds F ρ ρ' σ H Q g r h k;cases ds with|nil=>rw[putAll]at h;cases h;exact⟨r.fK,k σ (.refl g)⟩|cons d ds=>simp[putAll]at h
theorem lB:∀{is:List Nat}{ds:List D}{ρ ρ':List Sl},putAll ρ is ds=some ρ'->ds.length=is.length|[],[],_,_,_=>rfl|[],_::_,_,_,h=>by simp[putAll]at h|_::_,[],_,_,h=>by simp[putAll]at h|i::is,d::ds,ρ,ρ',h=>by rw[putAll]at h;obtain⟨ρ1,e1,e2⟩:=bV h;simp[lB e2]
theorem nR{gs:Fp}(hm:m=is.length)(h:∀(xs:List V)(ds:List D)(F:Hp)(ρ ρ':List Sl)(σ:L2.St)(H:Hp)(Q:L2.St->Hp->Prop),GS K F ρ σ H->aG K F xs ds->putAll ρ is ds=some ρ'->(∀σ',aB K F ρ σ H F ρ' σ' H->Q σ' H)->gs xs σ H Q):GX K (fun ρ d=>cN ρ is false d) (Tr K m gs):=by intro x d F ρ ρ' σ H Q g r hb k;replace hb:cN ρ is false d=some ρ':=hb;cases d with|tup ds=>replace hb:putAll ρ is ds=some ρ':=hb;rw[Rep]at r;obtain⟨a,xs,rfl,h1,h2⟩:=r;exact⟨a,xs,rfl,aF.gn g.sub h1,by rw[h2.length,lB hb,hm],h xs _ F ρ ρ' σ H Q g h2 hb k⟩|_=>cases hb
theorem nP{g:TG}{one:Bool}(hp:PassesOwn (model X.prog X.w) X.A X.env X.xe)(hc:X.calm=true)(hi:SI X c tg iter p)(hg:PG X tg g)(hgo:GX X.K (fun ρ d=>cN ρ is one d) g)(hb:SB X c n body ss)(hs:∀x,foldedSetIterable iter X.env x=pure x:=by intro _;rfl):SS X c n (.For tg iter body [] pos) (.iY p is one ss):=by
 refine dD (Hf hp hc hi hg hb hs) ?_;rintro D σ H⟨F,ρ,fl,ρ',g0,e,k⟩;rw[HH.X14]at e;obtain⟨ds,ρ1,e1,e⟩:=aj e;obtain⟨fl',ρ2,e2,e⟩:=aj e;cases e;refine⟨F,ρ,ds,ρ1,g0,e1,fun J F1 H1 w=>?_⟩;have src:∀(i:Nat)(F':Hp)(ρ':List Sl)(σ':L2.St)(H':Hp),aB X.K F1 ρ1 σ H1 F' ρ' σ' H'->(∀d,ds[i]?=some d->J.go i H'/\∀x kh,J.JC i H' x kh->∃F'',Ext F' H' F'' kh/\Rep X.K F'' x d)/\(ds.length<=i->J.stop i H'):=fun i F' ρ' σ' H' s=>w.src 0 i F' ρ' σ' H' (by simpa using s);refine⟨fun i m σi Hi=>∃Fi ρi,aB X.K F1 ρ1 σ H1 Fi ρi σi Hi/\m=ds.length-i/\i<=ds.length/\iy is one (ik c n ss) (ds.drop i) ρi=.ok fl ρ2,⟨_,F1,ρ1,.refl w.gs,rfl,uW,e2⟩,?_⟩;rintro i m σi Hi⟨Fi,ρi,si,rfl,hle,ei⟩;obtain⟨s1,s2⟩:=src i Fi ρi σi Hi si;by_cases hlt:i<ds.length
 . right;have hd:ds[i]?=some ds[i]:=by simp[hlt]
   obtain⟨go,step⟩:=s1 _ hd;refine⟨go,fun σ' H'=>∃m',m'<ds.length-i/\∃Fi ρi,aB X.K F1 ρ1 σ H1 Fi ρi σ' H'/\m'=ds.length-(i+1)/\i+1<=ds.length/\iy is one (ik c n ss) (ds.drop (i+1)) ρi=.ok fl ρ2,fun σ' H' z=>z,fun x H' y=>?_⟩;obtain⟨F2,ext,rx⟩:=step x H' y;have si2:=si.trans (ext.stp si.gs);rw[drop_eq_getElem_cons hlt,iy]at ei;cases hbd:cN ρi is one ds[i]with|none=>rw[hbd]at ei;cases ei|some ρb=>rw[hbd]at ei;obtain⟨flb,ρc,eb,ei⟩:=aj ei;refine hgo x _ F2 ρi ρb σi H' _ si2.gs rx hbd fun σ2 sb=>?_;have si3:=si2.trans sb;refine⟨F2,ρb,flb,ρc,si3.gs,eb,fun F4 σ4 H4 s4=>?_⟩;have si4:=si3.trans s4;cases flb with|next=>exact⟨_,by omega,F4,ρc,si4,rfl,hlt,ei⟩|cont=>exact⟨_,by omega,F4,ρc,si4,rfl,hlt,ei⟩|brk=>cases ei;exact k F4 σ4 H4 (w.fin _ _ _ _ si4).1|ret r=>cases ei;intro v rr;obtain⟨z1,z2⟩:=w.fin _ _ _ _ si4;exact k F4 σ4 H4 z1 v (z2 v r (rr.later si3))
 . left;have hdr:ds.drop i=[]:=by rw[drop_eq_nil_iff];omega
   rw[hdr,iy]at ei;cases ei;exact⟨s2 (by omega),k Fi σi Hi (w.fin _ _ _ _ si).1⟩
theorem nG(i:Nat):(fun(ρ:List Sl)(d:D)=>cN ρ [i] true d)=fun ρ d=>put ρ i (.val false d):=by funext ρ d;rfl
theorem Li{pos':Pos}(hp:PassesOwn (model X.prog X.w) X.A X.env X.xe)(hc:X.calm=true)(hN:X.N.Nodup)(hx0:X.N[i]?=some x)(hx:Loc X.env.scope x)(hi:SI X c (.Name x pos') iter p)(hb:SB X c n body ss)(hs:∀x,foldedSetIterable iter X.env x=pure x:=by intro _;rfl)(hf:X.fn x=true\/X.env.scope.names.lookup x=some .local:=by first|exact .inl rfl|exact .inr rfl|assumption):SS X c n (.For (.Name x pos') iter body [] pos) (.iY p [i] true ss):=nP hp hc hi (aJ hN hx0 hx hf) (by rw[nG];exact ur i) hb hs
theorem yj(hp:PassesOwn (model X.prog X.w) X.A X.env X.xe)(ht:ST X c e p)(hb:SB X c n body ss):SS X c n (.While e body [] pos) (.whl p ss):=by refine dD (Hz hp ht hb) ?_;rintro D σ H⟨F,ρ,fl,ρ',g,e,k⟩;rw[HH.X15]at e;refine⟨fun m σi Hi=>∃Fi ρi,aB X.K F ρ σ H Fi ρi σi Hi/\su (iH (HH.ev c p)) (ik c n ss) m ρi=.ok fl ρ',⟨n,F,ρ,.refl g,e⟩,?_⟩;rintro m σi Hi⟨Fi,ρi,si,ei⟩;cases m with|zero=>rw[su]at ei;cases ei|succ m=>rw[su]at ei;obtain⟨b,ρ1,e1,ei⟩:=aj ei;refine⟨Fi,ρi,b,ρ1,si.gs,e1,fun F1 H1 s1=>?_⟩;have s2:=si.trans s1;cases b with|false=>rw[if_neg Bool.false_ne_true]at ei;cases ei;exact k F1 σi H1 s2|true=>rw[if_pos rfl]at ei;obtain⟨flb,ρc,eb,ei⟩:=aj ei;refine(show ∃N:L2.St->Hp->Prop,_/\_ from⟨fun σ' H'=>∃m',m'<m+1/\∃Fi ρi,aB X.K F ρ σ H Fi ρi σ' H'/\su (iH (HH.ev c p)) (ik c n ss) m' ρi=.ok fl ρ',fun σ' H' z=>z,F1,ρ1,flb,ρc,s2.gs,eb,fun F4 σ4 H4 s4=>?_⟩);have s5:=s2.trans s4;cases flb with|next=>exact⟨m,by omega,F4,ρc,s5,ei⟩|cont=>exact⟨m,by omega,F4,ρc,s5,ei⟩|brk=>cases ei;exact k F4 σ4 H4 s5|ret r=>cases ei;exact fun v rr=>k F4 σ4 H4 s5 v (rr.later s2)
end
section
variable{X:Cx}{c:Call}{n:Nat}{e elt tg iter:Expr}{p ps pe:P}{pos:Pos}{scope:Scope}{N':List Str}{ifs:List Expr}
theorem Hb{t t':TE}(h:PE X e t)(i:∀σ H Q,σ.length=X.N.length->t' σ H Q->t σ H Q):PE X e t':=fun pins s σ H Q I q=>h pins s σ H Q I (i σ H Q I.len q)
theorem Ig{st:Stmt}{t t':TS}(h:PS X st t)(i:∀D σ H,σ.length=X.N.length->t' D σ H->t D σ H):PS X st t':=fun pins s σ H D I q=>h pins s σ H D I (i D σ H I.len q)
def kO(K:PySem.W.Frag)(m:Nat)(is:List Nat)(one:Bool)(g:TG):Prop:=∀(x:V)(d:D)(F:Hp)(ρ ρ':List Sl)(σ:L2.St)(H:Hp)(Q:L2.St->Hp->Prop),GS K F ρ σ H->Rep K F x d->cN ρ is one d=some ρ'->(∀σ',aB K F ρ σ H F ρ' σ' H->σ'.take m=σ.take m->Q σ' H)->g x σ H Q
theorem take_set{α:Type}{l:List α}{a:α}(h:m<=i):(l.set i a).take m=l.take m:=by rw[List.take_set_of_le h]
theorem cP(h:m<=i):kO K m [i] true (jl i):=fun x d F ρ ρ' σ H Q g r hb k=>k _ (aB.put (r:=.val d) (.refl g) r hb) (take_set h)
def Mp(K:PySem.W.Frag)(m:Nat)(is:List Nat)(gs:Fp):Prop:=∀(xs:List V)(ds:List D)(F:Hp)(ρ ρ':List Sl)(σ:L2.St)(H:Hp)(Q:L2.St->Hp->Prop),GS K F ρ σ H->aG K F xs ds->putAll ρ is ds=some ρ'->(∀σ',aB K F ρ σ H F ρ' σ' H->σ'.take m=σ.take m->Q σ' H)->gs xs σ H Q
theorem bY{gs:Fp}(hi:m<=i)(ih:Mp K m is gs):Mp K m (i::is) (FJ (jl i) gs):=by intro xs ds F ρ ρ' σ H Q g r h k;cases ds with|nil=>simp[putAll]at h|cons d ds=>obtain⟨v,vs,rfl,h1,h2⟩:=r.cu;rw[putAll]at h;obtain⟨ρ1,e1,e2⟩:=bV h;have s1:=aB.put (r:=.val d) (.refl g) h1 e1;exact⟨v,vs,rfl,ih vs ds F ρ1 ρ' _ H _ s1.gs h2 e2 fun σ' s2 z=>k σ' (s1.trans s2) (z.trans (take_set hi))⟩
theorem iW:Mp K m [] Te:=by intro xs ds F ρ ρ' σ H Q g r h k;cases ds with|nil=>rw[putAll]at h;cases h;exact⟨r.fK,k σ (.refl g) rfl⟩|cons d ds=>simp[putAll]at h
theorem iI{gs:Fp}{l:Nat}(hm:l=is.length)(h:Mp K m is gs):kO K m is false (Tr K l gs):=by intro x d F ρ ρ' σ H Q g r hb k;cases d with|tup ds=>replace hb:putAll ρ is ds=some ρ':=hb;rw[Rep]at r;obtain⟨a,xs,rfl,h1,h2⟩:=r;exact⟨a,xs,rfl,aF.gn g.sub h1,by rw[h2.length,lB hb,hm],h xs _ F ρ ρ' σ H Q g h2 hb k⟩|_=>cases hb
def SQ(X:Cx)(c:Call)(ifs:List Expr)(t:Option P):Prop:=Tg X ifs (Ec X.K (qF c t))
theorem cj:SQ X c [] none:=fun pins s σ H Q I⟨F,ρ,k,ρ',g,e,q⟩=>by rw[qF]at e;cases e;exact Nk pins s σ H Q I (q F H (.refl g))
theorem Bp(h:ST X c e p):SQ X c [e] (some p):=fun pins s σ H Q I⟨F,ρ,k,ρ',g,e,q⟩=>by rw[qF]at e;exact Lx h pins s σ H Q I ⟨F,ρ,k,ρ',g,e,q⟩
theorem aB.G7{F1 H1:Hp}{ρ1:List Sl}{σ1:L2.St}{Da:Addr}{o:HO}(s:aB K F ρ σ H F1 ρ1 σ1 H1)(h:H Da=none)(hf:F1 Da=none)(ho:¬ Own ρ1 σ1 Da):aB K F ρ σ H F1 ρ1 σ1 (upd H1 Da o):=by
 refine⟨⟨fun b u e=>?_,s.gs.len,s.gs.val,fun i t ds e e'=>?_,s.gs.dis⟩,s.bO,s.xV,fun b u e n=>?_,s.vN,s.len,s.lk⟩
 . have:b≠Da:=by rintro rfl;rw[hf]at e;cases e
   rw[aC this];exact s.gs.sub b u e
 . obtain⟨a,xs,q1,q2,q3,q4⟩:=s.gs.own i t ds e e';have:a≠Da:=by rintro rfl;exact ho ⟨i,⟨t,ds,e,e'⟩,q1⟩
   exact⟨a,xs,q1,by rw[aC this];exact q2,q3,q4⟩
 . have:b≠Da:=by rintro rfl;rw[h]at e;cases e
   rw[aC this];exact s.keep b u e n
theorem rB{ρ1 ρ2:List Sl}{ul:List Sl->List Sl}{ti:TI}{one:Bool}{test:List Sl->Res Bool}{el:Ev}{g:TG}{Q:VK}{xs:List D}(hm:σ.length=m)(hgo:kO K m is one g)(hti:∀R:It->Hp->Prop,(∀J F1 H1,Walk K F ρ σ H ul J ds F1 ρ1 H1->R J H1)->ti σ H R)(hlim:ds.length<=lim)(e2:turns is one test el ds [] (ρ1++replicate n .aO)=.ok xs ρ2)(k:∀v F' H',aB K F ρ σ H F' (ul (ρ2.take ρ1.length)) σ H'->cM K F' (ul (ρ2.take ρ1.length)) σ H' ρ σ H v (.own xs)->Q v H'):ud n ti g (Ec K test) (vD K el) σ H Q:=by
 refine hti _ fun J F1 H1 w Da CQ=>?_;have hl1:ρ1.length=σ.length:=w.gs.len;have gm:=w.gs.more (n:=n) (τ:=replicate n none) (by simp);have fD:F1 Da=none:=by cases q:F1 Da with|none=>rfl|some o=>rw[w.gs.sub Da o q]at CQ;cases CQ
 have nO:¬ Own (ρ1++replicate n .aO) (σ++replicate n none) Da:=fun⟨i,⟨t,dt,q1,q2⟩,q3⟩=>by obtain⟨a,ys,z1,z2,_⟩:=gm.own i t dt q1 q2;rw[q3]at z1;cases z1;rw[CQ]at z2;cases z2
 refine⟨fun i mm ys σi Hi=>∃Fi ρi acc,aB K F1 (ρ1++replicate n .aO) (σ++replicate n none) H1 Fi ρi σi Hi/\σi.take m=σ/\Hi Da=some (.lst ys)/\Fi Da=none/\¬ Own ρi σi Da/\aG K Fi ys acc/\acc.length<=i/\mm=ds.length-i/\i<=ds.length/\turns is one test el (ds.drop i) acc ρi=.ok xs ρ2,⟨_,F1,_,[],(aB.refl gm).G7 CQ fD nO,by rw[List.take_append_of_le_length (by omega),List.take_of_length_le (by omega)],aM,fD,nO,.nil,uW,rfl,uW,e2⟩,?_⟩;rintro i mm ys σi Hi⟨Fi,ρi,acc,si,hσ,hD,hF,hO,rs,hacc,rfl,hle,ei⟩;refine⟨hD,?_⟩--what stays of the new list through a step
 have stay:∀{F2 H2:Hp}{ρ3:List Sl}{σ2:L2.St},aB K Fi ρi σi Hi F2 ρ3 σ2 H2->H2 Da=some (.lst ys)/\F2 Da=none/\¬ Own ρ3 σ2 Da:=fun{F2 H2 ρ3 σ2}s=>by
  refine⟨s.keep Da _ hD hO,?_,fun o=>?_⟩;.cases q:F2 Da with|none=>rfl|some o=>
      rcases s.xV Da hF (by rw[q];simp)with z|z;.exact absurd z hO
      .exact(Jo hD z).elim
  . rcases s.vN Da o with z|z;.exact hO z
    .rw[hD]at z;cases z
 obtain⟨s1,s2⟩:=w.src n i Fi ρi σi Hi si;by_cases hlt:i<ds.length
 . right;have hd:ds[i]?=some ds[i]:=by simp[hlt]
   obtain⟨go,step⟩:=s1 _ hd;refine⟨go,fun x H2 y=>?_⟩;obtain⟨F2,ext,rx⟩:=step x H2 y;have t2:=ext.stp si.gs;rw[drop_eq_getElem_cons hlt,turns]at ei;cases hbd:cN ρi is one ds[i]with|none=>rw[hbd]at ei;cases ei|some ρb=>rw[hbd]at ei;obtain⟨bb,ρc,eb,ei⟩:=aj ei;refine hgo x _ F2 ρi ρb σi H2 _ t2.gs rx hbd fun σ2 sb htk=>?_;have t3:=t2.trans sb;refine⟨F2,ρb,bb,ρc,t3.gs,eb,fun F4 H4 s4=>?_⟩;have t4:=t3.trans s4;cases bb with|false=>rw[if_neg Bool.false_ne_true]at ei;obtain⟨y1,y2,y3⟩:=stay t4;exact⟨_,by omega,F4,ρc,acc,si.trans t4,htk.trans hσ,y1,y2,y3,rs.mono t4.bO,by omega,rfl,hlt,ei⟩|true=>
       rw[if_pos rfl]at ei;obtain⟨re,ρe,ee,ei⟩:=aj ei;refine(show vD K el σ2 H4 _ from⟨F4,ρc,re,ρe,t4.gs,ee,fun v F5 H5 s5 rr=>?_⟩);obtain⟨F6,s6,_,rp⟩:=s5.cX rr;have t6:=t4.trans s6;obtain⟨y1,y2,y3⟩:=stay t6;have hlen:ys.length<sizeLine:=by have h1:=rs.length;have h2:lim=sizeLine:=rfl;omega
       exact⟨y1,hlen,_,by omega,F6,ρe,acc++[re.d],(si.trans t6).G7 CQ y2 y3,htk.trans hσ,aM,y2,y3,(rs.mono t6.bO).append (.cons rp .nil),by simp;omega,rfl,hlt,ei⟩
 . left;have hdr:ds.drop i=[]:=by rw[drop_eq_nil_iff];omega
   rw[hdr,turns]at ei;cases ei;refine⟨s2 (by omega),?_⟩;obtain⟨l1,l2⟩:=aB.less (m:=ρ1.length) rfl w.gs (by simp) si;have hst:σi.take ρ1.length=σ:=by rw[hl1,hm];exact hσ
   rw[hst]at l1;have rr:cM K Fi ρ2 σi Hi (ρ1++replicate n .aO) (σ++replicate n none) H1 (.ref Da) (.own xs):=⟨Da,ys,rfl,hD,hF,rs,hO,.inr CQ⟩;have Qh:=l2 _ _ rr;rw[hst]at Qh;obtain⟨z1,z2⟩:=w.fin _ _ _ _ l1;exact k _ Fi Hi z1 (z2 _ _ Qh)
theorem Ah{iv:Option Nat}{f:Ev}{one:Bool}{test:List Sl->Res Bool}{el:Ev}{g:TG}{Q:VK}{r:R}{ρ':List Sl}(hm:σ.length=m)(hgo:kO K m is one g)(g0:GS K F ρ σ H)(e:((srcOf iv f ρ).bind fun ds ρ₁=>if ds.length<=lim then(turns is one test el ds [] (ρ₁++replicate n .aO)).bind fun xs ρ₂=>Res.ok (R.own xs) (aW ρ iv (ρ₂.take ρ₁.length))else .stuck)=.ok r ρ')(k:∀v F' H',aB K F ρ σ H F' ρ' σ H'->cM K F' ρ' σ H' ρ σ H v r->Q v H'):ud n (tIt K iv f) g (Ec K test) (vD K el) σ H Q:=by
 obtain⟨ds,ρ1,e1,e⟩:=aj e;split at e;.rename_i hlim;obtain⟨xs,ρ2,e2,e⟩:=aj e;cases e;exact rB hm hgo (fun R h=>⟨F,ρ,ds,ρ1,g0,e1,h⟩) hlim e2 k
 .cases e
theorem fc{g:TG}{one:Bool}{t:Option P}(hc:X.calm=true)(ok:dY X scope N' n)(hi:SI X c tg iter ps)(hg:∀cl C s₀ H₀ ex,PG (ou X scope N' cl C s₀ H₀ ex) tg g)(hgo:kO X.K X.N.length is one g)(ht:∀cl C s₀ H₀ ex,SQ (ou X scope N' cl C s₀ H₀ ex) c ifs t)(he:∀cl C s₀ H₀ ex,SX (ou X scope N' cl C s₀ H₀ ex) c elt pe)(hs:∀x,foldedSetIterable iter X.env x=pure x:=by intro _;rfl):SX X c (.ListComp elt [⟨tg,iter,ifs,0⟩] scope pos) (.comp ps n is one t pe):=by refine⟨Hb (Ai (tt:=Ec X.K (qF c t)) (te:=vD X.K (HH.ev c pe)) hc ok hi hg ht (fun cl C s₀ H₀ ex=>(he cl C s₀ H₀ ex).ev) hs) ?_,fun i h=>by cases h⟩;rintro σ H Q hl⟨F,ρ,r,ρ',g0,e,k⟩;rw[HH.E20]at e;exact Ah hl hgo g0 e k
theorem pH{pos' spos:Pos}{nn:Nat}{g:TG}{one:Bool}{t:Option P}(hc:X.calm=true)(hN:X.N.Nodup)(hx0:X.N[i]?=some x)(hx:Loc X.env.scope x)(ok:dY X scope N' n)(hi:SI X c tg iter ps)(hg:∀cl C s₀ H₀ ex,PG (ou X scope N' cl C s₀ H₀ ex) tg g)(hgo:kO X.K X.N.length is one g)(ht:∀cl C s₀ H₀ ex,SQ (ou X scope N' cl C s₀ H₀ ex) c ifs t)(he:∀cl C s₀ H₀ ex,SX (ou X scope N' cl C s₀ H₀ ex) c elt pe)(hsw:swapsWith (.ListComp elt [⟨tg,iter,ifs,0⟩] scope pos) (some (.Name x pos')) spos.line X.env=pure true:=by rfl)(hs:∀x,foldedSetIterable iter X.env x=pure x:=by intro _;rfl)(hf:X.fn x=true\/X.env.scope.names.lookup x=some .local:=by first|exact .inl rfl|exact .inr rfl|assumption):SS X c nn (.Assign [.Name x pos'] (.ListComp elt [⟨tg,iter,ifs,0⟩] scope pos) spos) (.asg i (.comp ps n is one t pe)):=by refine Ig (vd (tt:=Ec X.K (qF c t)) (te:=vD X.K (HH.ev c pe)) hc hN hx0 hx ok hi hg ht (fun cl C s₀ H₀ ex=>(he cl C s₀ H₀ ex).ev) hsw hs hf) ?_;rintro D σ H hl⟨F,ρ,fl,ρ',g0,e,k⟩;rw[HH.X6]at e;obtain⟨r,ρ1,e1,e⟩:=aj e;obtain⟨ρ2,ρ3,e2,e⟩:=aj e;cases e;have zz:=aD e2;clear e2;obtain⟨e2,e3⟩:=zz;rw[HH.E20]at e1;exact Ah hl hgo g0 e1 fun v F1 H1 s1 rr=>k F1 _ H1 (s1.put rr e2)
end
section
variable{X:Cx}{c:Call}{n:Nat}{e a b d:Expr}{p pa pb pd:P}{pos:Pos}{es:List Expr}{ps:List P}
noncomputable def tyN:D->String|.non=>"NoneType"|.bl _=>"bool"|.int _=>"int"|.str _=>"str"|.tup _=>"tuple"|.lst _=>"list"|.dU _=>"dict"|.dv _ _=>"dict"
noncomputable def zr:Ty->String|.none=>"NoneType"|.bool=>"bool"|.int=>"int"|.str=>"str"|.tuple=>"tuple"|.list=>"list"
theorem Ou(K:PySem.W.Frag)(t:Ty)(d:D):PySem.W.kitOne K (.type (tyN d)) (.type (zr t))=some (cz t d):=by cases t<;>cases d<;>rfl
theorem Bb(K:PySem.W.Frag)(d:D):∀ts:List Ty,PySem.W.kitAny K (.type (tyN d)) (ts.map fun t=>Value.type (zr t))=some (ts.any fun t=>cz t d)|[]=>rfl|t::ts=>by rw[map_cons,PySem.W.kitAny,Ou,any_cons];cases cz t d with|true=>rfl|false=>rw[Bool.false_or];exact Bb K d ts
theorem Ol{pins:List (Addr×Obj)}{x:V}{u:Value}{dt:D}(I:L2.Inv X pins σ H s)(sm:aF F H)(px:dw X.K F H x dt)(rx:RelV x u):(∃Hq,PySem.W.KitX X.K u (.type (tyN dt)) Hq/\Hq s.heap)/\u≠.builtin "__main__.__loader__#opaque":=by cases dt with|non=>rw[px.non]at rx;cases rx;exact⟨⟨_,PySem.W.kitx_none,trivial⟩,nofun⟩|bl y=>rw[px.bl]at rx;cases rx;exact⟨⟨_,PySem.W.kitx_bool,trivial⟩,nofun⟩|int i=>rw[px.int]at rx;obtain⟨t,rfl⟩:=rx;exact⟨⟨_,PySem.W.kitx_int,trivial⟩,nofun⟩|str y=>rw[px.str]at rx;obtain⟨t,rfl⟩:=rx;exact⟨⟨_,PySem.W.kitx_str,trivial⟩,nofun⟩|tup ds=>obtain⟨q,xs,rfl,hq,_⟩:=px.tup sm;cases rx;obtain⟨its,_,⟨o,h1,h2,_⟩,_⟩:=I.tuple hq;exact⟨⟨_,PySem.W.kitx_tuple,⟨o,h1,h2⟩⟩,nofun⟩|lst ds=>obtain⟨q,xs,rfl,hq,_⟩:=px.lst sm;cases rx;obtain⟨its,_,pl,_⟩:=I.list hq;obtain⟨o,h1,h2,_⟩:=pl.isList;exact⟨⟨_,PySem.W.kitx_list,⟨o,h1,h2⟩⟩,nofun⟩|dU m=>obtain⟨q,_,rfl,hq⟩:=px.dU sm;cases rx;obtain⟨o,h1,h2⟩:=Gd I hq;exact⟨⟨_,kitx_dict,⟨o,h1,h2⟩⟩,nofun⟩|dv ks ds=>obtain⟨q,_,vs,rfl,hq,_⟩:=px.dv sm;cases rx;obtain⟨o,h1,h2⟩:=Io I hq;exact⟨⟨_,kitx_dict,⟨o,h1,h2⟩⟩,nofun⟩
theorem Q3(t:Ty):dz X (.builtin "isinstance") (fun xs H Q=>∃x F dt,xs=[x,.ty (zr t)]/\aF F H/\dw X.K F H x dt/\Q (.bl (cz t dt)) H):=by rintro pins s σ H xs us Q I r⟨x,F,dt,hx,sm,px,q⟩;subst hx;obtain⟨u,w',rfl,rx,rt⟩:=r.two;cases(show w'=Value.type (zr t)from rt);obtain⟨⟨Hq,Z,hz⟩,hne⟩:=Ol I sm px rx;exact PySem.W.kia_one Z I.Pu hz (Ou _ t dt) hne fun tk=>⟨.bl _,H,I.tok tk,rfl,q⟩
theorem Af:∀{ts:List Ty}{its:List Value},Vals (ts.map fun t=>V.ty (zr t)) its->its=ts.map fun t=>Value.type (zr t)|[],_,h=>h.zero|t::ts,_,.cons r1 r2=>by rw[map_cons,<-Af r2,show _=_ from r1]
theorem M4(ts:List Ty):dz X (.builtin "isinstance") (fun xs H Q=>∃x F dt q,xs=[x,.ref q]/\H q=some (.tup (ts.map fun t=>V.ty (zr t)))/\aF F H/\dw X.K F H x dt/\Q (.bl (ts.any fun t=>cz t dt)) H):=by rintro pins s σ H xs us Q I r⟨x,F,dt,q,hx,hq,sm,px,k⟩;subst hx;obtain⟨u,w',rfl,rx,rt⟩:=r.two;cases(show w'=Value.ref q from rt);obtain⟨⟨Hq,Z,hz⟩,hne⟩:=Ol I sm px rx;obtain⟨_,its,rv,⟨⟨cls,dd,data,sl⟩,ho,hc,n,hd⟩⟩:=(show bI X.prog X.w H s.heap q (.tup _)from I.hok q _ hq);simp only at hc hd;subst hc hd;have hits:its=ts.map fun t=>Value.type (zr t):=Af rv;subst hits;exact PySem.W.kia_tup Z I.Pu hz ho (Bb _ dt ts) hne fun tk=>⟨.bl _,H,I.tok tk,rfl,k⟩
theorem wN:bootBuiltins "isinstance"=some (.builtin "isinstance"):=by decide+kernel
theorem jm{y:Str}{p2:Pos}(t:Ty)(hx:x="isinstance")(hg:Gl X x)(hm:X.mg x=none)(ha:SX X c a pa)(hgy:Gl X y)(hmy:X.mg y=none)(hy:bootBuiltins y=some (.type (zr t)))(hny:y≠"__name__":=by decide)(hdy:(y==("__debug__":Str))=false:=by decide)(hs:starEach [a,.Name y p2] X.env=(false,eval a X.env)::starEach [.Name y p2] X.env:=by rfl):SX X c (.Call (.Name x p') [a,.Name y p2] [] pos) (.inst [t] pa):=by subst hx;obtain⟨ta,h1,h2⟩:=ha.cC;refine⟨dB (dJ (Q3 t) hg hm wN (bK h1 (bK (Cw (v:=.ty (zr t)) hgy hmy hy rfl hny hdy) dH) hs) (he:=hs)) ?_,fun i h=>by cases h⟩;rintro σ H Q⟨F,ρ,r,ρ',g,e,k⟩;rw[HH.E19]at e;obtain⟨dt,ρ1,e1,e⟩:=aj e;cases e;refine h2 g e1 fun v F' H' s pv=>⟨v,F',dt,rfl,s.gs.sub,pv,k _ F' H' s ?_⟩;show Rep X.K F' _ _;rw[any_cons,List.any_nil,Bool.or_false];exact fL _
def KZ(X:Cx)(ts:List Ty)(es:List Expr):Prop:=PA X es (fun _ H Q=>Q (ts.map fun t=>V.ty (zr t)) H)
theorem KN:KZ X [] []:=p8 dH fun _ _ _ h=>h
theorem v5{y:Str}{p2:Pos}{ts:List Ty}(t:Ty)(hgy:Gl X y)(hmy:X.mg y=none)(hy:bootBuiltins y=some (.type (zr t)))(h:KZ X ts es)(hny:y≠"__name__":=by decide)(hdy:(y==("__debug__":Str))=false:=by decide)(hs:starEach (.Name y p2::es) X.env=(false,eval (.Name y p2) X.env)::starEach es X.env:=by rfl):KZ X (t::ts) (.Name y p2::es):=p8 (bK (Cw (v:=.ty (zr t)) hgy hmy hy rfl hny hdy) h hs) fun _ _ _ h=>h
theorem Je{p2:Pos}{k2}{ts:List Ty}(hx:x="isinstance")(hg:Gl X x)(hm:X.mg x=none)(ha:SX X c a pa)(ht:KZ X ts es)(hz:ts.length<=sizeLine:=by decide)(hs:starEach [a,.Tuple es k2 p2] X.env=(false,eval a X.env)::starEach [.Tuple es k2 p2] X.env:=by rfl):SX X c (.Call (.Name x p') [a,.Tuple es k2 p2] [] pos) (.inst ts pa):=by
 subst hx;obtain⟨ta,h1,h2⟩:=ha.cC;refine⟨dB (dJ (M4 ts) hg hm wN (bK h1 (bK (HX ht) dH) hs) (he:=hs)) ?_,fun i h=>by cases h⟩;rintro σ H Q⟨F,ρ,r,ρ',g,e,k⟩;rw[HH.E19]at e;obtain⟨dt,ρ1,e1,e⟩:=aj e;cases e;refine h2 g e1 fun v F' H' s pv=>⟨by rw[length_map];exact hz,fun q hq=>?_⟩;have fq:F' q=none:=by cases z:F' q with|none=>rfl|some o=>rw[s.gs.sub q o z]at hq;cases hq
 have sm:aF H' (upd H' q (.tup (ts.map fun t=>V.ty (zr t)))):=aF.bW hq;have ext:Ext F' H' F' (upd H' q (.tup (ts.map fun t=>V.ty (zr t)))):=⟨sm,.refl _,s.gs.sub.trans sm,fun _ x y=>absurd x y⟩;refine⟨v,F',dt,q,rfl,aM,s.gs.sub.trans sm,pv.mono (.refl _) (fun a xs _ z=>sm a _ z),k _ F' _ (s.trans (ext.stp s.gs)) (show Rep X.K F' _ _ from fL _)⟩
inductive rBn(K:PySem.W.Frag)(f:List D->Option R)(xs:List V)(H:Hp)(Q:VK):Prop where|mk(F:Hp)(ds:List D)(r:R)(sm:aF F H)(rs:aG K F xs ds)(he:f ds=some r)(k:∀v F' H',Ext F H F' H'->cg K F' H' H v r->Q v H')
theorem Od{E:Expr}{f:List D->Option R}{q:P}(hp:∀{t},PA X es t->PE X E (tCB (rBn X.K f) t))(ha:SA X c es ps)(hq:∀ρ,HH.ev c q ρ=(evs c ps ρ).bind fun ds ρ=>lift (f ds) ρ)(hv:isVar q=none):SX X c E q:=by refine⟨dB (hp ha.1) ?_,fun i h=>by rw[hv]at h;cases h⟩;rintro σ H Q⟨F,ρ,r,ρ',g,e,k⟩;rw[hq]at e;obtain⟨ds,ρ1,e1,e2⟩:=aj e;have zz:=aD e2;clear e2;obtain⟨e2,e3⟩:=zz;subst e3;exact⟨F,ρ,ds,ρ1,g,e1,fun vs F' H' s rs=>⟨F',ds,r,s.gs.sub,rs,e2,fun w F2 H2 x rn=>k w F2 H2 (s.trans (x.stp s.gs)) (.later s (rn.pq s.gs))⟩⟩
theorem Oe{xs:List V}{i j:Int}(h:aG K F xs [.int i,.int j]):xs=[.int i,.int j]:=by obtain⟨v,r,rfl,h1,h2⟩:=h.cu;obtain⟨u,r2,rfl,h3,h4⟩:=h2.cu;rw[Rep]at h1 h3;rw[h1,h3,h4.fK]
theorem inv2{f:Ys}{g:Int->Int->Int}{r:R}(h0:blt f []=none)(h1:∀a,blt f [a]=none)(h3:∀a b c l,blt f (a::b::c::l)=none)(hn:∀a b,gG a=false->blt f [a,b]=none)(hm:∀i b,gG b=false->blt f [.int i,b]=none)(hi:∀i j,blt f [.int i,.int j]=some (.val (.int (g i j))))(he:blt f ds=some r):∃i j,ds=[.int i,.int j]/\r=.val (.int (g i j)):=by
 rcases ds with _|⟨a,_|⟨b,_|⟨c,l⟩⟩⟩;.rw[h0]at he;cases he
 .rw[h1]at he;cases he
 . by_cases ha:gG a=true
   . obtain⟨i,rfl⟩:∃i,a=.int i:=by cases a<;>first|exact⟨_,rfl⟩|cases ha
     by_cases hb:gG b=true
     . obtain⟨j,rfl⟩:∃j,b=.int j:=by cases b<;>first|exact⟨_,rfl⟩|cases hb
       rw[hi]at he;cases he;exact⟨i,j,rfl,rfl⟩
     .rw[hm i b (by simpa using hb)]at he;cases he
   .rw[hn a b (by simpa using ha)]at he;cases he
 .rw[h3]at he;cases he
theorem QT(hc:X.calm=true):dz X (.builtin "min") (rBn X.K (blt .min2)):=by rintro pins s σ H xs us Q I r⟨F,ds,r',sm,rs,he,k⟩;obtain⟨i,j,rfl,rfl⟩:=inv2 (g:=fun i j=>if j<i then j else i) rfl (fun a=>by cases a<;>rfl) (fun a b c l=>by cases a<;>first|rfl|(cases b<;>rfl)) (fun a b h=>by cases a<;>first|rfl|cases h) (fun i b h=>by cases b<;>first|rfl|cases h) (fun _ _=>rfl) he;rw[Oe rs]at r;exact Et hc pins s σ H _ us Q I r ⟨_,_,rfl,cg.cV sm (bN _) k⟩
theorem QB(hc:X.calm=true):dz X (.builtin "max") (rBn X.K (blt .max2)):=by rintro pins s σ H xs us Q I r⟨F,ds,r',sm,rs,he,k⟩;obtain⟨i,j,rfl,rfl⟩:=inv2 (g:=fun i j=>if i<j then j else i) rfl (fun a=>by cases a<;>rfl) (fun a b c l=>by cases a<;>first|rfl|(cases b<;>rfl)) (fun a b h=>by cases a<;>first|rfl|cases h) (fun i b h=>by cases b<;>first|rfl|cases h) (fun _ _=>rfl) he;rw[Oe rs]at r;exact DK hc pins s σ H _ us Q I r ⟨_,_,rfl,cg.cV sm (bN _) k⟩
theorem boot_min:bootBuiltins "min"=some (.builtin "min"):=by decide+kernel
theorem boot_max:bootBuiltins "max"=some (.builtin "max"):=by decide+kernel
theorem BK(hx:x="min")(hc:X.calm=true)(hg:Gl X x)(hm:X.mg x=none)(ha:SA X c [a,b] [pa,pb])(hs:starEach [a,b] X.env=(false,eval a X.env)::starEach [b] X.env:=by rfl)(hpl:(backTo pos (starEach [b] X.env)).any (·.1)=false:=by rfl):SX X c (.Call (.Name x p') [a,b] [] pos) (.blt .min2 [pa,pb]):=by subst hx;exact Od (fun h=>dJ (QT hc) hg hm boot_min h (he:=hs) (hpl:=hpl)) ha (fun ρ=>rfl) rfl
theorem Mz(hx:x="max")(hc:X.calm=true)(hg:Gl X x)(hm:X.mg x=none)(ha:SA X c [a,b] [pa,pb])(hs:starEach [a,b] X.env=(false,eval a X.env)::starEach [b] X.env:=by rfl)(hpl:(backTo pos (starEach [b] X.env)).any (·.1)=false:=by rfl):SX X c (.Call (.Name x p') [a,b] [] pos) (.blt .max2 [pa,pb]):=by subst hx;exact Od (fun h=>dJ (QB hc) hg hm boot_max h (he:=hs) (hpl:=hpl)) ha (fun ρ=>rfl) rfl
end
section
variable{X:Cx}{c:Call}{n:Nat}{e a b d:Expr}{p pa pb pd:P}{pos:Pos}{es:List Expr}{ps:List P}
theorem By(g:GS K F ρ σ H)(h:Fg ρ i=some ds):∃a xs,σ[i]?=some (some (V.ref a))/\dX K H a xs:=by
 unfold Fg at h;split at h;.rename_i q;cases h;obtain⟨v,h1,h2⟩:=g.pk q;obtain⟨a,xs,rfl,h3,_⟩:=h2.lst g.sub;exact⟨a,xs,h1,h3⟩
 .cases h
theorem KD{k:Nat}{px tpos:Pos}(hN:X.N[k]?=some x)(hv:xg X.env.scope x)(hi:SX X c b pb)(he:SX X c e p)(ha:∀ v,assign (.Subscript (.Name x px) b tpos) X.env v=(do
  let ov<-holding [v] (eval (.Name x px) X.env)let iv<-holding [v,ov] (eval b X.env)standAt tpos
  holding [v,ov,iv] (setItem ov iv v)release [v,ov,iv] []):=by intro _;rfl)(hs:swapsWithSole [.Subscript (.Name x px) b tpos] e pos.line X.env=pure false:=by rfl)(hw:swappedStores [.Subscript (.Name x px) b tpos] e X.env=pure none:=by rfl)(h1:(assignEach [.Subscript (.Name x px) b tpos] X.env).map (·.2)=[assign (.Subscript (.Name x px) b tpos) X.env]:=by rfl)(hd:(x==("__debug__":Str))=false:=by decide)(hcd:(x==("__classdict__":Str))=false:=by decide):SS X c n (.Assign [.Subscript (.Name x px) b tpos] e pos) (.Nz k pb p):=by
 obtain⟨ti,hi1,hi2⟩:=hi.cC;refine dD (Ir he.ev (SM (fH hN hv hd hcd) hi1 set_list ha) hs hw h1) ?_;rintro D σ H⟨F,ρ,fl,ρ',g,e,kk⟩;rw[HH.X9]at e;obtain⟨r,ρ1,e1,e⟩:=aj e;obtain⟨x0,ρ1',e0,e⟩:=aj e;have zz:=aD e0;clear e0;obtain⟨e0,Ez⟩:=zz;subst Ez;obtain⟨dk,ρ2,e2,e⟩:=aj e;refine⟨F,ρ,r,ρ1,g,e1,fun v F1 H1 s1 rr=>?_⟩;obtain⟨F2,s2,_,rp⟩:=s1.cX rr;obtain⟨o,ho,_⟩:=s2.gs.pk e0;refine⟨o,ho,hi2 s2.gs e2 fun vi F3 H3 s3 pi=>?_⟩;split at e
 . rename_i bb ds kk' q;split at e;.rename_i j hj;cases e;obtain⟨ad,xs,q1,q2,q3,q4⟩:=s3.gs.mz k _ ds q rfl;rw[ho]at q1;cases q1;refine⟨ad,xs,kk',j,rfl,pi.int,q2,by rw[q4.length];exact hj,?_⟩;exact kk F3 σ _ ((s2.trans s3).trans (s3.gs.mut q ho (q4.set (rp.mono s3.bO) j)))
   .cases e
 .cases e
theorem dg{k:Nat}{px apos cpos:Pos}(hN:X.N[k]?=some x)(hv:xg X.env.scope x)(he:SX X c e p)(hline:(apos.endLine==cpos.line)=true:=by rfl)(hs:starEach [e] X.env=(false,eval e X.env)::starEach [] X.env:=by rfl)(hbase:attributeBase (.Name x px) "append" X.env (eval (.Name x px) X.env)=eval (.Name x px) X.env:=by rfl)(hfew:((backTo cpos (starEach [e] X.env)).all (fun x=>!x.1)&&(backToKw cpos (keywordEach [] X.env)).all (fun x=>x.1.isSome)&&decide ([e].length+([]:List Keyword).length+(if([]:List Keyword).isEmpty then 0 else 1)<30))=true:=by rfl)(hsw:swapsWith (.Call (.Attribute (.Name x px) "append" apos) [e] [] cpos) none pos.line X.env=pure false:=by rfl)(hd:(x==("__debug__":Str))=false:=by decide)(hcd:(x==("__classdict__":Str))=false:=by decide):SS X c n (.Expr (.Call (.Attribute (.Name x px) "append" apos) [e] [] cpos) pos) (.app k p):=by
 refine dD (uI (Oz PySem.F.plainAttrs_list PySem.F.slot_list_append PySem.F.type_list_append m6 (fH hN hv hd hcd) (bK he.ev dH hs) hbase hfew hline hs) hsw) ?_;rintro D σ H⟨F,ρ,fl,ρ',g,e,kk⟩;rw[HH.X10]at e;obtain⟨d0,ρ0,e0,e⟩:=aj e;have zz:=aD e0;clear e0;obtain⟨e0,Ez⟩:=zz;subst Ez;obtain⟨r,ρ1,e1,e⟩:=aj e;obtain⟨a,xs,h1,h2⟩:=By g e0;refine⟨.ref a,h1,.inl ⟨rfl,xs,h2⟩,F,ρ,r,ρ1,g,e1,fun v F1 H1 s1 rr=>?_⟩;obtain⟨F2,s2,_,rp⟩:=s1.cX rr;split at e
 . rename_i bb ds q;split at e;.rename_i hlt;cases e;obtain⟨ad,ys,q1,q2,q3,q4⟩:=s2.gs.mz k _ ds q rfl;rw[h1]at q1;cases q1;exact⟨_,ys,v,rfl,rfl,q2,by rw[q4.length];exact hlt,kk F2 σ _ (s2.trans (s2.gs.mut q h1 (q4.append (.cons rp .nil))))⟩
   .cases e
 .cases e
theorem T7{j:Nat}{y:Str}{px py pt:Pos}{kt k2 UT}(hc:X.calm=true)(hN:X.N.Nodup)(hi:X.N[i]?=some x)(hj:X.N[j]?=some y)(hij:i≠j)(hx:X.env.scope.names.lookup x=some .local)(hy:X.env.scope.names.lookup y=some .local)(ha:SX X c a pa)(hb:SX X c b pb)(hw:swappedStores [.Tuple [.Name x px,.Name y py] kt pt] (.Tuple [a,b] k2 UT) X.env=pure (some [x,y]):=by rfl)(hs:swapsWithSole [.Tuple [.Name x px,.Name y py] kt pt] (.Tuple [a,b] k2 UT) pos.line X.env=pure false:=by rfl)(h1:starEach [a,b] X.env=(false,eval a X.env)::starEach [b] X.env:=by rfl)(h2:starEach [b] X.env=(false,eval b X.env)::starEach [] X.env:=by rfl):SS X c n (.Assign [.Tuple [.Name x px,.Name y py] kt pt] (.Tuple [a,b] k2 UT) pos) (.par i j pa pb):=by refine dD (L2.Qy hc hN hi hj hij hx hy (bK ha.ev (bK hb.ev dH h2) h1) hw hs) ?_;rintro D σ H⟨F,ρ,fl,ρ',g,e,k⟩;rw[HH.X7]at e;obtain⟨r,ρ1,e1,e⟩:=aj e;obtain⟨r2,ρ2,e2,e⟩:=aj e;obtain⟨ρ3,ρ4,e3,e⟩:=aj e;cases e;have zz:=aD e3;clear e3;obtain⟨e3,e4⟩:=zz;obtain⟨ρ5,e5,e6⟩:=bV e3;refine⟨F,ρ,r,ρ1,g,e1,fun v F1 H1 s1 rr=>?_⟩;obtain⟨F2,s2,_,rp⟩:=s1.cX rr;refine⟨F2,ρ1,r2,ρ2,s2.gs,e2,fun u F3 H3 s3 rr3=>?_⟩;obtain⟨F4,s4,_,rp4⟩:=s3.cX rr3;refine⟨v,u,rfl,?_⟩;have t4:=s2.trans s4;have t5:=t4.put (r:=.val r.d) (v:=v) (rp.mono s4.bO) e5;exact k F4 _ H3 (t5.put (r:=.val r2.d) (v:=u) rp4 e6)
theorem Hs{bs:List Bool}(h:ds.mapM yN=some bs):ds=bs.map D.bl:=by induction ds generalizing bs with|nil=>simp at h;subst h;rfl|cons d ds ih=>rw[List.mapM_cons]at h;cases hd:yN d with|none=>rw[hd]at h;cases h|some k=>rw[hd]at h;cases hr:ds.mapM yN with|none=>rw[hr]at h;cases h|some r=>rw[hr]at h;cases h;rw[map_cons,<-ih hr,rC hd]
theorem Ck{K:PySem.W.Frag}{F:Hp}:∀{bs:List Bool}{xs:List V},aG K F xs (bs.map D.bl)->xs=bs.map V.bl|[],_,h=>h.fK|k::bs,_,h=>by obtain⟨v,r,rfl,h1,h2⟩:=h.cu;rw[Rep]at h1;rw[h1,Ck h2];rfl
theorem CJ:∀{bs:List Bool}{us:List Value},Vals (bs.map V.bl) us->us=bs.map Value.bool|[],_,h=>h.zero|k::bs,_,.cons r t=>by rw[map_cons,<-CJ t,show _=_ from r]
theorem Mx{id:String}{f:List Bool->Bool}(hc:X.calm=true)(rule:∀{x:Value}{Q:Value->Shared->Prop}{s:Shared},wpAny (model X.prog X.w) X.A.in1 (pyIter x) (fun it s₂=>∃ I fp wr n P St tr,it=.ref I/\Walks X.prog X.w X.A.in1 I fp wr n P St/\St 0 s₂.heap/\TruthOf X.prog X.w X.A.in1 P tr/\∀h' tk,(∀b o,b∉wr->s₂.heap.get? b=some o->h'.get? b=some o)->Q (.bool (f ((List.range n).map tr))) {s₂ with heap:=h',toks:=tk}) X.xe s->wpAny (model X.prog X.w) X.A (call (.builtin id) [x]) Q X.xe s):dz X (.builtin id) (fun xs H Q=>∃p ys bs,xs=[.ref p]/\dX X.K H p ys/\ys=bs.map V.bl/\Q (.bl (f bs)) H):=by
 rintro pins s σ H xs us Q I r⟨p,ys,bs,hx,hq,hy,k⟩;subst hx;subst hy;obtain⟨u,rfl,rx⟩:=r.one;cases rx;obtain⟨its,rv,pl,hz⟩:=I.list hq;have hits:=CJ rv;subst hits;refine rule (wpAny_pyIter_list pl.isList ?_);have hne:p≠s.heap.objs.size:=by obtain⟨o,h1,_⟩:=pl.isList;exact ne_of_lt (lt_size h1)
 refine⟨s.heap.objs.size,_,_,_,_,_,fun i=>bs.getD i false,rfl,Walks.list (prog:=X.prog) (w:=X.w) (A:=X.A.in1) (show X.A.in1.handled=none from I.ok.hd hc) s.heap.objs.size p hne (bs.map Value.bool).toArray,⟨⟨_,get?_push_size _ rfl,rfl,rfl⟩,?_⟩,?_,fun h' tk kp=>?_⟩;.obtain⟨o,h1,h2⟩:=pl.isList;exact⟨o,dC h1,h2⟩
 . intro i v s' Q' E' hP hQ;have hv:v=.bool (bs.getD i false):=by
    have hP:(bs.map Value.bool)[i]?=some v:=by simpa using hP
    rw[getElem?_map]at hP;obtain⟨k',e1,e2⟩:=map_some hP;rw[<-e2,List.getD_eq_getElem?_getD,e1];rfl
   subst hv;exact wpAny_truthy_bool hQ
 . have e:f ((List.range (bs.map Value.bool).toArray.size).map fun i=>bs.getD i false)=f bs:=by
    congr 1;apply ext_getElem;.simp
    .intro i h1 h2;simp at h1;simp[h1]
   rw[e];exact⟨.bl _,H,I.kept (fun b o z=>kp b o (by simp;exact ne_of_lt (lt_size z)) (dC z)),rfl,k⟩
theorem Xy(hc:X.calm=true):dz X (.builtin "all") (Lh X.K fun x=>blt .all [x]):=by rintro pins s σ H xs us Q I r⟨x,hx,F,d,r',sm,px,he,k⟩;obtain⟨bs,e1,he⟩:=map_some (show((yI d).bind fun ds=>ds.mapM yN).map _=some r' from he);subst he;obtain⟨ds,e2,e3⟩:=bV e1;have e4:=Hs e3;cases d with|lst es=>cases e2;obtain⟨p,ys,rfl,hq,rs⟩:=px.lst sm;rw[e4]at rs;refine Mx (f:=fun bs=>bs.all id) hc (fun h=>call_all_walk (wpAny_mono h (fun it s₂⟨I,fp,wr,n,P,Sx,tr,h1,h2,h3,h4,h5⟩=>⟨I,fp,wr,n,P,Sx,tr,h1,h2,h3,h4,fun h' tk kp=>?_⟩) fun _ _ z=>z)) pins s σ H xs us Q I r ⟨p,ys,bs,hx,hq,Ck rs,cg.cV sm (fL _) k⟩;have z:=h5 h' tk kp;rw[List.all_map]at z;exact z|_=>cases e2
theorem boot_all:bootBuiltins "all"=some (.builtin "all"):=by decide+kernel
theorem Qw(hx:x="all")(hc:X.calm=true)(hg:Gl X x)(hm:X.mg x=none)(ha:SX X c a pa)(hs:starEach [a] X.env=(false,eval a X.env)::starEach [] X.env:=by rfl):SX X c (.Call (.Name x p') [a] [] pos) (.blt .all [pa]):=by subst hx;exact oF (fun h=>dJ (Xy hc) hg hm boot_all h (he:=hs)) ha (fun ρ=>rfl) rfl hs
end
section
variable{K:PySem.W.Frag}
theorem jK:∀{xs ys:List D},xs.length≠ys.length->gB xs ys=false|[],[],h=>absurd rfl h|[],_::_,_=>by simp[gB]|_::_,[],_=>by simp[gB]|x::xs,y::ys,h=>by rw[gB,jK (xs:=xs) (ys:=ys) (by simpa using h),Bool.and_false]
theorem gh:∀{xs ys:List D},xs.length=ys.length->gB xs ys=(List.range xs.length).all fun j=>lg (xs.getD j .non) (ys.getD j .non)|[],[],_=>by rw[gB];rfl|[],_::_,h=>by simp at h|_::_,[],h=>by simp at h|x::xs,y::ys,h=>by rw[gB,gh (xs:=xs) (ys:=ys) (by simpa using h),length_cons,List.range_succ_eq_map,all_cons,List.all_map];rfl
mutual
theorem vU:∀d:D,lg d d=true|.non=>rfl|.bl _=>by exact beq_self_eq_true _|.int _=>by exact beq_self_eq_true _|.str _=>by exact beq_self_eq_true _|.tup ds=>by exact jY ds|.lst ds=>by exact jY ds|.dU _=>by exact decide_eq_true rfl|.dv ks ds=>by show(decide (ks=ks)&&gB ds ds)=true;rw[jY ds];simp
theorem jY:∀ds:List D,gB ds ds=true|[]=>by rw[gB]|d::ds=>by rw[gB,vU d,jY ds];rfl
end
theorem fB{d e:D}(hf:flat d=true)(h1:Rep K F v d)(h2:Rep K F v e):d=e:=by cases d with
 |tup _=>cases hf|lst _=>cases hf|dU _=>cases hf|dv _ _=>cases hf|non=>rw[Rep]at h1;subst h1;cases e with|non=>rfl|tup _=>rw[Rep]at h2;obtain⟨_,_,q,_⟩:=h2;cases q|lst _=>rw[Rep]at h2;obtain⟨_,_,q,_⟩:=h2;cases q|dU _=>rw[Rep]at h2;obtain⟨_,_,q,_⟩:=h2;cases q|dv _ _=>rw[Rep]at h2;obtain⟨_,_,_,q,_⟩:=h2;cases q|_=>rw[Rep]at h2;cases h2
 |bl k=>rw[Rep]at h1;subst h1;cases e with|bl _=>rw[Rep]at h2;cases h2;rfl|tup _=>rw[Rep]at h2;obtain⟨_,_,q,_⟩:=h2;cases q|lst _=>rw[Rep]at h2;obtain⟨_,_,q,_⟩:=h2;cases q|dU _=>rw[Rep]at h2;obtain⟨_,_,q,_⟩:=h2;cases q|dv _ _=>rw[Rep]at h2;obtain⟨_,_,_,q,_⟩:=h2;cases q|_=>rw[Rep]at h2;cases h2
 |int k=>rw[Rep]at h1;subst h1;cases e with|int _=>rw[Rep]at h2;cases h2;rfl|tup _=>rw[Rep]at h2;obtain⟨_,_,q,_⟩:=h2;cases q|lst _=>rw[Rep]at h2;obtain⟨_,_,q,_⟩:=h2;cases q|dU _=>rw[Rep]at h2;obtain⟨_,_,q,_⟩:=h2;cases q|dv _ _=>rw[Rep]at h2;obtain⟨_,_,_,q,_⟩:=h2;cases q|_=>rw[Rep]at h2;cases h2
 |str k=>rw[Rep]at h1;subst h1;cases e with|str _=>rw[Rep]at h2;cases h2;rfl|tup _=>rw[Rep]at h2;obtain⟨_,_,q,_⟩:=h2;cases q|lst _=>rw[Rep]at h2;obtain⟨_,_,q,_⟩:=h2;cases q|dU _=>rw[Rep]at h2;obtain⟨_,_,q,_⟩:=h2;cases q|dv _ _=>rw[Rep]at h2;obtain⟨_,_,_,q,_⟩:=h2;cases q|_=>rw[Rep]at h2;cases h2
theorem Ka{X:Cx}{pins:List (Addr×Obj)}(I:L2.Inv X pins σ H s)(sm:aF F H):∀n:Nat,(∀d:D,dZ n d=true->∀(v:V)(e:D),Rep X.K F v d->Rep X.K F v e->d=e):=by
 have tl:∀{a:Addr}{xs ys:List V},iD X.K F a xs->dX X.K F a ys->False:=fun{a xs ys}h1 h2=>by obtain⟨_,_,⟨o,q1,q2,_⟩,_⟩:=I.tuple (aF.gn sm h1);obtain⟨_,_,pl,_⟩:=I.list (sm.seq h2);obtain⟨o',q3,q4,_⟩:=pl.isList;rw[q1]at q3;cases q3;rw[q2]at q4;exact absurd q4 (by decide)
 have dd:∀{a:Addr}{kvs:Dc},Rep X.K F (.ref a) (.dU kvs)->∃o,s.heap.get? a=some o/\o.cls=.type "dict":=fun{a kvs}h=>by rw[Rep]at h;obtain⟨a',_,q,hq⟩:=h;cases q;exact Gd I (sm _ _ hq)
 have td:∀{a:Addr}{xs:List V}{kvs:Dc},iD X.K F a xs->Rep X.K F (.ref a) (.dU kvs)->False:=fun{a xs kvs}h1 h2=>by obtain⟨_,_,⟨o,q1,q2,_⟩,_⟩:=I.tuple (aF.gn sm h1);obtain⟨o',q3,q4⟩:=dd h2;rw[q1]at q3;cases q3;rw[q2]at q4;exact absurd q4 (by decide)
 have ld:∀{a:Addr}{xs:List V}{kvs:Dc},dX X.K F a xs->Rep X.K F (.ref a) (.dU kvs)->False:=fun{a xs kvs}h1 h2=>by obtain⟨_,_,pl,_⟩:=I.list (sm.seq h1);obtain⟨o,q1,q2,_⟩:=pl.isList;obtain⟨o',q3,q4⟩:=dd h2;rw[q1]at q3;cases q3;rw[q2]at q4;exact absurd q4 (by decide)
 have dd2:∀{a:Addr}{ks:List Int}{es:List D},Rep X.K F (.ref a) (.dv ks es)->∃o,s.heap.get? a=some o/\o.cls=.type "dict":=fun{a ks es}h=>by rw[Rep]at h;obtain⟨a',_,_,q,hq,_⟩:=h;cases q;exact Io I (sm _ _ hq)
 have td2:∀{a:Addr}{xs:List V}{ks:List Int}{es:List D},iD X.K F a xs->Rep X.K F (.ref a) (.dv ks es)->False:=fun{a xs ks es}h1 h2=>by obtain⟨_,_,⟨o,q1,q2,_⟩,_⟩:=I.tuple (aF.gn sm h1);obtain⟨o',q3,q4⟩:=dd2 h2;rw[q1]at q3;cases q3;rw[q2]at q4;exact absurd q4 (by decide)
 have ld2:∀{a:Addr}{xs:List V}{ks:List Int}{es:List D},dX X.K F a xs->Rep X.K F (.ref a) (.dv ks es)->False:=fun{a xs ks es}h1 h2=>by obtain⟨_,_,pl,_⟩:=I.list (sm.seq h1);obtain⟨o,q1,q2,_⟩:=pl.isList;obtain⟨o',q3,q4⟩:=dd2 h2;rw[q1]at q3;cases q3;rw[q2]at q4;exact absurd q4 (by decide)
 intro n;induction n with
 |zero=>intro d hd v e h1 h2;cases d with|tup _=>simp[dZ]at hd|lst _=>simp[dZ]at hd|dU _=>simp[dZ]at hd|dv _ _=>simp[dZ]at hd|non=>exact fB rfl h1 h2|bl k=>exact fB rfl h1 h2|int k=>exact fB rfl h1 h2|str k=>exact fB rfl h1 h2
 |succ n ih=>
   have all:∀{xs:List V}{ds es:List D},ds.all (dZ n)=true->aG X.K F xs ds->aG X.K F xs es->ds=es:=fun{xs ds}=>by induction ds generalizing xs with|nil=>intro es _ h1 h2;rw[h1.fK]at h2;have:=h2.length;exact(List.eq_nil_of_length_eq_zero this.symm).symm|cons d ds ih2=>intro es ha h1 h2;rw[all_cons,and_eq_true]at ha;obtain⟨v,r,rfl,q1,q2⟩:=h1.cu;cases es with|nil=>cases h2.fK|cons e es=>obtain⟨v',r',q0,q3,q4⟩:=h2.cu;cases q0;rw[ih d ha.1 v e q1 q3,ih2 ha.2 q2 q4]
   intro d hd v e h1 h2;cases d with
   |dU _=>simp[dZ]at hd|dv _ _=>simp[dZ]at hd|tup ds=>
     have ha:ds.all (dZ n)=true:=by simpa[dZ]using hd
     rw[Rep]at h1;obtain⟨a,xs,rfl,z1,z2⟩:=h1;cases e with|tup es=>rw[Rep]at h2;obtain⟨a',ys,q,w1,w2⟩:=h2;cases q;have:=I.j8 (aF.gn sm z1) (aF.gn sm w1);subst this;rw[all ha z2 w2]|lst es=>rw[Rep]at h2;obtain⟨a',ys,q,w1,w2⟩:=h2;cases q;exact(tl z1 w1).elim|dU _=>exact(td z1 h2).elim|dv _ _=>exact(td2 z1 h2).elim|_=>rw[Rep]at h2;cases h2
   |lst ds=>
     have ha:ds.all (dZ n)=true:=by simpa[dZ]using hd
     rw[Rep]at h1;obtain⟨a,xs,rfl,z1,z2⟩:=h1;cases e with|lst es=>rw[Rep]at h2;obtain⟨a',ys,q,w1,w2⟩:=h2;cases q;have:=I.mJ (sm.seq z1) (sm.seq w1);subst this;rw[all ha z2 w2]|tup es=>rw[Rep]at h2;obtain⟨a',ys,q,w1,w2⟩:=h2;cases q;exact(tl w1 z1).elim|dU _=>exact(ld z1 h2).elim|dv _ _=>exact(ld2 z1 h2).elim|_=>rw[Rep]at h2;cases h2
   |non=>exact fB rfl h1 h2|bl k=>exact fB rfl h1 h2|int k=>exact fB rfl h1 h2|str k=>exact fB rfl h1 h2
theorem Bh{d e:D}{u:V}{v':Value}(hd:flat d=true)(he:flat e=true)(h1:Rep K F v d)(h2:Rep K F u e)(r1:RelV v v')(r2:RelV u u'):SeqAt.EqAt A s v' u' (lg d e):=by cases d with
 |tup _=>cases hd|lst _=>cases hd|dU _=>cases hd|dv _ _=>cases hd|non=>rw[Rep]at h1;subst h1;cases(show v'=.none from r1);cases e with|tup _=>cases he|lst _=>cases he|dU _=>cases he|dv _ _=>cases he|non=>rw[Rep]at h2;subst h2;cases(show u'=.none from r2);exact SeqAt.EqAt.same _|bl _=>rw[Rep]at h2;subst h2;cases(show u'=.bool _ from r2);exact SeqAt.EqAt.none_bool _|int _=>rw[Rep]at h2;subst h2;obtain⟨t,rfl⟩:=r2;exact SeqAt.EqAt.none_int _ _|str _=>rw[Rep]at h2;subst h2;obtain⟨t,rfl⟩:=r2;exact SeqAt.EqAt.none_str _ _
 |bl _=>rw[Rep]at h1;subst h1;cases(show v'=.bool _ from r1);cases e with|tup _=>cases he|lst _=>cases he|dU _=>cases he|dv _ _=>cases he|non=>rw[Rep]at h2;subst h2;cases(show u'=.none from r2);exact SeqAt.EqAt.bool_none _|bl _=>rw[Rep]at h2;subst h2;cases(show u'=.bool _ from r2);exact SeqAt.EqAt.bool_bool _ _|int _=>rw[Rep]at h2;subst h2;obtain⟨t,rfl⟩:=r2;exact SeqAt.EqAt.bool_int _ _ _|str _=>rw[Rep]at h2;subst h2;obtain⟨t,rfl⟩:=r2;exact SeqAt.EqAt.bool_str _ _ _
 |int _=>rw[Rep]at h1;subst h1;obtain⟨t0,rfl⟩:=r1;cases e with|tup _=>cases he|lst _=>cases he|dU _=>cases he|dv _ _=>cases he|non=>rw[Rep]at h2;subst h2;cases(show u'=.none from r2);exact SeqAt.EqAt.int_none _ _|bl _=>rw[Rep]at h2;subst h2;cases(show u'=.bool _ from r2);exact SeqAt.EqAt.int_bool _ _ _|int _=>rw[Rep]at h2;subst h2;obtain⟨t,rfl⟩:=r2;exact SeqAt.EqAt.int_int _ _ _ _|str _=>rw[Rep]at h2;subst h2;obtain⟨t,rfl⟩:=r2;exact int_str _ _ _ _
 |str _=>rw[Rep]at h1;subst h1;obtain⟨t0,rfl⟩:=r1;cases e with|tup _=>cases he|lst _=>cases he|dU _=>cases he|dv _ _=>cases he|non=>rw[Rep]at h2;subst h2;cases(show u'=.none from r2);exact SeqAt.EqAt.str_none _ _|bl _=>rw[Rep]at h2;subst h2;cases(show u'=.bool _ from r2);exact SeqAt.EqAt.str_bool _ _ _|int _=>rw[Rep]at h2;subst h2;obtain⟨t,rfl⟩:=r2;exact str_int _ _ _ _|str _=>rw[Rep]at h2;subst h2;obtain⟨t,rfl⟩:=r2;exact SeqAt.EqAt.str_str _ _ _ _
theorem lU{e:D}{u:V}{a:Addr}{its:Array Value}(ht:s.heap.IsTuple a its)(hu:A.units<cLine)(he:flat e=true)(h2:Rep K F u e)(r2:RelV u u'):SeqAt.EqAt A s (.ref a) u' (lg (.tup ds) e)/\SeqAt.EqAt A s u' (.ref a) (lg e (.tup ds)):=by cases e with|tup _=>cases he|lst _=>cases he|dU _=>cases he|dv _ _=>cases he|non=>rw[Rep]at h2;subst h2;cases(show u'=.none from r2);exact⟨SeqAt.EqAt.tuple_none ht hu,SeqAt.EqAt.none_tuple ht hu⟩|bl _=>rw[Rep]at h2;subst h2;cases(show u'=.bool _ from r2);exact⟨SeqAt.EqAt.tuple_bool _ ht hu,SeqAt.EqAt.bool_tuple _ ht hu⟩|int _=>rw[Rep]at h2;subst h2;obtain⟨t,rfl⟩:=r2;exact⟨SeqAt.EqAt.tuple_int _ _ ht hu,SeqAt.EqAt.int_tuple _ _ ht hu⟩|str _=>rw[Rep]at h2;subst h2;obtain⟨t,rfl⟩:=r2;exact⟨SeqAt.EqAt.tuple_str _ _ ht hu,SeqAt.EqAt.str_tuple _ _ ht hu⟩
theorem lX{e:D}{u:V}{a:Addr}{its:Array Value}(ht:s.heap.IsList a its)(hu:A.units<cLine)(he:flat e=true)(h2:Rep K F u e)(r2:RelV u u'):SeqAt.EqAt A s (.ref a) u' (lg (.lst ds) e)/\SeqAt.EqAt A s u' (.ref a) (lg e (.lst ds)):=by cases e with|tup _=>cases he|lst _=>cases he|dU _=>cases he|dv _ _=>cases he|non=>rw[Rep]at h2;subst h2;cases(show u'=.none from r2);exact⟨SeqAt.EqAt.list_none ht hu,SeqAt.EqAt.none_list ht hu⟩|bl _=>rw[Rep]at h2;subst h2;cases(show u'=.bool _ from r2);exact⟨SeqAt.EqAt.list_bool _ ht hu,SeqAt.EqAt.bool_list _ ht hu⟩|int _=>rw[Rep]at h2;subst h2;obtain⟨t,rfl⟩:=r2;exact⟨SeqAt.EqAt.list_int _ _ ht hu,SeqAt.EqAt.int_list _ _ ht hu⟩|str _=>rw[Rep]at h2;subst h2;obtain⟨t,rfl⟩:=r2;exact⟨SeqAt.EqAt.list_str _ _ ht hu,SeqAt.EqAt.str_list _ _ ht hu⟩
theorem wB{n:Nat}{d:D}(h:dZ n d=true)(h0:n=0):flat d=true:=by subst h0;cases d<;>first|rfl|simp[dZ]at h
theorem acu{X:Cx}{pins:List (Addr×Obj)}(I:L2.Inv X pins σ H s)(sm:aF F H):∀(n:Nat)(A:Around),A.units+n<cLine->∀(d e:D),dZ n d=true->dZ n e=true->∀(v u:V)(v' u':Value),Rep X.K F v d->Rep X.K F u e->RelV v v'->RelV u u'->SeqAt.EqAt A s v' u' (lg d e):=by intro n;induction n with|zero=>intro A hu d e hd he v u v' u' h1 h2 r1 r2;exact Bh (wB hd rfl) (wB he rfl) h1 h2 r1 r2|succ n ih=>
   intro A hu d e hd he v u v' u' h1 h2 r1 r2;have hu0:A.units<cLine:=by omega
   have hu1:A.in1.units+n<cLine:=by show A.units+1+n<cLine;omega--items by place
   have at_:∀{xs ys:List V}{us ws:List Value}{ds es:List D}{j:Nat}(k1:j<us.toArray.size)(k2:j<ws.toArray.size),ds.all (dZ n)=true->es.all (dZ n)=true->Vals xs us->Vals ys ws->aG X.K F xs ds->aG X.K F ys es->SeqAt.EqAt A.in1 s us.toArray[j] ws.toArray[j] (lg (ds.getD j .non) (es.getD j .non)):=fun{xs ys us ws ds es j}k1 k2 a1 a2 v1 v2 p1 p2=>by
    have k1:j<us.length:=by simpa using k1
    have k2:j<ws.length:=by simpa using k2
    have l1:j<ds.length:=by rw[<-p1.length,v1.length];exact k1
    have l2:j<es.length:=by rw[<-p2.length,v2.length];exact k2
    obtain⟨x,g1,g2⟩:=p1.get (show ds[j]?=some ds[j]by simp[l1]);obtain⟨y,g3,g4⟩:=p2.get (show es[j]?=some es[j]by simp[l2]);obtain⟨x',g5,g6⟩:=v1.get g1;obtain⟨y',g7,g8⟩:=v2.get g3;have e1:us.toArray[j]=x':=by have:=(dI g5).2;simpa using this
    have e2:ws.toArray[j]=y':=by have:=(dI g7).2;simpa using this
    have e3:ds.getD j .non=ds[j]:=by simp[List.getD,l1]
    have e4:es.getD j .non=es[j]:=by simp[List.getD,l2]
    rw[e1,e2,e3,e4];exact ih A.in1 hu1 _ _ (all_eq_true.mp a1 _ (getElem_mem l1)) (all_eq_true.mp a2 _ (getElem_mem l2)) x y x' y' g2 g4 g6 g8--the same object
   have same:∀{a:Addr},v=.ref a->u=.ref a->SeqAt.EqAt A s v' u' (lg d e):=fun{a}q1 q2=>by subst q1;subst q2;have:=Ka I sm (n+1) d hd _ e h1 h2;subst this;rw[vU];cases r1;cases r2;exact SeqAt.EqAt.same _
   cases d with
   |dU _=>simp[dZ]at hd|dv _ _=>simp[dZ]at hd|tup ds=>
     have ha:ds.all (dZ n)=true:=by simpa[dZ]using hd
     have h1':=h1;rw[Rep]at h1';obtain⟨a,xs,rfl,z1,z2⟩:=h1';cases r1;obtain⟨us,v1,p1,_⟩:=I.tuple (aF.gn sm z1)
     cases e with|dU _=>simp[dZ]at he|dv _ _=>simp[dZ]at he|tup es=>
       have hb:es.all (dZ n)=true:=by simpa[dZ]using he
       have h2':=h2;rw[Rep]at h2';obtain⟨b,ys,rfl,w1,w2⟩:=h2';by_cases hab:a=b;.subst hab;exact same rfl rfl
       . cases r2;obtain⟨ws,v2,p2,_⟩:=I.tuple (aF.gn sm w1);refine .of_refs hab ?_;have z:=SeqAt.RcAt.tuples (A:=A) (e:=fun j=>lg (ds.getD j .non) (es.getD j .non)) p1 p2 hu0 fun j k1 k2=>at_ k1 k2 ha hb v1 v2 z2 w2;have l1:us.toArray.size=ds.length:=by rw[size_toArray,<-v1.length,z2.length]
         have l2:ws.toArray.size=es.length:=by rw[size_toArray,<-v2.length,w2.length]
         rw[l1,l2]at z;have e0:lg (.tup ds) (.tup es)=((List.range (min ds.length es.length)).all (fun j=>lg (ds.getD j .non) (es.getD j .non))&&ds.length==es.length):=by
          rw[pqt];by_cases hl:ds.length=es.length;.rw[gh hl,hl];simp
          . rw[jK hl];have:(ds.length==es.length)=false:=by simpa using hl
            rw[this,Bool.and_false]
         rw[e0];exact z|lst es=>rw[Rep]at h2;obtain⟨b,ys,rfl,w1,w2⟩:=h2;cases r2;obtain⟨ws,v2,p2,_⟩:=I.list (sm.seq w1);exact SeqAt.EqAt.tuple_list p1 p2.isList hu0|non=>exact(lU p1 hu0 rfl h2 r2).1|bl _=>exact(lU p1 hu0 rfl h2 r2).1|int _=>exact(lU p1 hu0 rfl h2 r2).1|str _=>exact(lU p1 hu0 rfl h2 r2).1
   |lst ds=>
     have ha:ds.all (dZ n)=true:=by simpa[dZ]using hd
     have h1':=h1;rw[Rep]at h1'
     obtain⟨a,xs,rfl,z1,z2⟩:=h1';cases r1;obtain⟨us,v1,p1,_⟩:=I.list (sm.seq z1);cases e with|dU _=>simp[dZ]at he|dv _ _=>simp[dZ]at he|lst es=>
       have hb:es.all (dZ n)=true:=by simpa[dZ]using he
       have h2':=h2;rw[Rep]at h2';obtain⟨b,ys,rfl,w1,w2⟩:=h2';by_cases hab:a=b;.subst hab;exact same rfl rfl
       . cases r2;obtain⟨ws,v2,p2,_⟩:=I.list (sm.seq w1);refine .of_refs hab ?_;have l1:us.toArray.size=ds.length:=by rw[size_toArray,<-v1.length,z2.length]
         have l2:ws.toArray.size=es.length:=by rw[size_toArray,<-v2.length,w2.length]
         rw[pql];by_cases hl:ds.length=es.length;.have z:=SeqAt.RcAt.lists (A:=A) (e:=fun j=>lg (ds.getD j .non) (es.getD j .non)) p1.isList p2.isList (by rw[l1,l2,hl]) hu0 fun j k1 k2=>at_ k1 k2 ha hb v1 v2 z2 w2;rw[l1]at z;rw[gh hl];exact z
         .rw[jK hl];exact lists_lengths p1.isList p2.isList (by rw[l1,l2];simpa using hl) hu0|tup es=>rw[Rep]at h2;obtain⟨b,ys,rfl,w1,w2⟩:=h2;cases r2;obtain⟨ws,v2,p2,_⟩:=I.tuple (aF.gn sm w1);exact SeqAt.EqAt.list_tuple p1.isList p2 hu0|non=>exact(lX p1.isList hu0 rfl h2 r2).1|bl _=>exact(lX p1.isList hu0 rfl h2 r2).1|int _=>exact(lX p1.isList hu0 rfl h2 r2).1|str _=>exact(lX p1.isList hu0 rfl h2 r2).1
   |non|bl _|int _|str _=>cases e with|dU _=>simp[dZ]at he|dv _ _=>simp[dZ]at he|tup es=>rw[Rep]at h2;obtain⟨b,ys,rfl,w1,w2⟩:=h2;cases r2;obtain⟨ws,v2,p2,_⟩:=I.tuple (aF.gn sm w1);exact(lU p2 hu0 rfl h1 r1).2|lst es=>rw[Rep]at h2;obtain⟨b,ys,rfl,w1,w2⟩:=h2;cases r2;obtain⟨ws,v2,p2,_⟩:=I.list (sm.seq w1);exact(lX p2.isList hu0 rfl h1 r1).2|_=>exact Bh rfl rfl h1 h2 r1 r2
end
section
variable{X:Cx}{pins:List (Addr×Obj)}{σ:L2.St}{H F:Hp}{s:Shared}{A:Around}
abbrev RC(A:Around)(s:Shared)(v u:Value)(k:Bool):Prop:=SeqAt.RcAt A s v u k/\SeqAt.RcNeAt A s v u (!k)
inductive Top(X:Cx)(F H:Hp)(s:Shared):Value->D->Prop where|non:Top X F H s .none .non|bl(b:Bool):Top X F H s (.bool b) (.bl b)|int(i:Int)(t:Tok):Top X F H s (.int i t) (.int i)|str(x:Str)(t:Tok):Top X F H s (.str x t) (.str x)|tup{a:Addr}{us:List Value}{xs:List V}{ds:List D}(ht:s.heap.IsTuple a us.toArray)(hv:Vals xs us)(hr:aG X.K F xs ds):Top X F H s (.ref a) (.tup ds)|lst{a:Addr}{us:List Value}{xs:List V}{ds:List D}(ht:s.heap.IsList a us.toArray)(hv:Vals xs us)(hr:aG X.K F xs ds):Top X F H s (.ref a) (.lst ds)
theorem vq(I:L2.Inv X pins σ H s)(sm:aF F H){v':Value}{d:D}(hd:dZ 8 d=true)(h:dw X.K F H v d)(r:RelV v v'):Top X F H s v' d:=by cases d with|dU _=>simp[dZ]at hd|dv _ _=>simp[dZ]at hd|non=>rw[h.non]at r;cases r;exact .non|bl b=>rw[h.bl]at r;cases r;exact .bl b|int i=>rw[h.int]at r;obtain⟨t,rfl⟩:=r;exact .int i t|str x=>rw[h.str]at r;obtain⟨t,rfl⟩:=r;exact .str x t|tup ds=>obtain⟨a,xs,rfl,h1,h2,_⟩:=h.tup sm;cases r;obtain⟨us,v1,p1,_⟩:=I.tuple h1;exact .tup p1 v1 h2|lst ds=>obtain⟨a,xs,rfl,h1,h2⟩:=h.lst sm;cases r;obtain⟨us,v1,p1,_⟩:=I.list h1;exact .lst p1.isList v1 h2
theorem Zj(I:L2.Inv X pins σ H s)(sm:aF F H){n:Nat}(hu:A.units+(n+1)<cLine){d e:D}(hd:dZ (n+1) d=true)(he:dZ (n+1) e=true){v':Value}(h1:Top X F H s v' d)(h2:Top X F H s u' e):RC A s v' u' (lg d e):=by
 have hu0:A.units<cLine:=by omega
 have hu1:A.in1.units+n<cLine:=by show A.units+1+n<cLine;omega
 have at_:∀{xs ys:List V}{us ws:List Value}{ds es:List D}{j:Nat}(k1:j<us.toArray.size)(k2:j<ws.toArray.size),ds.all (dZ n)=true->es.all (dZ n)=true->Vals xs us->Vals ys ws->aG X.K F xs ds->aG X.K F ys es->SeqAt.EqAt A.in1 s us.toArray[j] ws.toArray[j] (lg (ds.getD j .non) (es.getD j .non)):=fun{xs ys us ws ds es j}k1 k2 a1 a2 v1 v2 p1 p2=>by
  have k1:j<us.length:=by simpa using k1
  have k2:j<ws.length:=by simpa using k2
  have l1:j<ds.length:=by rw[<-p1.length,v1.length];exact k1
  have l2:j<es.length:=by rw[<-p2.length,v2.length];exact k2
  obtain⟨x,g1,g2⟩:=p1.get (show ds[j]?=some ds[j]by simp[l1]);obtain⟨y,g3,g4⟩:=p2.get (show es[j]?=some es[j]by simp[l2]);obtain⟨x',g5,g6⟩:=v1.get g1;obtain⟨y',g7,g8⟩:=v2.get g3;have e1:us.toArray[j]=x':=by have:=(dI g5).2;simpa using this
  have e2:ws.toArray[j]=y':=by have:=(dI g7).2;simpa using this
  have e3:ds.getD j .non=ds[j]:=by simp[List.getD,l1]
  have e4:es.getD j .non=es[j]:=by simp[List.getD,l2]
  rw[e1,e2,e3,e4];exact acu I sm n A.in1 hu1 _ _ (all_eq_true.mp a1 _ (getElem_mem l1)) (all_eq_true.mp a2 _ (getElem_mem l2)) x y x' y' g2 g4 g6 g8
 cases h1 with
 |non=>cases h2 with|non=>exact⟨SeqAt.RcAt.none_none,SeqAt.RcNeAt.none_none⟩|bl b=>exact⟨SeqAt.RcAt.none_bool _,SeqAt.RcNeAt.none_bool _⟩|int i t=>exact⟨SeqAt.RcAt.none_int _ _,none_int _ _⟩|str i t=>exact⟨SeqAt.RcAt.none_str _ _,none_str _ _⟩|tup ht _ _=>exact⟨SeqAt.RcAt.none_tuple ht hu0,SeqAt.RcNeAt.none_tuple ht hu0⟩|lst ht _ _=>exact⟨SeqAt.RcAt.none_list ht hu0,SeqAt.RcNeAt.none_list ht hu0⟩
 |bl b0=>cases h2 with|non=>exact⟨SeqAt.RcAt.bool_none _,SeqAt.RcNeAt.bool_none _⟩|bl b=>exact⟨SeqAt.RcAt.bool_bool _ _,SeqAt.RcNeAt.bool_bool _ _⟩|int i t=>exact⟨SeqAt.RcAt.bool_int _ _ _,bool_int _ _ _⟩|str i t=>exact⟨SeqAt.RcAt.bool_str _ _ _,bool_str _ _ _⟩|tup ht _ _=>exact⟨SeqAt.RcAt.bool_tuple _ ht hu0,SeqAt.RcNeAt.bool_tuple _ ht hu0⟩|lst ht _ _=>exact⟨SeqAt.RcAt.bool_list _ ht hu0,SeqAt.RcNeAt.bool_list _ ht hu0⟩
 |int i0 t0=>cases h2 with|non=>exact⟨SeqAt.RcAt.int_none _ _,int_none _ _⟩|bl b=>exact⟨SeqAt.RcAt.int_bool _ _ _,int_bool _ _ _⟩|int i t=>exact⟨SeqAt.RcAt.int_int _ _ _ _,int_int _ _ _ _⟩|str i t=>exact⟨SeqAt.RcAt.int_str _ _ _ _,SeqAt.RcNeAt.int_str _ _ _ _⟩|tup ht _ _=>exact⟨SeqAt.RcAt.int_tuple _ _ ht hu0,SeqAt.RcNeAt.int_tuple _ _ ht hu0⟩|lst ht _ _=>exact⟨SeqAt.RcAt.int_list _ _ ht hu0,int_list _ _ ht hu0⟩
 |str i0 t0=>cases h2 with|non=>exact⟨SeqAt.RcAt.str_none _ _,str_none _ _⟩|bl b=>exact⟨SeqAt.RcAt.str_bool _ _ _,str_bool _ _ _⟩|int i t=>exact⟨SeqAt.RcAt.str_int _ _ _ _,SeqAt.RcNeAt.str_int _ _ _ _⟩|str i t=>exact⟨SeqAt.RcAt.str_str _ _ _ _,str_str _ _ _ _⟩|tup ht _ _=>exact⟨SeqAt.RcAt.str_tuple _ _ ht hu0,SeqAt.RcNeAt.str_tuple _ _ ht hu0⟩|lst ht _ _=>exact⟨SeqAt.RcAt.str_list _ _ ht hu0,str_list _ _ ht hu0⟩
 |@tup a us xs ds ht hv hr=>
   have ha:ds.all (dZ n)=true:=by simpa[dZ]using hd
   cases h2 with|non=>exact⟨SeqAt.RcAt.tuple_none ht hu0,SeqAt.RcNeAt.tuple_none ht hu0⟩|bl b=>exact⟨SeqAt.RcAt.tuple_bool _ ht hu0,SeqAt.RcNeAt.tuple_bool _ ht hu0⟩|int i t=>exact⟨SeqAt.RcAt.tuple_int _ _ ht hu0,SeqAt.RcNeAt.tuple_int _ _ ht hu0⟩|str i t=>exact⟨SeqAt.RcAt.tuple_str _ _ ht hu0,SeqAt.RcNeAt.tuple_str _ _ ht hu0⟩|lst xX _ _=>exact⟨SeqAt.RcAt.tuple_list ht xX hu0,SeqAt.RcNeAt.tuple_list ht xX hu0⟩|@tup b ws ys es xX hv2 hr2=>
     have hb:es.all (dZ n)=true:=by simpa[dZ]using he
     have l1:us.toArray.size=ds.length:=by rw[size_toArray,<-hv.length,hr.length]
     have l2:ws.toArray.size=es.length:=by rw[size_toArray,<-hv2.length,hr2.length]
     have z1:=SeqAt.RcAt.tuples (A:=A) (e:=fun j=>lg (ds.getD j .non) (es.getD j .non)) ht xX hu0 fun j k1 k2=>at_ k1 k2 ha hb hv hv2 hr hr2;have z2:=SeqAt.RcNeAt.tuples (A:=A) (e:=fun j=>lg (ds.getD j .non) (es.getD j .non)) ht xX hu0 fun j k1 k2=>at_ k1 k2 ha hb hv hv2 hr hr2;rw[l1,l2]at z1 z2;have e0:lg (.tup ds) (.tup es)=((List.range (min ds.length es.length)).all (fun j=>lg (ds.getD j .non) (es.getD j .non))&&ds.length==es.length):=by
      rw[pqt];by_cases hl:ds.length=es.length;.rw[gh hl,hl];simp
      . rw[jK hl];have:(ds.length==es.length)=false:=by simpa using hl
        rw[this,Bool.and_false]
     rw[e0];exact⟨z1,z2⟩
 |@lst a us xs ds ht hv hr=>
   have ha:ds.all (dZ n)=true:=by simpa[dZ]using hd
   cases h2 with|non=>exact⟨SeqAt.RcAt.list_none ht hu0,SeqAt.RcNeAt.list_none ht hu0⟩|bl b=>exact⟨SeqAt.RcAt.list_bool _ ht hu0,SeqAt.RcNeAt.list_bool _ ht hu0⟩|int i t=>exact⟨SeqAt.RcAt.list_int _ _ ht hu0,list_int _ _ ht hu0⟩|str i t=>exact⟨SeqAt.RcAt.list_str _ _ ht hu0,list_str _ _ ht hu0⟩|tup xX _ _=>exact⟨SeqAt.RcAt.list_tuple ht xX hu0,SeqAt.RcNeAt.list_tuple ht xX hu0⟩|@lst b ws ys es xX hv2 hr2=>
     have hb:es.all (dZ n)=true:=by simpa[dZ]using he
     have l1:us.toArray.size=ds.length:=by rw[size_toArray,<-hv.length,hr.length]
     have l2:ws.toArray.size=es.length:=by rw[size_toArray,<-hv2.length,hr2.length]
     rw[pql];by_cases hl:ds.length=es.length;.have z1:=SeqAt.RcAt.lists (A:=A) (e:=fun j=>lg (ds.getD j .non) (es.getD j .non)) ht xX (by rw[l1,l2,hl]) hu0 fun j k1 k2=>at_ k1 k2 ha hb hv hv2 hr hr2;have z2:=SeqAt.RcNeAt.lists (A:=A) (e:=fun j=>lg (ds.getD j .non) (es.getD j .non)) ht xX (by rw[l1,l2,hl]) hu0 fun j k1 k2=>at_ k1 k2 ha hb hv hv2 hr hr2;rw[l1]at z1 z2;rw[gh hl];exact⟨z1,z2⟩
     .rw[jK hl];exact⟨lists_lengths ht xX (by rw[l1,l2];simpa using hl) hu0,SeqAt.RcNeAt.lists_lengths ht xX (by rw[l1,l2];simpa using hl) hu0⟩
theorem lr(hu:X.A.units+8<cLine):fU X (compareOp .Eq) (rD X.K (rE .eq)):=by rintro pins s σ H x y v u Q I rx ry⟨F,d,e,r,sm,px,py,he,k⟩;obtain⟨t,e1,e2⟩:=map_some (show(Ij d e).map _=some r from he);subst e2;unfold Ij at e1;obtain⟨hd,e1⟩:=bF e1;rw[and_eq_true]at hd;subst e1;exact(Zj I sm (n:=7) hu hd.1 hd.2 (vq I sm hd.1 px rx) (vq I sm hd.2 py ry)).1 _ _ _ _ ⟨.bl _,H,I,rfl,cg.cV sm (fL _) k⟩
theorem vB(hu:X.A.units+8<cLine):fU X (compareOp .NotEq) (rD X.K (rE .ne)):=by rintro pins s σ H x y v u Q I rx ry⟨F,d,e,r,sm,px,py,he,k⟩;obtain⟨t,e1,e2⟩:=map_some (show(zj d e).map _=some r from he);subst e2;unfold zj at e1;obtain⟨hd,e1⟩:=bF e1;rw[and_eq_true]at hd;subst e1;exact(Zj I sm (n:=7) hu hd.1 hd.2 (vq I sm hd.1 px rx) (vq I sm hd.2 py ry)).2 _ _ _ _ ⟨.bl _,H,I,rfl,cg.cV sm (fL _) k⟩
end
section
variable{Pg:Program}{w:World}{K:PySem.W.Frag}{mg:Str->Option Value}{base:Heap}
theorem Zb{qual:Str}{st:Stmt}{f:Addr}{fd:FuncData}{N ps:List Str}{k n:Nat}{c:Call}{d:Fd}(Fu:fX K x qual st f fd)(S:aH N ps (az st))(h1:d.np=ps.length)(h2:d.nn=N.length)(hb:∀(cdv:Value)(A:Around)(outer:List Env)(s:Shared)(H:Hp)(E:XK),jF k (A.deeper (envOfC qual (az st) s.heap.objs.size f cdv))->SB (yH Ft Pg w K mg base N qual (az st) f cdv A outer s H E).Zn c n (fO st) d.body):m5 Pg w K mg base Ft (k+1) f fd ps (Mm K ps.length (fun args=>enter c n d args)):=by
 refine Fu.ok S (fun vs H Q E h=>h.1) fun cdv A outer s H vs Q E hr h=>?_;obtain⟨hl,F,args,r,args',g,e,q⟩:=h;refine⟨_,hb cdv A outer s H E hr,?_⟩;replace e:enter c n d args=.ok r args':=e;unfold enter at e;split at e
 . rename_i hc;obtain⟨c1,c2⟩:=hc;have hg:=g.more (n:=d.nn-d.np) (τ:=replicate (N.length-vs.length) none) (by simp[h1,h2,hl]);have hla:args.length=d.np:=c1;have go:∀{fl:Fl}{ρ':List Sl},ik c n d.body (args++replicate (d.nn-d.np) .aO)=.ok fl ρ'->(∀F' σ' H',aB K F (args++replicate (d.nn-d.np) .aO) (start N vs) H F' ρ' σ' H'->(match fl with|.next=>Q .non H'|.brk=>False|.cont=>False|.ret r=>∀v,cM K F' ρ' σ' H' (args++replicate (d.nn-d.np) .aO) (start N vs) H v r->Q v H'))->tEx K (ik c n d.body) {nx:=fun _ H'=>Q .non H',rt:=Q} (start N vs) H:=fun{fl ρ'}z k=>⟨F,_,fl,ρ',hg,z,fun F' σ' H' s=>by have:=k F' σ' H' s;cases fl<;>exact this⟩;split at e;.rename_i ρ' z;cases e;refine go z fun F' σ' H' s=>?_;obtain⟨z1,z2⟩:=aB.less (m:=d.np) hla.symm g (by simp[h1,h2,hl]) s;exact q .non F' _ H' z1 (show Rep K F' _ _ from Q0)
   .rename_i r' ρ' z;cases e;refine go z fun F' σ' H' s v rr=>?_;obtain⟨z1,z2⟩:=aB.less (m:=d.np) hla.symm g (by simp[h1,h2,hl]) s;exact q v F' _ H' z1 (z2 v r rr)
   .split at e<;>cases e
 .cases e
structure aQ(Pg:Program)(w:World)(K:PySem.W.Frag)(mg:Str->Option Value)(base:Heap)(k:Nat)(c:Call)(i:Nat)(x:Str)(np:Nat):Prop where ex:∃fa fd qs,m5 Pg w K mg base Ft k fa fd qs (Mm K qs.length (c i))/\mg x=some (.ref fa)/\keepIn K (.ref fa)=true/\Binds K fd qs []/\qs.length=np
end
section
variable{X:Cx}{c:Call}{n k:Nat}{e a b:Expr}{es:List Expr}{p pa pb:P}{ps:List P}{pos:Pos}
theorem sv(i:Nat)(hN:X.N[i]?=some x:=by rfl)(hv:xg X.env.scope x:=by first|exact Or.inl rfl|exact Or.inr (Or.inl rfl)|exact Or.inr (Or.inr rfl))(hd:(x==("__debug__":Str))=false:=by rfl)(hcd:(x==("__classdict__":Str))=false:=by rfl):SX X c (.Name x pos) (.var i):=TY hN hv hd hcd
theorem cU{np:Nat}(C:aQ X.prog X.w X.K X.mg X.base k c i x np)(hr:jF k X.A)(ha:SG X c (e::es) ps)(hg:Gl X x:=by rfl)(hl:(e::es).length=np:=by rfl)(hdb:(x==("__debug__":Str))=false:=by rfl)(he:starEach (e::es) X.env=(false,eval e X.env)::starEach es X.env:=by rfl)(hpl:(backTo pos (starEach es X.env)).any (·.1)=false:=by rfl)(hl2:ps.length=(e::es).length:=by rfl):SX X c (.Call (.Name x p') (e::es) [] pos) (.call i ps):=by obtain⟨fa,fd,qs,h1,h2,h3,h4,h5⟩:=C.ex;exact Np h1 hr hg h2 h3 h4 ha (hl.trans h5.symm) hdb he hpl hl2
noncomputable def O2(names outer:List (Str×NameKind))(N N':List Str)(n:Nat):Bool:=(names.all fun y=>names.lookup y.1==some y.2)&&(names.all fun y=>y.2!=.local||names.lookup y.1==some .local)&&(names.all fun y=>y.2!=.free||outer.lookup y.1==some .cell||outer.lookup y.1==some .free)&&N'.length==N.length+n&&((N.zip N').all fun p=>(p.1==p.2&&names.lookup p.2==some .free)||(names.lookup p.2!=some .local&&names.lookup p.2!=some .cell&&names.lookup p.2!=some .free))
theorem uD{scope:Scope}{N':List Str}(hk:scope.kind=.function)(h:O2 scope.names X.env.scope.names X.N N' n=true):dY X scope N' n:=by
 unfold O2 at h;simp only[and_eq_true]at h;obtain⟨⟨⟨⟨h1,h2⟩,h3⟩,h4⟩,h5⟩:=h;refine⟨hk,fun y hy=>eq_of_beq (all_eq_true.mp h1 y hy),fun y hy e=>?_,fun y hy e=>?_,by simpa using h4,h5⟩;.have:=all_eq_true.mp h2 y hy;rw[e]at this;simpa using this
 . have:=all_eq_true.mp h3 y hy;rw[e]at this;simp only[or_eq_true]at this;rcases this with(z|z)|z;.cases z
   .exact .inl (eq_of_beq z)
   .exact .inr (eq_of_beq z)
theorem bG(h:jF k A):A.units+8<cLine:=by have:=h.un;omega
end
end HH
end
section
namespace PySem
open AutoSeq1(wpAny_loadPart')
section
variable{prog:Program}{w:World}{A:Around}{E:Value->Shared->Prop}{s:Shared}
theorem gJ{it l:Addr}{i:Nat}{items:Array Value}{x:Value}{Q:Value->Shared->Prop}(hit:s.heap.IsTupleIter it l i)(hl:s.heap.IsTuple l items)(hx:items[i]?=some x)(hQ:∀h',h'.IsTupleIter it l (i+1)->SameBut it s.heap h'->Q x {s with heap:=h'}):wpAny (model prog w) A (Builtin.SmallTypes.nextOf (.ref it)) Q E s:=by obtain⟨o,ho,hc,hd⟩:=id hit;obtain⟨ol,hol,_,nl,hdl⟩:=hl;unfold Builtin.SmallTypes.nextOf;refine wpAny_bind (wpAny_callSpecial?_slot (name:=Str.ofString "__next__") hit.typeIs F.slot_tuple_iterator_next (wpAny_call_entry F.slot_tuple_iterator_next hit.typeIs F.entry_tuple_iterator_next ?_ (F.args_tuple_iterator_next_1 _)));show wpAny _ _ (field (.ref it) 0>>=_) _ _ s;refine wpAny_bind (wpAny_field ho hd (x:=.ref l) rfl ?_);show wpAny _ _ (if(Value.ref l==Value.none)=true then _ else _) _ _ s;rw[if_neg (show ¬((Value.ref l==Value.none)=true)from Bool.false_ne_true)];show wpAny _ _ (field (.ref it) 1>>=_) _ _ s;refine wpAny_bind (wpAny_field ho hd (x:=.int i 0) rfl ?_);show wpAny _ _ (seqItems? (.ref l)>>=_) _ _ s;refine wpAny_bind (wpAny_seqItems hol hdl ?_);simp only[toNat_natCast,hx];refine wpAny_bind (wpAny_setField ho hd (by simp) (wpAny_pure ⟨x,rfl,wpAny_pure (hQ _ ?_ (Heap.SameBut.update ..))⟩));exact⟨_,Heap.get?_update_self _ ho (Obj.isFreed_of_fields (Obj.data_mapFields hd _)),(Obj.cls_mapFields ..).trans hc,by rw[Obj.data_mapFields hd];simp[rawInt]⟩
theorem eX{it l:Addr}{i:Nat}{items:Array Value}{Q:Value->Shared->Prop}(hh:A.handled=none)(hit:s.heap.IsTupleIter it l i)(hl:s.heap.IsTuple l items)(hx:items[i]?=none)(hE:∀h' e,Heap.ExtBut it s.heap h'->(∃o,h'.get? e=some o/\o.cls=.type "StopIteration")->E (.ref e) {s with heap:=h'}):wpAny (model prog w) A (Builtin.SmallTypes.nextOf (.ref it)) Q E s:=by
 obtain⟨o,ho,hc,hd⟩:=id hit;obtain⟨ol,hol,_,nl,hdl⟩:=hl;unfold Builtin.SmallTypes.nextOf;refine wpAny_bind (wpAny_callSpecial?_slot (name:=Str.ofString "__next__") hit.typeIs F.slot_tuple_iterator_next (wpAny_call_entry F.slot_tuple_iterator_next hit.typeIs F.entry_tuple_iterator_next ?_ (F.args_tuple_iterator_next_1 _)));show wpAny _ _ (field (.ref it) 0>>=_) _ _ s;refine wpAny_bind (wpAny_field ho hd (x:=.ref l) rfl ?_);show wpAny _ _ (if(Value.ref l==Value.none)=true then _ else _) _ _ s;rw[if_neg (show ¬((Value.ref l==Value.none)=true)from Bool.false_ne_true)];show wpAny _ _ (field (.ref it) 1>>=_) _ _ s;refine wpAny_bind (wpAny_field ho hd (x:=.int i 0) rfl ?_);show wpAny _ _ (seqItems? (.ref l)>>=_) _ _ s;refine wpAny_bind (wpAny_seqItems hol hdl ?_);simp only[toNat_natCast,hx];refine wpAny_bind (wpAny_rule (wpAny_bind (wpAny_setField ho hd (by simp) ?_)));show wpAny _ _ (newExc (.type "StopIteration") []>>=_) _ _ _;refine wpAny_bind ?_;simp only[newExc,newTuple];refine wpAny_bind (wpAny_newObj_type ?_ (by size_fits));refine wpAny_bind (m:=firstArgMember _ _) (wpAny_of_eq (a:=Value.none) (by first|rfl|(simp only[firstArgMember];rfl)) ?_);refine wpAny_newObj_type ?_ (by size_fits);simp only[raiseNew];refine wpAny_bind (wpAny_handled ?_);first|rw[show A.in1.handled=none from hh]|rw[hh]
 refine wpAny_bind (wpAny_pure (wpAny_throw ?_));exact hE _ _ (((Heap.SameBut.update ..).extBut.push _).push _) ⟨_,get?_push_size _ rfl,rfl⟩
end
theorem jk(l:Addr)(items:Array Value)(n:Nat)(dct:Option Addr)(sl:Array (Option Value)):Meets (Builtin.«enumerate.__new__» ⟨[.type "enumerate",.ref l],[]⟩) (fun _ R s=>s.heap.get? l=some {cls:=.type "tuple",dict:=dct,data:=.seq items n,slots:=sl}/\R (.ok (.ret (.ref (s.heap.push {cls:=.type "tuple_iterator",data:=.fields #[.ref l,.int 0 0]}).objs.size))) {s with heap:=(s.heap.push {cls:=.type "tuple_iterator",data:=.fields #[.ref l,.int 0 0]}).push {cls:=.type "enumerate",data:=.fields #[.none,.bool false,.ref s.heap.objs.size,rawInt 0,.none,.none]}}):=.of_wp fun prog w A R s h=>by
  obtain⟨hp,g,d,tk,os⟩:=s;obtain⟨hl,h⟩:=h;have hsub:=sub_enumerate;have hL:Heap.IsTuple (Shared.heap ⟨hp,g,d,tk,os⟩) l items:=⟨_,hl,rfl,n,rfl⟩;wp_walk using wpAny_loadPart' hl;refine wpAny_stack_any fun st=>wpAny_pure ?_;split
  . rename_i c _ _ _ _ _;cases(c==Value.type "enumerate");.wp_walk using wpAny_loadPart' hl,wpAny_pyIter_tuple hL;exact⟨_,rfl,h⟩
    .wp_walk using wpAny_loadPart' hl,wpAny_pyIter_tuple hL;exact⟨_,rfl,h⟩
  .wp_walk using wpAny_loadPart' hl,wpAny_pyIter_tuple hL;exact⟨_,rfl,h⟩
section
variable{prog:Program}{w:World}{A:Around}{E:Value->Shared->Prop}{s:Shared}
theorem ju{l:Addr}{items:Array Value}{Q:Value->Shared->Prop}(hL:s.heap.IsTuple l items)(h:∀ h',IsEnum h' (s.heap.objs.size+1) s.heap.objs.size 0 .none->h'.IsTupleIter s.heap.objs.size l 0->h'.objs.size=s.heap.objs.size+2->(∀b o,s.heap.get? b=some o->h'.get? b=some o)->Q (.ref (s.heap.objs.size+1)) {s with heap:=h'}):wpAny (model prog w) A (call (.type "enumerate") [.ref l]) Q E s:=by
 obtain⟨⟨c,dct,dt,sl⟩,hl,hc,n,hd⟩:=hL;replace hc:c=.type "tuple":=hc;replace hd:dt=.seq items n:=hd;subst hc hd;refine callType_new F.called_enumerate (by decide) (F.typeCall_enumerate_1 _) (F.newCall_enumerate_1 _) (fun obj=>F.args_object_init_2 obj _) F.entry_enumerate_new (jk l items n dct sl) ⟨hl,?_⟩;have hz:(s.heap.push {cls:=.type "tuple_iterator",data:=.fields #[.ref l,.int 0 0]}).objs.size=s.heap.objs.size+1:=size_push ..;show _/\_;rw[hz];have he:IsEnum ((s.heap.push {cls:=.type "tuple_iterator",data:=.fields #[.ref l,.int 0 0]}).push {cls:=.type "enumerate",data:=.fields #[.none,.bool false,.ref s.heap.objs.size,rawInt 0,.none,.none]}) (s.heap.objs.size+1) s.heap.objs.size 0 .none:=by have:=get?_push_size (s.heap.push {cls:=.type "tuple_iterator",data:=.fields #[.ref l,.int 0 0]}) (o:={cls:=.type "enumerate",data:=.fields #[.none,.bool false,.ref s.heap.objs.size,rawInt 0,.none,.none]}) rfl;rw[hz]at this;exact this
 refine⟨⟨_,he,rfl⟩,h _ he ⟨_,dC (get?_push_size _ rfl),rfl,rfl⟩ (by rw[size_push,hz]) fun b o x=>dC (dC x)⟩
end
end PySem
end
section
namespace L2
open PySem PySem.Spec PyProof.Rows
variable{prog:Program}{w:World}{A:Around}
section
variable{X:Cx}{pins:List (Addr×Obj)}{σ:L2.St}{H:Hp}{s:Shared}
theorem Inv.yL{ch:List Addr}{h':Heap}{o:HO}{t':Nat}(I:Inv X pins σ H s)(k:∀b u,b∉ch->s.heap.get? b=some u->h'.get? b=some u)(hl:∀b∈ch,∃u,h'.get? b=some u)(hf:∀b∈ch,nY X pins H b)(new:bI X.prog X.w (upd H s.heap.objs.size o) h' s.heap.objs.size o):Inv X pins σ (upd H s.heap.objs.size o) {s with heap:=h',toks:=t'}:=by
 have fr:H s.heap.objs.size=none:=I.hok.fresh (dh);have JB:∀b u,H b=some u->b∉ch:=fun b u e hb=>by rw[(hf b hb).1]at e;cases e
 have up:∀b u,H b=some u->upd H s.heap.objs.size o b=some u:=fun b u e=>by
  have:b≠s.heap.objs.size:=by rintro rfl;rw[fr]at e;cases e
  rw[aC this];exact e
 refine I.call (g':=s.gens) (d':=s.drawn) (ch:=ch) ⟨fun b u e n _ hx=>k b u hx e,fun b u e n _ hx=>⟨u.slots,k b u hx e⟩,fun b u e n hx=>?_,fun b u e hx=>⟨u,k b u hx e⟩,fun b xs e=>up b _ e,fun b ob u e=>up b _ e,fun b ps e=>⟨#[],by rw[up b _ e];simp⟩⟩ ?_ I.bare fun b hb=>⟨(hf b hb).2.2.2.1,(hf b hb).2.1,(hf b hb).2.2.2.2.1,(hf b hb).2.2.2.2.2⟩;.have:b≠s.heap.objs.size:=ne_of_lt (lt_size e);rw[aC this];exact n
 . intro b u e;by_cases hb:b=s.heap.objs.size;.subst hb;rw[aM]at e;cases e;exact new
   . rw[aC hb]at e;refine(I.hok b u e).stay (fun c v hc q=>k c v ?_ q) (fun c q=>up c _ q) fun c xs q=>up c _ q;rcases hc with rfl|hc;.exact JB _ _ e
     .exact JB _ _ hc
end
noncomputable def yz(K:PySem.W.Frag)(a:Addr):It:=⟨fun i H=>∃xs x,dX K H a xs/\xs[i]?=some x,fun i H x H'=>∃T v,H T=none/\x=.ref T/\H'=upd H T (.tup [.int (i:Int),v])/\∀xs,dX K H a xs->xs[i]?=some v,fun i H=>∃xs,dX K H a xs/\xs.length<=i⟩
theorem Tp(hh:A.handled=none)(it l:Addr)(hne:l≠it)(items:Array Value):Draws prog w A it [it,l] items.size (fun i v=>items[i]?=some v) (fun i h=>h.IsListIter it l i/\h.IsList l items)where
 live:=fun _ _ st=>let⟨o,ho,_⟩:=st.1;⟨o,ho⟩;frame:=fun _ _ _ st hk=>⟨(let⟨o,ho,r⟩:=st.1;⟨o,hk it (by simp) o ho,r⟩),(let⟨o,ho,r⟩:=st.2;⟨o,hk l (by simp) o ho,r⟩)⟩;item:=fun i s Q E hi st hQ=>by refine wpAny_nextOf_list_item st.1 st.2 (x:=items[i]) (by simp[hi]) fun h' hit' hs'=>?_;exact hQ _ h' s.toks (by simp[hi]) ⟨hit',(let⟨o,ho,r⟩:=st.2;⟨o,hs'.extBut l o hne ho,r⟩)⟩ hs'
 done:=fun s Q E st hE=>wpAny_nextOf_list_end hh st.1 st.2 (by simp) hE
theorem Dj(hh:A.handled=none)(it l:Addr)(items:Array Value)(n:Nat)(hn:items.size<=n):Draws prog w A it [it,l] n (fun _ _=>True) (fun i h=>i=n/\h.IsListIter it l i/\h.IsList l items)where live:=fun _ _ st=>let⟨o,ho,_⟩:=st.2.1;⟨o,ho⟩;frame:=fun _ _ _ st hk=>⟨st.1,(let⟨o,ho,r⟩:=st.2.1;⟨o,hk it (by simp) o ho,r⟩),(let⟨o,ho,r⟩:=st.2.2;⟨o,hk l (by simp) o ho,r⟩)⟩;item:=fun i s Q E hi st hQ=>absurd st.1 (ne_of_lt hi);done:=fun s Q E st hE=>wpAny_nextOf_list_end hh st.2.1 st.2.2 (by simp;exact hn) hE
theorem DQ{P:Program}{K:PySem.W.Frag}{elts:List Expr}{x1}{tp:Pos}(a it e:Addr)(hei:e≠it):Turn P w K (.Tuple elts x1 tp) (yz K a) [e,it] e (fun i h=>(∃old,IsEnum h e it (i:Int) old)/\h.IsListIter it a i)where
 mem:=by simp
 obj:=fun i h st b hb=>by
  obtain⟨⟨old,h1⟩,o,h2,h3,h4⟩:=st;rcases mem_cons.mp hb with rfl|hb;.exact⟨_,h1,fun v z=>by cases z⟩
  . have:b=it:=by simpa using hb
    subst this;exact⟨o,h2,fun v z=>by rw[h4]at z;cases z⟩
 keep:=fun i h h' st k=>by obtain⟨⟨old,h1⟩,o,h2,h3⟩:=st;exact⟨⟨old,k e (by simp) _ h1⟩,o,k it (by simp) _ h2,h3⟩
 item:=fun X hP hw hK hc i pins s σ H E I hf st go=>by
  subst hP hw hK;obtain⟨⟨old,he⟩,hit⟩:=st;obtain⟨xs,x,hq,hx⟩:=go;obtain⟨its,rv,pl,hz⟩:=I.list hq;have hL:s.heap.IsList a its.toArray:=pl.isList;obtain⟨oa,ha,hca,_⟩:=id hL;have hea:e≠a:=by rintro rfl;rw[he]at ha;cases ha;exact absurd (show Value.type "enumerate"=Value.type _ from hca) (by decide)
  have hia:a≠it:=by rintro rfl;obtain⟨o,h2,h3,_⟩:=id hit;rw[h2]at ha;cases ha;rw[h3]at hca;exact absurd hca (by decide)
  have hlt:i<its.toArray.size:=by rw[size_toArray,<-rv.length];exact(dI hx).1
  refine wpAny_pyNext_enum_itemD (Tp (show X.A.in1.handled=none from I.ok.hd hc) it a hia its.toArray) he ⟨hit,hL⟩ hlt hei (by simp[hei,hea]) fun y h' tk hy heo hst ht hsz kp=>?_;refine⟨_,rfl,wpAny_letOwnedTupleGo_enum heo fun h'' JN sb=>?_⟩;obtain⟨u,hu1,hu2⟩:=rv.get hx;have hyu:y=u:=by
   have hy:its[i]?=some y:=by simpa using hy
   rw[hu1]at hy;cases hy;rfl
  subst hyu;have hT:∀b∈[e,it],b≠s.heap.objs.size:=fun b hb=>by
   rcases mem_cons.mp hb with rfl|hb;.exact ne_of_lt (lt_size he)
   . have:b=it:=by simpa using hb
     subst this;obtain⟨o,h2,_⟩:=id hit;exact ne_of_lt (lt_size h2)
  have hTe:s.heap.objs.size≠e:=(hT e (by simp)).symm;have WL:∀b o,b∉[e,it]->s.heap.get? b=some o->h''.get? b=some o:=fun b o hb q=>by have h1:b≠e:=fun z=>hb (by simp[z]);have h2:b≠it:=fun z=>hb (by simp[z]);exact sb.extBut b o h1 (kp b o h1 h2 q)
  have xX:h''.get? s.heap.objs.size=some {cls:=.type "tuple",data:=.seq #[.int i tk,y]}:=sb.extBut _ _ hTe ht;refine⟨.ref s.heap.objs.size,upd H s.heap.objs.size (.tup [.int (i:Int),x]),?_,rfl,⟨_,x,I.fresh,rfl,rfl,fun ys hys=>?_⟩,⟨⟨_,JN⟩,?_⟩,fun b hb=>?_⟩
  . refine I.yL (ch:=[e,it]) (t':=tk+1) WL (fun b hb=>?_) (fun b hb=>(hf b hb)) ⟨(by show 2<=sizeLine;decide),[.int i tk,y],.cons ⟨_,rfl⟩ (.cons hu2 .nil),⟨_,xX,rfl,_,rfl⟩⟩;rcases mem_cons.mp hb with rfl|hb;.exact⟨_,JN⟩
    . have:b=it:=by simpa using hb
      subst this;obtain⟨o,h2,_⟩:=id hst.1;exact⟨o,sb.extBut _ _ (Ne.symm hei) h2⟩
  .rw[I.mJ hys hq];exact hx
  .obtain⟨o,h2,r⟩:=hst.1;exact⟨o,sb.extBut _ _ (Ne.symm hei) h2,r⟩
  .rw[aC (hT b hb)];exact(hf b hb).1
 done:=fun X hP hw hK hc i pins s σ H E I hf st stop=>by subst hP hw hK;obtain⟨⟨old,he⟩,hit⟩:=st;obtain⟨xs,hq,hx⟩:=stop;obtain⟨its,rv,pl,hz⟩:=I.list hq;have hL:s.heap.IsList a its.toArray:=pl.isList;refine wpAny_pyNext_enum_endD (Dj (show X.A.in1.handled=none from I.ok.hd hc) it a its.toArray i (by rw[size_toArray,<-rv.length];exact hx)) he ⟨rfl,hit,hL⟩ fun h' hs=>⟨rfl,?_⟩;have f:=hf it (by simp);exact I.turned (t':=s.toks) (fun b o hb q=>hs b o hb q) f.1 f.2.1 f.2.2.2.1 f.2.2.2.2.1 f.2.2.2.2.2
 self:=fun A i s Q E st q=>wpAny_pyIter_enum st.1.choose_spec q
noncomputable def yK(K:PySem.W.Frag)(a:Addr):It:=⟨fun i H=>∃xs x,iD K H a xs/\xs[i]?=some x,fun i H x H'=>∃T v,H T=none/\x=.ref T/\H'=upd H T (.tup [.int (i:Int),v])/\∀xs,iD K H a xs->xs[i]?=some v,fun i H=>∃xs,iD K H a xs/\xs.length<=i⟩
theorem Qp(hh:A.handled=none)(it l:Addr)(hne:l≠it)(items:Array Value):Draws prog w A it [it,l] items.size (fun i v=>items[i]?=some v) (fun i h=>h.IsTupleIter it l i/\h.IsTuple l items)where
 live:=fun _ _ st=>let⟨o,ho,_⟩:=st.1;⟨o,ho⟩;frame:=fun _ _ _ st hk=>⟨(let⟨o,ho,r⟩:=st.1;⟨o,hk it (by simp) o ho,r⟩),(let⟨o,ho,r⟩:=st.2;⟨o,hk l (by simp) o ho,r⟩)⟩;item:=fun i s Q E hi st hQ=>by refine gJ st.1 st.2 (x:=items[i]) (by simp[hi]) fun h' hit' hs'=>?_;exact hQ _ h' s.toks (by simp[hi]) ⟨hit',(let⟨o,ho,r⟩:=st.2;⟨o,hs'.extBut l o hne ho,r⟩)⟩ hs'
 done:=fun s Q E st hE=>eX hh st.1 st.2 (by simp) hE
theorem Ep(hh:A.handled=none)(it l:Addr)(items:Array Value)(n:Nat)(hn:items.size<=n):Draws prog w A it [it,l] n (fun _ _=>True) (fun i h=>i=n/\h.IsTupleIter it l i/\h.IsTuple l items)where live:=fun _ _ st=>let⟨o,ho,_⟩:=st.2.1;⟨o,ho⟩;frame:=fun _ _ _ st hk=>⟨st.1,(let⟨o,ho,r⟩:=st.2.1;⟨o,hk it (by simp) o ho,r⟩),(let⟨o,ho,r⟩:=st.2.2;⟨o,hk l (by simp) o ho,r⟩)⟩;item:=fun i s Q E hi st hQ=>absurd st.1 (ne_of_lt hi);done:=fun s Q E st hE=>eX hh st.2.1 st.2.2 (by simp;exact hn) hE
theorem Dz{P:Program}{K:PySem.W.Frag}{elts:List Expr}{x1}{tp:Pos}(a it e:Addr)(hei:e≠it):Turn P w K (.Tuple elts x1 tp) (yK K a) [e,it] e (fun i h=>(∃old,IsEnum h e it (i:Int) old)/\h.IsTupleIter it a i)where
 mem:=by simp
 obj:=fun i h st b hb=>by
  obtain⟨⟨old,h1⟩,o,h2,h3,h4⟩:=st;rcases mem_cons.mp hb with rfl|hb;.exact⟨_,h1,fun v z=>by cases z⟩
  . have:b=it:=by simpa using hb
    subst this;exact⟨o,h2,fun v z=>by rw[h4]at z;cases z⟩
 keep:=fun i h h' st k=>by obtain⟨⟨old,h1⟩,o,h2,h3⟩:=st;exact⟨⟨old,k e (by simp) _ h1⟩,o,k it (by simp) _ h2,h3⟩
 item:=fun X hP hw hK hc i pins s σ H E I hf st go=>by
  subst hP hw hK;obtain⟨⟨old,he⟩,hit⟩:=st;obtain⟨xs,x,hq,hx⟩:=go;obtain⟨its,rv,pl,hz⟩:=I.tuple hq;have hL:s.heap.IsTuple a its.toArray:=pl;obtain⟨oa,ha,hca,_⟩:=id hL;have hea:e≠a:=by rintro rfl;rw[he]at ha;cases ha;exact absurd (show Value.type "enumerate"=Value.type _ from hca) (by decide)
  have hia:a≠it:=by rintro rfl;obtain⟨o,h2,h3,_⟩:=id hit;rw[h2]at ha;cases ha;rw[h3]at hca;exact absurd hca (by decide)
  have hlt:i<its.toArray.size:=by rw[size_toArray,<-rv.length];exact(dI hx).1
  refine wpAny_pyNext_enum_itemD (Qp (show X.A.in1.handled=none from I.ok.hd hc) it a hia its.toArray) he ⟨hit,hL⟩ hlt hei (by simp[hei,hea]) fun y h' tk hy heo hst ht hsz kp=>?_;refine⟨_,rfl,wpAny_letOwnedTupleGo_enum heo fun h'' JN sb=>?_⟩;obtain⟨u,hu1,hu2⟩:=rv.get hx;have hyu:y=u:=by
   have hy:its[i]?=some y:=by simpa using hy
   rw[hu1]at hy;cases hy;rfl
  subst hyu;have hT:∀b∈[e,it],b≠s.heap.objs.size:=fun b hb=>by
   rcases mem_cons.mp hb with rfl|hb;.exact ne_of_lt (lt_size he)
   . have:b=it:=by simpa using hb
     subst this;obtain⟨o,h2,_⟩:=id hit;exact ne_of_lt (lt_size h2)
  have hTe:s.heap.objs.size≠e:=(hT e (by simp)).symm;have WL:∀b o,b∉[e,it]->s.heap.get? b=some o->h''.get? b=some o:=fun b o hb q=>by have h1:b≠e:=fun z=>hb (by simp[z]);have h2:b≠it:=fun z=>hb (by simp[z]);exact sb.extBut b o h1 (kp b o h1 h2 q)
  have xX:h''.get? s.heap.objs.size=some {cls:=.type "tuple",data:=.seq #[.int i tk,y]}:=sb.extBut _ _ hTe ht;refine⟨.ref s.heap.objs.size,upd H s.heap.objs.size (.tup [.int (i:Int),x]),?_,rfl,⟨_,x,I.fresh,rfl,rfl,fun ys hys=>?_⟩,⟨⟨_,JN⟩,?_⟩,fun b hb=>?_⟩
  . refine I.yL (ch:=[e,it]) (t':=tk+1) WL (fun b hb=>?_) (fun b hb=>(hf b hb)) ⟨(by show 2<=sizeLine;decide),[.int i tk,y],.cons ⟨_,rfl⟩ (.cons hu2 .nil),⟨_,xX,rfl,_,rfl⟩⟩;rcases mem_cons.mp hb with rfl|hb;.exact⟨_,JN⟩
    . have:b=it:=by simpa using hb
      subst this;obtain⟨o,h2,_⟩:=id hst.1;exact⟨o,sb.extBut _ _ (Ne.symm hei) h2⟩
  .rw[I.j8 hys hq];exact hx
  .obtain⟨o,h2,r⟩:=hst.1;exact⟨o,sb.extBut _ _ (Ne.symm hei) h2,r⟩
  .rw[aC (hT b hb)];exact(hf b hb).1
 done:=fun X hP hw hK hc i pins s σ H E I hf st stop=>by subst hP hw hK;obtain⟨⟨old,he⟩,hit⟩:=st;obtain⟨xs,hq,hx⟩:=stop;obtain⟨its,rv,pl,hz⟩:=I.tuple hq;have hL:s.heap.IsTuple a its.toArray:=pl;refine wpAny_pyNext_enum_endD (Ep (show X.A.in1.handled=none from I.ok.hd hc) it a its.toArray i (by rw[size_toArray,<-rv.length];exact hx)) he ⟨rfl,hit,hL⟩ fun h' hs=>⟨rfl,?_⟩;have f:=hf it (by simp);exact I.turned (t':=s.toks) (fun b o hb q=>hs b o hb q) f.1 f.2.1 f.2.2.2.1 f.2.2.2.2.1 f.2.2.2.2.2
 self:=fun A i s Q E st q=>wpAny_pyIter_enum st.1.choose_spec q
section
variable{X:Cx}{elts:List Expr}{x1:Nat}{tp:Pos}
def acd(K:PySem.W.Frag)(tl:TE):TI:=fun σ H R=>tl σ H fun x H1=>∃a,x=.ref a/\(((∃xs,dX K H1 a xs)/\R (yz K a) H1)\/((∃xs,iD K H1 a xs)/\R (yK K a) H1))
theorem boot_enumerate:bootBuiltins "enumerate"=some (.type "enumerate"):=by decide+kernel
theorem S8{a:Expr}{ta:TE}{p pos:Pos}(hg:Gl X "enumerate")(hm:X.mg "enumerate"=none)(ha:PE X a ta)(hs:starEach [a] X.env=[(false,eval a X.env)]:=by rfl):PI X (.Tuple elts x1 tp) (.Call (.Name "enumerate" p) [a] [] pos) (acd X.K ta):=by
 intro pins s σ H R I h;refine Call_ (iM I hg hm boot_enumerate (PyProof.Rows.callWith_type1 (bR ((bK ha dH hs) pos pins s σ H (fun vs H1=>match vs with|[x]=>∃a,x=.ref a/\(((∃xs,dX X.K H1 a xs)/\R (yz X.K a) H1)\/((∃xs,iD X.K H1 a xs)/\R (yK X.K a) H1))|_=>False) I h) ?_) hs rfl));rintro us s1⟨vs,H1,I1,r1,q1⟩
 . obtain⟨ad,q,vs1⟩:∃ad,(((∃xs,dX X.K H1 ad xs)/\R (yz X.K ad) H1)\/((∃xs,iD X.K H1 ad xs)/\R (yK X.K ad) H1))/\vs=[.ref ad]:=by cases vs with|nil=>cases q1|cons x r=>cases r with|nil=>obtain⟨ad,rfl,q⟩:=q1;exact⟨ad,q,rfl⟩|cons _ _=>cases q1
   subst vs1;obtain⟨u,rfl,ru⟩:=r1.one;cases ru;have fin:∀(h':Heap)(tn:Nat->Heap->Prop)(J:It),Turn X.prog X.w X.K (.Tuple elts x1 tp) J [s1.heap.objs.size+1,s1.heap.objs.size] (s1.heap.objs.size+1) tn->tn 0 h'->IsEnum h' (s1.heap.objs.size+1) s1.heap.objs.size 0 .none->(∀b o,s1.heap.get? b=some o->h'.get? b=some o)->R J H1->wpAny (model X.prog X.w) X.A (pyIter (.ref (s1.heap.objs.size+1))) (PIE X pins σ (.Tuple elts x1 tp) R) X.xe {s1 with heap:=h'}:=fun h' tn J T t0 he kp q=>by
    refine wpAny_pyIter_enum he ⟨_,_,tn,J,H1,rfl,I1.kept (t':=s1.toks) kp,T,t0,fun b hb=>?_,q⟩;have hb':s1.heap.objs.size<=b:=by
     rcases mem_cons.mp hb with rfl|hb;.exact le_succ _
     . have:b=s1.heap.objs.size:=by simpa using hb
       rw[this];exact dh
    exact I1.yw hb' (I1.hok.fresh hb')
   rcases q with⟨⟨xs,hq⟩,q⟩|⟨⟨xs,hq⟩,q⟩;.obtain⟨its,rv,pl,hz⟩:=I1.list hq;exact call_enumerate_list pl.isList fun h' he hi hsz kp=>fin h' _ _ (DQ ad s1.heap.objs.size (s1.heap.objs.size+1) (Nat.succ_ne_self _)) ⟨⟨_,he⟩,hi⟩ he kp q
   .obtain⟨its,rv,pl,hz⟩:=I1.tuple hq;exact ju pl fun h' he hi hsz kp=>fin h' _ _ (Dz ad s1.heap.objs.size (s1.heap.objs.size+1) (Nat.succ_ne_self _)) ⟨⟨_,he⟩,hi⟩ he kp q
end
end L2
namespace HH
open PySem L2 PySem.Spec PyProof.Rows
section
variable{K:PySem.W.Frag}{F F1 H H1:Hp}{ρ ρ1:List Sl}{σ:L2.St}{ds:List D}{a:Addr}
theorem qz{F' H':Hp}{T:Addr}{v w:V}{d1 d2:D}(sm:aF F' H')(hT:H' T=none)(r1:Rep K F' v d1)(r2:Rep K F' w d2):∃F'',Ext F' H' F'' (upd H' T (.tup [v,w]))/\Rep K F'' (.ref T) (.tup [d1,d2]):=yW (Q:=fun v kh=>∃F'',Ext F' H' F'' kh/\Rep K F'' v (.tup [d1,d2])) sm (.cons r1 (.cons r2 .nil)) hT fun v F'' kh x rn=>⟨F'',x,rn⟩
theorem HW{xs:List V}{F' H':Hp}(hq:dX K H' a xs)(r:aG K F' xs ds)(s:aF F' H')(k:Nat):(∀d,(ds.mapIdx fun i d=>D.tup [.int (i:Int),d])[k]?=some d->(yz K a).go k H'/\∀x kh,(yz K a).JC k H' x kh->∃F'',Ext F' H' F'' kh/\Rep K F'' x d)/\((ds.mapIdx fun i d=>D.tup [.int (i:Int),d]).length<=k->(yz K a).stop k H'):=by refine⟨fun d hd=>?_,fun h=>⟨xs,hq,by rw[r.length];simpa using h⟩⟩;rw[List.getElem?_mapIdx]at hd;obtain⟨d0,e1,e2⟩:=map_some hd;subst e2;obtain⟨w,h1,h2⟩:=r.get e1;refine⟨⟨xs,w,hq,h1⟩,?_⟩;rintro x kh⟨T,v,hT,hx,hH,y⟩;subst hx;subst hH;have:=y xs hq;rw[h1]at this;cases this;exact qz s hT (bN _) h2
theorem Jh{xs:List V}{F' H':Hp}(hq:iD K H' a xs)(r:aG K F' xs ds)(s:aF F' H')(k:Nat):(∀d,(ds.mapIdx fun i d=>D.tup [.int (i:Int),d])[k]?=some d->(yK K a).go k H'/\∀x kh,(yK K a).JC k H' x kh->∃F'',Ext F' H' F'' kh/\Rep K F'' x d)/\((ds.mapIdx fun i d=>D.tup [.int (i:Int),d]).length<=k->(yK K a).stop k H'):=by refine⟨fun d hd=>?_,fun h=>⟨xs,hq,by rw[r.length];simpa using h⟩⟩;rw[List.getElem?_mapIdx]at hd;obtain⟨d0,e1,e2⟩:=map_some hd;subst e2;obtain⟨w,h1,h2⟩:=r.get e1;refine⟨⟨xs,w,hq,h1⟩,?_⟩;rintro x kh⟨T,v,hT,hx,hH,y⟩;subst hx;subst hH;have:=y xs hq;rw[h1]at this;cases this;exact qz s hT (bN _) h2
end
section
variable{X:Cx}{c:Call}{e a:Expr}{pa:P}{pos:Pos}{elts:List Expr}{x1:Nat}{tp:Pos}
theorem S7{x:Str}{p':Pos}(hx:x="enumerate")(hg:Gl X x)(hm:X.mg x=none)(ha:SX X c a pa)(hs:starEach [a] X.env=[(false,eval a X.env)]:=by rfl):SI X c (.Tuple elts x1 tp) (.Call (.Name x p') [a] [] pos) (.Zx pa):=by subst hx;refine kE (S8 hg hm ha.ev hs) ?_;rintro σ H R⟨F,ρ,ds,ρ1,g,e,k⟩;obtain⟨r,ρ2,e1,e2⟩:=aj e;have zz:=aD e2;clear e2;obtain⟨e2,e3⟩:=zz;subst e3;rw[HH.E22]at e1;obtain⟨r0,ρ3,e4,e5⟩:=aj e1;have zz:=aD e5;clear e5;obtain⟨e5,e6⟩:=zz;subst e6;obtain⟨es,f1,f2⟩:=map_some e5;subst f2;cases e2;refine⟨F,ρ,r0,_,g,e4,fun v F' H' s rr=>?_⟩;obtain⟨F2,s2,_,rp⟩:=s.cX rr;cases hd:r0.d with|tup es'=>rw[hd]at f1 rp;cases f1;rw[Rep]at rp;obtain⟨ad,xs,rfl,h1,h2⟩:=rp;exact⟨ad,rfl,.inr ⟨⟨xs,aF.gn s2.gs.sub h1⟩,k _ _ _ ⟨s2.gs,fun n k F' ρ' σ' H' s'=>Jh (aF.gn s'.gs.sub (aF.gn s'.bO h1)) (h2.mono s'.bO) s'.gs.sub k,fun F3 ρ3 σ3 H3 s3=>⟨s2.trans s3,fun v r rr=>rr.later s2⟩⟩⟩⟩|lst es'=>rw[hd]at f1 rp;cases f1;rw[Rep]at rp;obtain⟨ad,xs,rfl,h1,h2⟩:=rp;exact⟨ad,rfl,.inl ⟨⟨xs,s2.gs.sub.seq h1⟩,k _ _ _ ⟨s2.gs,fun n k F' ρ' σ' H' s'=>HW (s'.gs.sub.seq (s'.bO.seq h1)) (h2.mono s'.bO) s'.gs.sub k,fun F3 ρ3 σ3 H3 s3=>⟨s2.trans s3,fun v r rr=>rr.later s2⟩⟩⟩⟩|_=>rw[hd]at f1;cases f1
end
end HH
end
section
namespace PySem
structure Nx(prog:Program)(w:World)(A:Around)(it src:Addr)(Sx:Nat->Heap->Prop)(get:Nat->Option Value):Prop where
 obj:∀k h,Sx k h->∃o,h.get? it=some o/\∀v,o.data≠.cell v
 keep:∀k h h',Sx k h->(∀o,h.get? it=some o->h'.get? it=some o)->(∀o,h.get? src=some o->h'.get? src=some o)->Sx k h'
 item:∀k(s:Shared)(Q:Value->Shared->Prop)(E:Value->Shared->Prop)x,Sx k s.heap->get k=some x->(∀h',Sx (k+1) h'->SameBut it s.heap h'->Q x {s with heap:=h'})->wpAny (model prog w) A (Builtin.SmallTypes.nextOf (.ref it)) Q E s
 fin:∀k(s:Shared)(Q:Value->Shared->Prop)(E:Value->Shared->Prop),Sx k s.heap->get k=none->(∀h' e,Heap.ExtBut it s.heap h'->(∃o,h'.get? e=some o/\o.cls=.type "StopIteration")->E (.ref e) {s with heap:=h'})->wpAny (model prog w) A (Builtin.SmallTypes.nextOf (.ref it)) Q E s
variable{Q:Value->Shared->Prop}{l1 l2:Addr}{xs ys:Array Value}
section
variable{prog:Program}{w:World}{A:Around}{E:Value->Shared->Prop}{s:Shared}
theorem Nx.list(hh:A.handled=none)(it l:Addr)(hne:l≠it)(items:Array Value):Nx prog w A it l (fun k h=>h.IsListIter it l k/\h.IsList l items) (fun k=>items[k]?)where obj:=fun k h st=>let⟨o,h1,_,h3⟩:=st.1;⟨o,h1,fun v z=>by rw[h3]at z;cases z⟩;keep:=fun k h h' st a b=>⟨(let⟨o,ho,r⟩:=st.1;⟨o,a o ho,r⟩),(let⟨o,ho,r⟩:=st.2;⟨o,b o ho,r⟩)⟩;item:=fun k s Q E x st hx hQ=>wpAny_nextOf_list_item st.1 st.2 hx fun h' hit hs=>hQ h' ⟨hit,(let⟨o,ho,r⟩:=st.2;⟨o,hs.extBut l o hne ho,r⟩)⟩ hs;fin:=fun k s Q E st hx hE=>wpAny_nextOf_list_end hh st.1 st.2 hx hE
theorem Nx.tuple(hh:A.handled=none)(it l:Addr)(hne:l≠it)(items:Array Value):Nx prog w A it l (fun k h=>h.IsTupleIter it l k/\h.IsTuple l items) (fun k=>items[k]?)where obj:=fun k h st=>let⟨o,h1,_,h3⟩:=st.1;⟨o,h1,fun v z=>by rw[h3]at z;cases z⟩;keep:=fun k h h' st a b=>⟨(let⟨o,ho,r⟩:=st.1;⟨o,a o ho,r⟩),(let⟨o,ho,r⟩:=st.2;⟨o,b o ho,r⟩)⟩;item:=fun k s Q E x st hx hQ=>gJ st.1 st.2 hx fun h' hit hs=>hQ h' ⟨hit,(let⟨o,ho,r⟩:=st.2;⟨o,hs.extBut l o hne ho,r⟩)⟩ hs;fin:=fun k s Q E st hx hE=>eX hh st.1 st.2 hx hE
variable{z TI TO i1 i2 l1 l2:Addr}{k:Nat}{S1 S2:Nat->Heap->Prop}{g1 g2:Nat->Option Value}{a b:Value}
theorem Df{x y:Value}(D:ZipApart z TI TO i1 i2 l1 l2)(N1:Nx prog w A i1 l1 S1 g1)(N2:Nx prog w A i2 l2 S2 g2)(hz:IsZip s.heap z TI TO .none)(hTI:IsPair s.heap TI (.ref i1) (.ref i2))(hTO:IsPair s.heap TO a b)(h1:S1 k s.heap)(h2:S2 k s.heap)(hx:g1 k=some x)(hy:g2 k=some y)(hQ:∀ h',IsZip h' z TI TO (rawInt s.heap.objs.size)->IsPair h' TO x y->S1 (k+1) h'->S2 (k+1) h'->IsPair h' s.heap.objs.size x y->h'.objs.size=s.heap.objs.size+1->(∀c o,c≠z->c≠TO->c≠i1->c≠i2->s.heap.get? c=some o->h'.get? c=some o)->Q (.ref s.heap.objs.size) {s with heap:=h'}):wpAny (model prog w) A (Builtin.«zip.__next__» ⟨[.ref z],[]⟩) (fun fin s'=>∃v,fin=.done (.ret v)/\Q v s') E s:=by
 show wpAny _ _ (field (.ref z) 2>>=_) _ _ _;refine wpAny_bind (wpAny_field hz rfl (x:=.bool false) rfl ?_);show wpAny _ _ (field (.ref z) 3>>=_) _ _ _;refine wpAny_bind (wpAny_field hz rfl (x:=.ref TI) rfl (wpAny_bind (wpAny_seqItems hTI rfl ?_)));show wpAny _ _ (Builtin.SmallTypes.ownedTupleIsFree (.ref z)>>=_) _ _ _;refine wpAny_bind ?_;unfold Builtin.SmallTypes.ownedTupleIsFree;refine wpAny_bind (wpAny_field hz rfl (x:=.none) rfl (wpAny_pure ?_));simp only[if_true];refine wpAny_bind (wpAny_rule (wpAny_bind (wpAny_field hz rfl (x:=.ref TO) rfl (wpAny_bind (wpAny_setField_rec hz (by simp) fun t1 z1 zU=>?_)))));have z1:IsZip t1 z TI TO .ellipsis:=z1;refine wpAny_bind ?_;simp only[List.zipIdx_cons,List.zipIdx_nil,forIn_cons,forIn_nil];refine wpAny_bind (wpAny_bind (wpAny_onRaise ?_));show wpAny _ _ (Builtin.SmallTypes.nextOf (.ref i1)>>=_) _ _ _;have q1:S1 k t1:=N1.keep _ _ _ h1 (fun o e=>zU.extBut _ _ D.i1z e) fun o e=>zU.extBut _ _ D.l1z e;refine wpAny_bind (N1.item k _ _ _ x q1 hx fun t2 q2 zV=>wpAny_pure ?_);have p2:IsPair t2 TO a b:=zV.extBut _ _ D.TOi1 (zU.extBut _ _ D.TOz hTO);refine wpAny_bind (wpAny_seqItems p2 rfl (wpAny_bind (wpAny_updateSeq_pair p2 fun t3 p3 zW=>?_)));have p3:IsPair t3 TO x b:=p3;refine wpAny_bind (wpAny_letGo (wpAny_pure (wpAny_bind (wpAny_bind (wpAny_onRaise ?_)))));show wpAny _ _ (Builtin.SmallTypes.nextOf (.ref i2)>>=_) _ _ _;have w3:S2 k t3:=N2.keep _ _ _ h2 (fun o e=>zW.extBut _ _ D.TOi2.symm (zV.extBut _ _ D.i12.symm (zU.extBut _ _ D.i2z e))) fun o e=>zW.extBut _ _ D.l2TO (zV.extBut _ _ D.l2i1 (zU.extBut _ _ D.l2z e));refine wpAny_bind (N2.item k _ _ _ y w3 hy fun t4 w4 NQ=>wpAny_pure ?_);have p4:IsPair t4 TO x b:=NQ.extBut _ _ D.TOi2 p3;refine wpAny_bind (wpAny_seqItems p4 rfl (wpAny_bind (wpAny_updateSeq_pair p4 fun t5 p5 J9=>?_)));have p5:IsPair t5 TO x y:=p5;refine wpAny_bind (wpAny_letGo (wpAny_pure (wpAny_pure (wpAny_bind (wpAny_seqItems p5 rfl (wpAny_bind (wpAny_newTuple ?_)))))));have hsz:t5.objs.size=s.heap.objs.size:=by rw[J9.1,NQ.1,zW.1,zV.1,zU.1]
 have z5:IsZip t5 z TI TO .ellipsis:=J9.extBut _ _ D.TOz.symm (NQ.extBut _ _ D.i2z.symm (zW.extBut _ _ D.TOz.symm (zV.extBut _ _ D.i1z.symm z1)));have kp:∀c o,c≠z->c≠TO->c≠i1->c≠i2->s.heap.get? c=some o->t5.get? c=some o:=fun c o c1 c2 c3 c4 e=>J9.extBut _ _ c2 (NQ.extBut _ _ c4 (zW.extBut _ _ c2 (zV.extBut _ _ c3 (zU.extBut _ _ c1 e))));have q5:S1 (k+1) t5:=N1.keep _ _ _ q2 (fun o e=>J9.extBut _ _ D.TOi1.symm (NQ.extBut _ _ D.i12 (zW.extBut _ _ D.TOi1.symm e))) fun o e=>J9.extBut _ _ D.l1TO (NQ.extBut _ _ D.l1i2 (zW.extBut _ _ D.l1TO e));have w5:S2 (k+1) t5:=N2.keep _ _ _ w4 (fun o e=>J9.extBut _ _ D.TOi2.symm e) fun o e=>J9.extBut _ _ D.l2TO e;have zlt:z<t5.objs.size:=lt_size z5;show wpAny _ _ (Builtin.SmallTypes.ownedTupleHandOut (.ref z) (.ref t5.objs.size)>>=_) _ _ _;refine wpAny_bind ?_;unfold Builtin.SmallTypes.ownedTupleHandOut;have z6:IsZip (t5.push {cls:=.type "tuple",data:=.seq #[x,y]}) z TI TO .ellipsis:=dC z5;refine wpAny_bind (wpAny_setField_rec z6 (by simp) fun t7 z7 sb7=>?_);have z7:IsZip t7 z TI TO (rawInt t5.objs.size):=z7;refine wpAny_setField_rec z7 (by simp) fun t8 z8 sb8=>?_;have z8:IsZip t8 z TI TO (rawInt t5.objs.size):=z8;have up:∀c o,c≠z->t5.get? c=some o->t8.get? c=some o:=fun c o c1 e=>sb8.extBut _ _ c1 (sb7.extBut _ _ c1 (dC e));have T8:IsPair t8 t5.objs.size x y:=sb8.extBut _ _ (ne_of_gt zlt) (sb7.extBut _ _ (ne_of_gt zlt) (get?_push_size _ rfl));have n8:t8.objs.size=t5.objs.size+1:=by rw[sb8.1,sb7.1,size_push]
 rw[hsz]at z8 T8 n8;refine wpAny_pure ⟨_,rfl,?_⟩;show Q (.ref t5.objs.size) _;rw[hsz];exact hQ t8 z8 (up _ _ D.TOz p5) (N1.keep _ _ _ q5 (fun o e=>up _ o D.i1z e) fun o e=>up _ o D.l1z e) (N2.keep _ _ _ w5 (fun o e=>up _ o D.i2z e) fun o e=>up _ o D.l2z e) T8 n8 fun c o c1 c2 c3 c4 e=>up c o c1 (kp c o c1 c2 c3 c4 e)
theorem Jj{Q:Fin->Shared->Prop}(D:ZipApart z TI TO i1 i2 l1 l2)(N1:Nx prog w A i1 l1 S1 g1)(N2:Nx prog w A i2 l2 S2 g2)(hz:IsZip s.heap z TI TO .none)(hTI:IsPair s.heap TI (.ref i1) (.ref i2))(hTO:IsPair s.heap TO a b)(h1:S1 k s.heap)(h2:S2 k s.heap)(hend:g1 k=none\/g2 k=none)(hE:∀h' e,(∀c o,c≠z->c≠TO->c≠i1->c≠i2->s.heap.get? c=some o->h'.get? c=some o)->(∃o,h'.get? e=some o/\o.cls=.type "StopIteration")->E (.ref e) {s with heap:=h'}):wpAny (model prog w) A (Builtin.«zip.__next__» ⟨[.ref z],[]⟩) Q E s:=by
 show wpAny _ _ (field (.ref z) 2>>=_) _ _ _;refine wpAny_bind (wpAny_field hz rfl (x:=.bool false) rfl ?_);show wpAny _ _ (field (.ref z) 3>>=_) _ _ _;refine wpAny_bind (wpAny_field hz rfl (x:=.ref TI) rfl (wpAny_bind (wpAny_seqItems hTI rfl ?_)));show wpAny _ _ (Builtin.SmallTypes.ownedTupleIsFree (.ref z)>>=_) _ _ _;refine wpAny_bind ?_;unfold Builtin.SmallTypes.ownedTupleIsFree;refine wpAny_bind (wpAny_field hz rfl (x:=.none) rfl (wpAny_pure ?_));simp only[if_true];refine wpAny_bind (wpAny_rule (wpAny_bind (wpAny_field hz rfl (x:=.ref TO) rfl (wpAny_bind (wpAny_setField_rec hz (by simp) fun t1 z1 zU=>?_)))));have z1:IsZip t1 z TI TO .ellipsis:=z1;refine wpAny_bind ?_;simp only[List.zipIdx_cons,List.zipIdx_nil,forIn_cons,forIn_nil];refine wpAny_bind (wpAny_bind (wpAny_onRaise ?_));show wpAny _ _ (Builtin.SmallTypes.nextOf (.ref i1)>>=_) _ _ _
 have q1:S1 k t1:=N1.keep _ _ _ h1 (fun o e=>zU.extBut _ _ D.i1z e) fun o e=>zU.extBut _ _ D.l1z e;cases hx:g1 k with|none=>
   refine wpAny_bind (N1.fin k _ _ _ q1 hx fun t2 e zV he=>?_);obtain⟨oe,hoe,hce⟩:=he;have z2:IsZip t2 z TI TO .ellipsis:=zV _ _ D.i1z.symm z1;have hez:e≠z:=fun x=>by subst x;rw[z2]at hoe;cases hoe;simp at hce
   exact wpAny_setField_rec z2 (by simp) fun t3 _ zW=>hE t3 e (fun c o c1 _ c3 _ x=>zW.extBut _ _ c1 (zV _ _ c3 (zU.extBut _ _ c1 x))) ⟨oe,zW.extBut _ _ hez hoe,hce⟩|some x=>
   have hy:g2 k=none:=by rcases hend with h|h;rw[hx]at h;cases h;exact h
   refine wpAny_bind (N1.item k _ _ _ x q1 hx fun t2 q2 zV=>wpAny_pure ?_);have p2:IsPair t2 TO a b:=zV.extBut _ _ D.TOi1 (zU.extBut _ _ D.TOz hTO);refine wpAny_bind (wpAny_seqItems p2 rfl (wpAny_bind (wpAny_updateSeq_pair p2 fun t3 p3 zW=>?_)));refine wpAny_bind (wpAny_letGo (wpAny_pure (wpAny_bind (wpAny_bind (wpAny_onRaise ?_)))));show wpAny _ _ (Builtin.SmallTypes.nextOf (.ref i2)>>=_) _ _ _;have w3:S2 k t3:=N2.keep _ _ _ h2 (fun o e=>zW.extBut _ _ D.TOi2.symm (zV.extBut _ _ D.i12.symm (zU.extBut _ _ D.i2z e))) fun o e=>zW.extBut _ _ D.l2TO (zV.extBut _ _ D.l2i1 (zU.extBut _ _ D.l2z e));refine wpAny_bind (N2.fin k _ _ _ w3 hy fun t4 e NQ he=>?_);obtain⟨oe,hoe,hce⟩:=he;have z4:IsZip t4 z TI TO .ellipsis:=NQ _ _ D.i2z.symm (zW.extBut _ _ D.TOz.symm (zV.extBut _ _ D.i1z.symm z1));have hez:e≠z:=fun x=>by subst x;rw[z4]at hoe;cases hoe;simp at hce
   exact wpAny_setField_rec z4 (by simp) fun t5 _ J9=>hE t5 e (fun c o c1 c2 c3 c4 x=>J9.extBut _ _ c1 (NQ _ _ c4 (zW.extBut _ _ c2 (zV.extBut _ _ c3 (zU.extBut _ _ c1 x))))) ⟨oe,J9.extBut _ _ hez hoe,hce⟩
theorem nM{x y:Value}{Q:Option Value->Shared->Prop}(D:ZipApart z TI TO i1 i2 l1 l2)(N1:Nx prog w A.in1 i1 l1 S1 g1)(N2:Nx prog w A.in1 i2 l2 S2 g2)(hz:IsZip s.heap z TI TO .none)(hTI:IsPair s.heap TI (.ref i1) (.ref i2))(hTO:IsPair s.heap TO a b)(h1:S1 k s.heap)(h2:S2 k s.heap)(hx:g1 k=some x)(hy:g2 k=some y)(hQ:∀ h',IsZip h' z TI TO (rawInt s.heap.objs.size)->IsPair h' TO x y->S1 (k+1) h'->S2 (k+1) h'->IsPair h' s.heap.objs.size x y->h'.objs.size=s.heap.objs.size+1->(∀c o,c≠z->c≠TO->c≠i1->c≠i2->s.heap.get? c=some o->h'.get? c=some o)->Q (some (.ref s.heap.objs.size)) {s with heap:=h'}):wpAny (model prog w) A (pyNext (.ref z)) Q E s:=by have hT:s.TypeIs (.ref z) "zip":=⟨_,hz,rfl⟩;unfold pyNext;exact wpAny_bind (wpAny_attempt (wpAny_callSpecial?_slot (name:=Str.ofString "__next__") hT F.slot_zip_next (wpAny_call_entry F.slot_zip_next hT F.entry_zip_next (Df D N1 N2 hz hTI hTO h1 h2 hx hy fun h' a1 a2 a3 a4 a5 a6 a7=>wpAny_pure (hQ h' a1 a2 a3 a4 a5 a6 a7)) (F.args_zip_next_1 _))))
theorem oY{Q:Option Value->Shared->Prop}(D:ZipApart z TI TO i1 i2 l1 l2)(N1:Nx prog w A.in1 i1 l1 S1 g1)(N2:Nx prog w A.in1 i2 l2 S2 g2)(hz:IsZip s.heap z TI TO .none)(hTI:IsPair s.heap TI (.ref i1) (.ref i2))(hTO:IsPair s.heap TO a b)(h1:S1 k s.heap)(h2:S2 k s.heap)(hend:g1 k=none\/g2 k=none)(hQ:∀h',(∀c o,c≠z->c≠TO->c≠i1->c≠i2->s.heap.get? c=some o->h'.get? c=some o)->Q none {s with heap:=h'}):wpAny (model prog w) A (pyNext (.ref z)) Q E s:=by have hT:s.TypeIs (.ref z) "zip":=⟨_,hz,rfl⟩;unfold pyNext;refine wpAny_bind (wpAny_attempt (wpAny_callSpecial?_slot (name:=Str.ofString "__next__") hT F.slot_zip_next (wpAny_call_entry F.slot_zip_next hT F.entry_zip_next (Jj D N1 N2 hz hTI hTO h1 h2 hend fun h' e hk he=>?_) (F.args_zip_next_1 _))));obtain⟨o,ho,hc⟩:=he;exact wpAny_bind (wpAny_isInstance (T:="StopIteration") (b:=true) ⟨o,ho,hc⟩ isSubtype_stop (wpAny_pure (hQ _ hk)))
end
theorem oZ(l1 l2:Addr)(xs ys:Array Value):Meets (Builtin.«zip.__new__» ⟨[.type "zip",.ref l1,.ref l2],[]⟩) (fun _ R s=>s.heap.IsList l1 xs/\s.heap.IsList l2 ys/\R (.ok (.ret (.ref (s.heap.objs.size+4)))) {s with heap:=((((s.heap.push {cls:=.type "list_iterator",data:=.fields #[.ref l1,.int 0 0]}).push {cls:=.type "list_iterator",data:=.fields #[.ref l2,.int 0 0]}).push {cls:=.type "tuple",data:=.seq #[.ref s.heap.objs.size,.ref (s.heap.objs.size+1)]}).push {cls:=.type "tuple",data:=.seq #[.none,.none]}).push {cls:=.type "zip",data:=.fields #[.none,.bool false,.bool false,.ref (s.heap.objs.size+2),.ref (s.heap.objs.size+3)]}}):=.of_wp fun prog w A R s h=>by obtain⟨hp,g,d,tk,os⟩:=s;obtain⟨hl1,hl2,h⟩:=h;have hsub:=sub_zip;have hL1:Heap.IsList (Shared.heap ⟨hp,g,d,tk,os⟩) l1 xs:=hl1;have hL2:Heap.IsList (Shared.heap ⟨hp.push {cls:=.type "list_iterator",data:=.fields #[.ref l1,.int 0 0]},g,d,tk,os⟩) l2 ys:=Heap.IsList.push hl2 _;wp_walk using wpAny_pyIter_list hL1,wpAny_pyIter_list hL2;simp only[size_push]at*;exact⟨_,rfl,h⟩
section
variable{prog:Program}{w:World}{A:Around}{E:Value->Shared->Prop}{s:Shared}
theorem yQ(hl1:s.heap.IsList l1 xs)(hl2:s.heap.IsList l2 ys)(h:∀ h',IsZip h' (s.heap.objs.size+4) (s.heap.objs.size+2) (s.heap.objs.size+3) .none->IsPair h' (s.heap.objs.size+2) (.ref s.heap.objs.size) (.ref (s.heap.objs.size+1))->IsPair h' (s.heap.objs.size+3) .none .none->h'.IsListIter s.heap.objs.size l1 0->h'.IsListIter (s.heap.objs.size+1) l2 0->(∀c o,s.heap.get? c=some o->h'.get? c=some o)->Q (.ref (s.heap.objs.size+4)) {s with heap:=h'}):wpAny (model prog w) A (call (.type "zip") [.ref l1,.ref l2]) Q E s:=by
 refine callType_new F.called_zip (by decide) (F.typeCall_zip_2 _ _) (F.newCall_zip_2 _ _) (fun obj=>F.args_object_init_3 obj _ _) F.entry_zip_new (oZ l1 l2 xs ys) ⟨hl1,hl2,?_⟩;generalize e1:s.heap.push {cls:=.type "list_iterator",data:=.fields #[.ref l1,.int 0 0]}=t1;have n1:t1.objs.size=s.heap.objs.size+1:=by rw[<-e1,size_push]
 have a1:t1.get? s.heap.objs.size=some {cls:=.type "list_iterator",data:=.fields #[.ref l1,.int 0 0]}:=by rw[<-e1];exact get?_push_size _ rfl
 have k1:∀c o,s.heap.get? c=some o->t1.get? c=some o:=fun c o e=>by rw[<-e1];exact dC e
 generalize e2:t1.push {cls:=.type "list_iterator",data:=.fields #[.ref l2,.int 0 0]}=t2;have n2:t2.objs.size=s.heap.objs.size+2:=by rw[<-e2,size_push,n1]
 have a2:t2.get? (s.heap.objs.size+1)=some {cls:=.type "list_iterator",data:=.fields #[.ref l2,.int 0 0]}:=by rw[<-n1,<-e2];exact get?_push_size _ rfl
 have k2:∀c o,t1.get? c=some o->t2.get? c=some o:=fun c o e=>by rw[<-e2];exact dC e
 generalize e3:t2.push {cls:=.type "tuple",data:=.seq #[.ref s.heap.objs.size,.ref (s.heap.objs.size+1)]}=t3;have n3:t3.objs.size=s.heap.objs.size+3:=by rw[<-e3,size_push,n2]
 have a3:t3.get? (s.heap.objs.size+2)=some {cls:=.type "tuple",data:=.seq #[.ref s.heap.objs.size,.ref (s.heap.objs.size+1)]}:=by rw[<-n2,<-e3];exact get?_push_size _ rfl
 have k3:∀c o,t2.get? c=some o->t3.get? c=some o:=fun c o e=>by rw[<-e3];exact dC e
 generalize e4:t3.push {cls:=.type "tuple",data:=.seq #[.none,.none]}=t4;have n4:t4.objs.size=s.heap.objs.size+4:=by rw[<-e4,size_push,n3]
 have a4:t4.get? (s.heap.objs.size+3)=some {cls:=.type "tuple",data:=.seq #[.none,.none]}:=by rw[<-n3,<-e4];exact get?_push_size _ rfl
 have k4:∀c o,t3.get? c=some o->t4.get? c=some o:=fun c o e=>by rw[<-e4];exact dC e
 generalize e5:t4.push {cls:=.type "zip",data:=.fields #[.none,.bool false,.bool false,.ref (s.heap.objs.size+2),.ref (s.heap.objs.size+3)]}=t5;have a5:t5.get? (s.heap.objs.size+4)=some {cls:=.type "zip",data:=.fields #[.none,.bool false,.bool false,.ref (s.heap.objs.size+2),.ref (s.heap.objs.size+3)]}:=by rw[<-n4,<-e5];exact get?_push_size _ rfl
 have k5:∀c o,t4.get? c=some o->t5.get? c=some o:=fun c o e=>by rw[<-e5];exact dC e
 exact⟨⟨_,a5,rfl⟩,h t5 a5 (k5 _ _ (k4 _ _ a3)) (k5 _ _ a4) ⟨_,k5 _ _ (k4 _ _ (k3 _ _ (k2 _ _ a1))),rfl,rfl⟩ ⟨_,k5 _ _ (k4 _ _ (k3 _ _ a2)),rfl,rfl⟩ fun c o e=>k5 _ _ (k4 _ _ (k3 _ _ (k2 _ _ (k1 _ _ e))))⟩
end
theorem o9(l1 l2:Addr)(xs ys:Array Value):Meets (Builtin.«zip.__new__» ⟨[.type "zip",.ref l1,.ref l2],[]⟩) (fun _ R s=>s.heap.IsList l1 xs/\s.heap.IsTuple l2 ys/\R (.ok (.ret (.ref (s.heap.objs.size+4)))) {s with heap:=((((s.heap.push {cls:=.type "list_iterator",data:=.fields #[.ref l1,.int 0 0]}).push {cls:=.type "tuple_iterator",data:=.fields #[.ref l2,.int 0 0]}).push {cls:=.type "tuple",data:=.seq #[.ref s.heap.objs.size,.ref (s.heap.objs.size+1)]}).push {cls:=.type "tuple",data:=.seq #[.none,.none]}).push {cls:=.type "zip",data:=.fields #[.none,.bool false,.bool false,.ref (s.heap.objs.size+2),.ref (s.heap.objs.size+3)]}}):=.of_wp fun prog w A R s h=>by obtain⟨hp,g,d,tk,os⟩:=s;obtain⟨hl1,hl2,h⟩:=h;have hsub:=sub_zip;have hL1:Heap.IsList (Shared.heap ⟨hp,g,d,tk,os⟩) l1 xs:=hl1;have hL2:Heap.IsTuple (Shared.heap ⟨hp.push {cls:=.type "list_iterator",data:=.fields #[.ref l1,.int 0 0]},g,d,tk,os⟩) l2 ys:=Heap.IsTuple.push hl2 _;wp_walk using wpAny_pyIter_list hL1,wpAny_pyIter_tuple hL2;simp only[size_push]at*;exact⟨_,rfl,h⟩
section
variable{prog:Program}{w:World}{A:Around}{E:Value->Shared->Prop}{s:Shared}
theorem zP(hl1:s.heap.IsList l1 xs)(hl2:s.heap.IsTuple l2 ys)(h:∀ h',IsZip h' (s.heap.objs.size+4) (s.heap.objs.size+2) (s.heap.objs.size+3) .none->IsPair h' (s.heap.objs.size+2) (.ref s.heap.objs.size) (.ref (s.heap.objs.size+1))->IsPair h' (s.heap.objs.size+3) .none .none->h'.IsListIter s.heap.objs.size l1 0->h'.IsTupleIter (s.heap.objs.size+1) l2 0->(∀c o,s.heap.get? c=some o->h'.get? c=some o)->Q (.ref (s.heap.objs.size+4)) {s with heap:=h'}):wpAny (model prog w) A (call (.type "zip") [.ref l1,.ref l2]) Q E s:=by
 refine callType_new F.called_zip (by decide) (F.typeCall_zip_2 _ _) (F.newCall_zip_2 _ _) (fun obj=>F.args_object_init_3 obj _ _) F.entry_zip_new (o9 l1 l2 xs ys) ⟨hl1,hl2,?_⟩;generalize e1:s.heap.push {cls:=.type "list_iterator",data:=.fields #[.ref l1,.int 0 0]}=t1;have n1:t1.objs.size=s.heap.objs.size+1:=by rw[<-e1,size_push]
 have a1:t1.get? s.heap.objs.size=some {cls:=.type "list_iterator",data:=.fields #[.ref l1,.int 0 0]}:=by rw[<-e1];exact get?_push_size _ rfl
 have k1:∀c o,s.heap.get? c=some o->t1.get? c=some o:=fun c o e=>by rw[<-e1];exact dC e
 generalize e2:t1.push {cls:=.type "tuple_iterator",data:=.fields #[.ref l2,.int 0 0]}=t2;have n2:t2.objs.size=s.heap.objs.size+2:=by rw[<-e2,size_push,n1]
 have a2:t2.get? (s.heap.objs.size+1)=some {cls:=.type "tuple_iterator",data:=.fields #[.ref l2,.int 0 0]}:=by rw[<-n1,<-e2];exact get?_push_size _ rfl
 have k2:∀c o,t1.get? c=some o->t2.get? c=some o:=fun c o e=>by rw[<-e2];exact dC e
 generalize e3:t2.push {cls:=.type "tuple",data:=.seq #[.ref s.heap.objs.size,.ref (s.heap.objs.size+1)]}=t3;have n3:t3.objs.size=s.heap.objs.size+3:=by rw[<-e3,size_push,n2]
 have a3:t3.get? (s.heap.objs.size+2)=some {cls:=.type "tuple",data:=.seq #[.ref s.heap.objs.size,.ref (s.heap.objs.size+1)]}:=by rw[<-n2,<-e3];exact get?_push_size _ rfl
 have k3:∀c o,t2.get? c=some o->t3.get? c=some o:=fun c o e=>by rw[<-e3];exact dC e
 generalize e4:t3.push {cls:=.type "tuple",data:=.seq #[.none,.none]}=t4;have n4:t4.objs.size=s.heap.objs.size+4:=by rw[<-e4,size_push,n3]
 have a4:t4.get? (s.heap.objs.size+3)=some {cls:=.type "tuple",data:=.seq #[.none,.none]}:=by rw[<-n3,<-e4];exact get?_push_size _ rfl
 have k4:∀c o,t3.get? c=some o->t4.get? c=some o:=fun c o e=>by rw[<-e4];exact dC e
 generalize e5:t4.push {cls:=.type "zip",data:=.fields #[.none,.bool false,.bool false,.ref (s.heap.objs.size+2),.ref (s.heap.objs.size+3)]}=t5;have a5:t5.get? (s.heap.objs.size+4)=some {cls:=.type "zip",data:=.fields #[.none,.bool false,.bool false,.ref (s.heap.objs.size+2),.ref (s.heap.objs.size+3)]}:=by rw[<-n4,<-e5];exact get?_push_size _ rfl
 have k5:∀c o,t4.get? c=some o->t5.get? c=some o:=fun c o e=>by rw[<-e5];exact dC e
 exact⟨⟨_,a5,rfl⟩,h t5 a5 (k5 _ _ (k4 _ _ a3)) (k5 _ _ a4) ⟨_,k5 _ _ (k4 _ _ (k3 _ _ (k2 _ _ a1))),rfl,rfl⟩ ⟨_,k5 _ _ (k4 _ _ (k3 _ _ a2)),rfl,rfl⟩ fun c o e=>k5 _ _ (k4 _ _ (k3 _ _ (k2 _ _ (k1 _ _ e))))⟩
end
theorem o5(l1 l2:Addr)(xs ys:Array Value):Meets (Builtin.«zip.__new__» ⟨[.type "zip",.ref l1,.ref l2],[]⟩) (fun _ R s=>s.heap.IsTuple l1 xs/\s.heap.IsList l2 ys/\R (.ok (.ret (.ref (s.heap.objs.size+4)))) {s with heap:=((((s.heap.push {cls:=.type "tuple_iterator",data:=.fields #[.ref l1,.int 0 0]}).push {cls:=.type "list_iterator",data:=.fields #[.ref l2,.int 0 0]}).push {cls:=.type "tuple",data:=.seq #[.ref s.heap.objs.size,.ref (s.heap.objs.size+1)]}).push {cls:=.type "tuple",data:=.seq #[.none,.none]}).push {cls:=.type "zip",data:=.fields #[.none,.bool false,.bool false,.ref (s.heap.objs.size+2),.ref (s.heap.objs.size+3)]}}):=.of_wp fun prog w A R s h=>by obtain⟨hp,g,d,tk,os⟩:=s;obtain⟨hl1,hl2,h⟩:=h;have hsub:=sub_zip;have hL1:Heap.IsTuple (Shared.heap ⟨hp,g,d,tk,os⟩) l1 xs:=hl1;have hL2:Heap.IsList (Shared.heap ⟨hp.push {cls:=.type "tuple_iterator",data:=.fields #[.ref l1,.int 0 0]},g,d,tk,os⟩) l2 ys:=Heap.IsList.push hl2 _;wp_walk using wpAny_pyIter_tuple hL1,wpAny_pyIter_list hL2;simp only[size_push]at*;exact⟨_,rfl,h⟩
section
variable{prog:Program}{w:World}{A:Around}{E:Value->Shared->Prop}{s:Shared}
theorem yM(hl1:s.heap.IsTuple l1 xs)(hl2:s.heap.IsList l2 ys)(h:∀ h',IsZip h' (s.heap.objs.size+4) (s.heap.objs.size+2) (s.heap.objs.size+3) .none->IsPair h' (s.heap.objs.size+2) (.ref s.heap.objs.size) (.ref (s.heap.objs.size+1))->IsPair h' (s.heap.objs.size+3) .none .none->h'.IsTupleIter s.heap.objs.size l1 0->h'.IsListIter (s.heap.objs.size+1) l2 0->(∀c o,s.heap.get? c=some o->h'.get? c=some o)->Q (.ref (s.heap.objs.size+4)) {s with heap:=h'}):wpAny (model prog w) A (call (.type "zip") [.ref l1,.ref l2]) Q E s:=by
 refine callType_new F.called_zip (by decide) (F.typeCall_zip_2 _ _) (F.newCall_zip_2 _ _) (fun obj=>F.args_object_init_3 obj _ _) F.entry_zip_new (o5 l1 l2 xs ys) ⟨hl1,hl2,?_⟩;generalize e1:s.heap.push {cls:=.type "tuple_iterator",data:=.fields #[.ref l1,.int 0 0]}=t1;have n1:t1.objs.size=s.heap.objs.size+1:=by rw[<-e1,size_push]
 have a1:t1.get? s.heap.objs.size=some {cls:=.type "tuple_iterator",data:=.fields #[.ref l1,.int 0 0]}:=by rw[<-e1];exact get?_push_size _ rfl
 have k1:∀c o,s.heap.get? c=some o->t1.get? c=some o:=fun c o e=>by rw[<-e1];exact dC e
 generalize e2:t1.push {cls:=.type "list_iterator",data:=.fields #[.ref l2,.int 0 0]}=t2;have n2:t2.objs.size=s.heap.objs.size+2:=by rw[<-e2,size_push,n1]
 have a2:t2.get? (s.heap.objs.size+1)=some {cls:=.type "list_iterator",data:=.fields #[.ref l2,.int 0 0]}:=by rw[<-n1,<-e2];exact get?_push_size _ rfl
 have k2:∀c o,t1.get? c=some o->t2.get? c=some o:=fun c o e=>by rw[<-e2];exact dC e
 generalize e3:t2.push {cls:=.type "tuple",data:=.seq #[.ref s.heap.objs.size,.ref (s.heap.objs.size+1)]}=t3;have n3:t3.objs.size=s.heap.objs.size+3:=by rw[<-e3,size_push,n2]
 have a3:t3.get? (s.heap.objs.size+2)=some {cls:=.type "tuple",data:=.seq #[.ref s.heap.objs.size,.ref (s.heap.objs.size+1)]}:=by rw[<-n2,<-e3];exact get?_push_size _ rfl
 have k3:∀c o,t2.get? c=some o->t3.get? c=some o:=fun c o e=>by rw[<-e3];exact dC e
 generalize e4:t3.push {cls:=.type "tuple",data:=.seq #[.none,.none]}=t4;have n4:t4.objs.size=s.heap.objs.size+4:=by rw[<-e4,size_push,n3]
 have a4:t4.get? (s.heap.objs.size+3)=some {cls:=.type "tuple",data:=.seq #[.none,.none]}:=by rw[<-n3,<-e4];exact get?_push_size _ rfl
 have k4:∀c o,t3.get? c=some o->t4.get? c=some o:=fun c o e=>by rw[<-e4];exact dC e
 generalize e5:t4.push {cls:=.type "zip",data:=.fields #[.none,.bool false,.bool false,.ref (s.heap.objs.size+2),.ref (s.heap.objs.size+3)]}=t5;have a5:t5.get? (s.heap.objs.size+4)=some {cls:=.type "zip",data:=.fields #[.none,.bool false,.bool false,.ref (s.heap.objs.size+2),.ref (s.heap.objs.size+3)]}:=by rw[<-n4,<-e5];exact get?_push_size _ rfl
 have k5:∀c o,t4.get? c=some o->t5.get? c=some o:=fun c o e=>by rw[<-e5];exact dC e
 exact⟨⟨_,a5,rfl⟩,h t5 a5 (k5 _ _ (k4 _ _ a3)) (k5 _ _ a4) ⟨_,k5 _ _ (k4 _ _ (k3 _ _ (k2 _ _ a1))),rfl,rfl⟩ ⟨_,k5 _ _ (k4 _ _ (k3 _ _ a2)),rfl,rfl⟩ fun c o e=>k5 _ _ (k4 _ _ (k3 _ _ (k2 _ _ (k1 _ _ e))))⟩
end
theorem o7(l1 l2:Addr)(xs ys:Array Value):Meets (Builtin.«zip.__new__» ⟨[.type "zip",.ref l1,.ref l2],[]⟩) (fun _ R s=>s.heap.IsTuple l1 xs/\s.heap.IsTuple l2 ys/\R (.ok (.ret (.ref (s.heap.objs.size+4)))) {s with heap:=((((s.heap.push {cls:=.type "tuple_iterator",data:=.fields #[.ref l1,.int 0 0]}).push {cls:=.type "tuple_iterator",data:=.fields #[.ref l2,.int 0 0]}).push {cls:=.type "tuple",data:=.seq #[.ref s.heap.objs.size,.ref (s.heap.objs.size+1)]}).push {cls:=.type "tuple",data:=.seq #[.none,.none]}).push {cls:=.type "zip",data:=.fields #[.none,.bool false,.bool false,.ref (s.heap.objs.size+2),.ref (s.heap.objs.size+3)]}}):=.of_wp fun prog w A R s h=>by obtain⟨hp,g,d,tk,os⟩:=s;obtain⟨hl1,hl2,h⟩:=h;have hsub:=sub_zip;have hL1:Heap.IsTuple (Shared.heap ⟨hp,g,d,tk,os⟩) l1 xs:=hl1;have hL2:Heap.IsTuple (Shared.heap ⟨hp.push {cls:=.type "tuple_iterator",data:=.fields #[.ref l1,.int 0 0]},g,d,tk,os⟩) l2 ys:=Heap.IsTuple.push hl2 _;wp_walk using wpAny_pyIter_tuple hL1,wpAny_pyIter_tuple hL2;simp only[size_push]at*;exact⟨_,rfl,h⟩
section
variable{prog:Program}{w:World}{A:Around}{E:Value->Shared->Prop}{s:Shared}
theorem yX(hl1:s.heap.IsTuple l1 xs)(hl2:s.heap.IsTuple l2 ys)(h:∀ h',IsZip h' (s.heap.objs.size+4) (s.heap.objs.size+2) (s.heap.objs.size+3) .none->IsPair h' (s.heap.objs.size+2) (.ref s.heap.objs.size) (.ref (s.heap.objs.size+1))->IsPair h' (s.heap.objs.size+3) .none .none->h'.IsTupleIter s.heap.objs.size l1 0->h'.IsTupleIter (s.heap.objs.size+1) l2 0->(∀c o,s.heap.get? c=some o->h'.get? c=some o)->Q (.ref (s.heap.objs.size+4)) {s with heap:=h'}):wpAny (model prog w) A (call (.type "zip") [.ref l1,.ref l2]) Q E s:=by
 refine callType_new F.called_zip (by decide) (F.typeCall_zip_2 _ _) (F.newCall_zip_2 _ _) (fun obj=>F.args_object_init_3 obj _ _) F.entry_zip_new (o7 l1 l2 xs ys) ⟨hl1,hl2,?_⟩;generalize e1:s.heap.push {cls:=.type "tuple_iterator",data:=.fields #[.ref l1,.int 0 0]}=t1;have n1:t1.objs.size=s.heap.objs.size+1:=by rw[<-e1,size_push]
 have a1:t1.get? s.heap.objs.size=some {cls:=.type "tuple_iterator",data:=.fields #[.ref l1,.int 0 0]}:=by rw[<-e1];exact get?_push_size _ rfl
 have k1:∀c o,s.heap.get? c=some o->t1.get? c=some o:=fun c o e=>by rw[<-e1];exact dC e
 generalize e2:t1.push {cls:=.type "tuple_iterator",data:=.fields #[.ref l2,.int 0 0]}=t2;have n2:t2.objs.size=s.heap.objs.size+2:=by rw[<-e2,size_push,n1]
 have a2:t2.get? (s.heap.objs.size+1)=some {cls:=.type "tuple_iterator",data:=.fields #[.ref l2,.int 0 0]}:=by rw[<-n1,<-e2];exact get?_push_size _ rfl
 have k2:∀c o,t1.get? c=some o->t2.get? c=some o:=fun c o e=>by rw[<-e2];exact dC e
 generalize e3:t2.push {cls:=.type "tuple",data:=.seq #[.ref s.heap.objs.size,.ref (s.heap.objs.size+1)]}=t3;have n3:t3.objs.size=s.heap.objs.size+3:=by rw[<-e3,size_push,n2]
 have a3:t3.get? (s.heap.objs.size+2)=some {cls:=.type "tuple",data:=.seq #[.ref s.heap.objs.size,.ref (s.heap.objs.size+1)]}:=by rw[<-n2,<-e3];exact get?_push_size _ rfl
 have k3:∀c o,t2.get? c=some o->t3.get? c=some o:=fun c o e=>by rw[<-e3];exact dC e
 generalize e4:t3.push {cls:=.type "tuple",data:=.seq #[.none,.none]}=t4;have n4:t4.objs.size=s.heap.objs.size+4:=by rw[<-e4,size_push,n3]
 have a4:t4.get? (s.heap.objs.size+3)=some {cls:=.type "tuple",data:=.seq #[.none,.none]}:=by rw[<-n3,<-e4];exact get?_push_size _ rfl
 have k4:∀c o,t3.get? c=some o->t4.get? c=some o:=fun c o e=>by rw[<-e4];exact dC e
 generalize e5:t4.push {cls:=.type "zip",data:=.fields #[.none,.bool false,.bool false,.ref (s.heap.objs.size+2),.ref (s.heap.objs.size+3)]}=t5;have a5:t5.get? (s.heap.objs.size+4)=some {cls:=.type "zip",data:=.fields #[.none,.bool false,.bool false,.ref (s.heap.objs.size+2),.ref (s.heap.objs.size+3)]}:=by rw[<-n4,<-e5];exact get?_push_size _ rfl
 have k5:∀c o,t4.get? c=some o->t5.get? c=some o:=fun c o e=>by rw[<-e5];exact dC e
 exact⟨⟨_,a5,rfl⟩,h t5 a5 (k5 _ _ (k4 _ _ a3)) (k5 _ _ a4) ⟨_,k5 _ _ (k4 _ _ (k3 _ _ (k2 _ _ a1))),rfl,rfl⟩ ⟨_,k5 _ _ (k4 _ _ (k3 _ _ a2)),rfl,rfl⟩ fun c o e=>k5 _ _ (k4 _ _ (k3 _ _ (k2 _ _ (k1 _ _ e))))⟩
end
end PySem
end
section
namespace L2
open PySem PySem.Spec PyProof.Rows
variable{t:Bool}{a:Addr}
def Sq(t:Bool)(K:PySem.W.Frag)(H:Hp)(a:Addr)(xs:List V):Prop:=if t then iD K H a xs else dX K H a xs
def Wb(t:Bool)(h:Heap)(a:Addr)(xs:Array Value):Prop:=if t then h.IsTuple a xs else h.IsList a xs
def Fo(t:Bool)(h:Heap)(i a:Addr)(k:Nat):Prop:=if t then h.IsTupleIter i a k else h.IsListIter i a k
section
variable{X:Cx}{pins:List (Addr×Obj)}{σ:L2.St}{H:Hp}{s:Shared}
theorem Inv.sq{xs:List V}(I:Inv X pins σ H s)(h:Sq t X.K H a xs):∃its:List Value,Vals xs its/\Wb t s.heap a its.toArray:=by cases t with|true=>obtain⟨its,rv,pl,_⟩:=I.tuple h;exact⟨its,rv,pl⟩|false=>obtain⟨its,rv,pl,_⟩:=I.list h;exact⟨its,rv,pl.isList⟩
theorem Inv.Ia{xs ys:List V}(I:Inv X pins σ H s)(h:Sq t X.K H a xs)(h':Sq t X.K H a ys):xs=ys:=by cases t with|true=>exact I.j8 h h'|false=>exact I.mJ h h'
theorem Wb.lt{h:Heap}{xs:Array Value}(q:Wb t h a xs):a<h.objs.size:=by cases t with|true=>obtain⟨o,e,_⟩:=id q;exact lt_size e|false=>obtain⟨o,e,_⟩:=id q;exact lt_size e
theorem Fo.obj{h:Heap}{i:Addr}{k:Nat}(q:Fo t h i a k):∃o,h.get? i=some o/\∀v,o.data≠.cell v:=by cases t with|true=>obtain⟨o,h2,h3,h4⟩:=id q;exact⟨o,h2,fun v z=>by rw[h4]at z;cases z⟩|false=>obtain⟨o,h2,h3,h4⟩:=id q;exact⟨o,h2,fun v z=>by rw[h4]at z;cases z⟩
theorem Fo.keep{h h':Heap}{i:Addr}{k:Nat}(q:Fo t h i a k)(e:∀o,h.get? i=some o->h'.get? i=some o):Fo t h' i a k:=by cases t with|true=>obtain⟨o,h2,r⟩:=id q;exact⟨o,e o h2,r⟩|false=>obtain⟨o,h2,r⟩:=id q;exact⟨o,e o h2,r⟩
theorem Mj(t:Bool){prog:Program}{w:World}{A:Around}(hh:A.handled=none)(it l:Addr)(hne:l≠it)(items:Array Value):Nx prog w A it l (fun k h=>Fo t h it l k/\Wb t h l items) (fun k=>items[k]?):=by cases t with|true=>exact Nx.tuple hh it l hne items|false=>exact Nx.list hh it l hne items
theorem Inv.Ga{ch:List Addr}{h':Heap}(I:Inv X pins σ H s)(k:∀b u,b∉ch->s.heap.get? b=some u->h'.get? b=some u)(hf:∀b∈ch,nY X pins H b):Inv X pins σ H {s with heap:=h'}:=by
 have JB:∀b u,H b=some u->b∉ch:=fun b u e hb=>by rw[(hf b hb).1]at e;cases e
 refine I.call (g':=s.gens) (d':=s.drawn) (t':=s.toks) (ch:=ch) ⟨fun b u e n _ hx=>k b u hx e,fun b u e n _ hx=>⟨u.slots,k b u hx e⟩,fun b u e n hx=>n,fun b u e hx=>⟨u,k b u hx e⟩,fun b xs e=>e,fun b ob u e=>e,fun b ps e=>⟨#[],by rw[e];simp⟩⟩ ?_ I.bare fun b hb=>⟨(hf b hb).2.2.2.1,(hf b hb).2.1,(hf b hb).2.2.2.2.1,(hf b hb).2.2.2.2.2⟩;intro b u e;refine(I.hok b u e).stay (fun c v hc q=>k c v ?_ q) (fun c q=>q) fun c xs q=>q;rcases hc with rfl|hc;.exact JB _ _ e
 .exact JB _ _ hc
end
noncomputable def XF(t1 t2:Bool)(K:PySem.W.Frag)(a b:Addr):It:=⟨fun i H=>∃ xs ys x y,Sq t1 K H a xs/\Sq t2 K H b ys/\xs[i]?=some x/\ys[i]?=some y,fun i H x H'=>∃T v w,H T=none/\x=.ref T/\H'=upd H T (.tup [v,w])/\(∀xs,Sq t1 K H a xs->xs[i]?=some v)/\∀ys,Sq t2 K H b ys->ys[i]?=some w,fun i H=>∃xs ys,Sq t1 K H a xs/\Sq t2 K H b ys/\(xs.length<=i\/ys.length<=i)⟩
theorem FP{P:Program}{w:World}{K:PySem.W.Frag}{elts:List Expr}{x1}{tp:Pos}(t1 t2:Bool){z TI TO i1 i2 l1 l2:Addr}(D:ZipApart z TI TO i1 i2 l1 l2):Turn P w K (.Tuple elts x1 tp) (XF t1 t2 K l1 l2) [z,TI,TO,i1,i2] z (fun i h=>IsZip h z TI TO .none/\IsPair h TI (.ref i1) (.ref i2)/\(∃a b,IsPair h TO a b)/\Fo t1 h i1 l1 i/\Fo t2 h i2 l2 i)where
 mem:=by simp
 obj:=fun i h st b hb=>by
  obtain⟨h1,h2,⟨u,v,h3⟩,h4,h5⟩:=st;simp only[mem_cons,not_mem_nil,or_false]at hb;rcases hb with rfl|rfl|rfl|rfl|rfl;.exact⟨_,h1,fun v z=>by cases z⟩
  .exact⟨_,h2,fun v z=>by cases z⟩
  .exact⟨_,h3,fun v z=>by cases z⟩
  .exact h4.obj
  .exact h5.obj
 keep:=fun i h h' st k=>by obtain⟨h1,h2,⟨u,v,h3⟩,h4,h5⟩:=st;exact⟨k z (by simp) _ h1,k TI (by simp) _ h2,⟨u,v,k TO (by simp) _ h3⟩,h4.keep (k i1 (by simp)),h5.keep (k i2 (by simp))⟩
 item:=fun X hP hw hK hc i pins s σ H E I hf st go=>by
  subst hP hw hK;obtain⟨h1,h2,⟨u,v,h3⟩,h4,h5⟩:=st;obtain⟨xs,ys,x,y,hq1,hq2,hx,hy⟩:=go;obtain⟨NT,rv1,WM⟩:=I.sq hq1;obtain⟨its2,U3,Qf⟩:=I.sq hq2;obtain⟨ux,hu1,hu2⟩:=rv1.get hx;obtain⟨uy,hw1,hw2⟩:=U3.get hy;have hh:X.A.in1.handled=none:=I.ok.hd hc;refine nM D (Mj t1 hh i1 l1 D.l1i1 NT.toArray) (Mj t2 hh i2 l2 D.l2i2 its2.toArray) h1 h2 h3 (k:=i) ⟨h4,WM⟩ ⟨h5,Qf⟩ (x:=ux) (y:=uy) (by simpa using hu1) (by simpa using hw1) fun h' z1 p1 s1 s2 pT hsz kp=>?_;refine⟨_,rfl,wpAny_letOwnedTupleGo_zip z1 fun h'' z2 sb=>?_⟩;have hlt:∀b∈[z,TI,TO,i1,i2],b≠s.heap.objs.size:=fun b hb=>by
   simp only[mem_cons,not_mem_nil,or_false]at hb;rcases hb with rfl|rfl|rfl|rfl|rfl;.exact ne_of_lt (lt_size h1)
   .exact ne_of_lt (lt_size h2)
   .exact ne_of_lt (lt_size h3)
   .exact ne_of_lt (lt_size h4.obj.choose_spec.1)
   .exact ne_of_lt (lt_size h5.obj.choose_spec.1)
  have WL:∀b o,b∉[z,TO,i1,i2]->s.heap.get? b=some o->h''.get? b=some o:=fun b o hb q=>by simp only[mem_cons,not_mem_nil,or_false,not_or]at hb;exact sb.extBut b o hb.1 (kp b o hb.1 hb.2.1 hb.2.2.1 hb.2.2.2 q)
  have pT2:IsPair h'' s.heap.objs.size ux uy:=sb.extBut _ _ (hlt z (by simp)).symm pT;have p2:IsPair h'' TO ux uy:=sb.extBut _ _ D.TOz p1;have j1:Fo t1 h'' i1 l1 (i+1):=s1.1.keep fun o e=>sb.extBut _ _ D.i1z e;have j2:Fo t2 h'' i2 l2 (i+1):=s2.1.keep fun o e=>sb.extBut _ _ D.i2z e;refine⟨.ref s.heap.objs.size,upd H s.heap.objs.size (.tup [x,y]),?_,rfl,⟨_,x,y,I.fresh,rfl,rfl,fun zs hz=>?_,fun zs hz=>?_⟩,⟨z2,WL TI _ ?_ h2,⟨_,_,p2⟩,j1,j2⟩,fun b hb=>?_⟩
  . refine I.yL (ch:=[z,TO,i1,i2]) (t':=s.toks) WL (fun b hb=>?_) (fun b hb=>hf b ?_) ⟨(by show 2<=sizeLine;decide),[ux,uy],.cons hu2 (.cons hw2 .nil),⟨_,pT2,rfl,_,rfl⟩⟩
    . simp only[mem_cons,not_mem_nil,or_false]at hb;rcases hb with rfl|rfl|rfl|rfl;.exact⟨_,z2⟩
      .exact⟨_,p2⟩
      .exact⟨_,j1.obj.choose_spec.1⟩
      .exact⟨_,j2.obj.choose_spec.1⟩
    .simp only[mem_cons,not_mem_nil,or_false]at hb ⊢;rcases hb with h|h|h|h<;>simp[h]
  .rw[I.Ia hz hq1];exact hx
  .rw[I.Ia hz hq2];exact hy
  .simp[D.TIz,D.TITO,D.TIi1,D.TIi2]
  .rw[aC (hlt b hb)];exact(hf b hb).1
 done:=fun X hP hw hK hc i pins s σ H E I hf st stop=>by
  subst hP hw hK;obtain⟨h1,h2,⟨u,v,h3⟩,h4,h5⟩:=st;obtain⟨xs,ys,hq1,hq2,hx⟩:=stop;obtain⟨NT,rv1,WM⟩:=I.sq hq1;obtain⟨its2,U3,Qf⟩:=I.sq hq2;have hh:X.A.in1.handled=none:=I.ok.hd hc;refine oY D (Mj t1 hh i1 l1 D.l1i1 NT.toArray) (Mj t2 hh i2 l2 D.l2i2 its2.toArray) h1 h2 h3 (k:=i) ⟨h4,WM⟩ ⟨h5,Qf⟩ ?_ fun h' kp=>⟨rfl,?_⟩
  . rcases hx with hx|hx;.left;rw[rv1.length]at hx;simpa using hx
    .right;rw[U3.length]at hx;simpa using hx
  .exact I.Ga (ch:=[z,TO,i1,i2]) (fun b u hb q=>by simp only[mem_cons,not_mem_nil,or_false,not_or]at hb;exact kp b u hb.1 hb.2.1 hb.2.2.1 hb.2.2.2 q) fun b hb=>hf b (by simp only[mem_cons,not_mem_nil,or_false]at hb ⊢;rcases hb with h|h|h|h<;>simp[h])
 self:=fun A i s Q E st q=>wpAny_pyIter_zip st.1 q
section
variable{X:Cx}{elts:List Expr}{x1:Nat}{tp:Pos}
theorem CZ{prog:Program}{w:World}{A:Around}{E:Value->Shared->Prop}{s:Shared}(t1 t2:Bool){l1 l2:Addr}{xs ys:Array Value}{Q:Value->Shared->Prop}(hl1:Wb t1 s.heap l1 xs)(hl2:Wb t2 s.heap l2 ys)(h:∀ h',IsZip h' (s.heap.objs.size+4) (s.heap.objs.size+2) (s.heap.objs.size+3) .none->IsPair h' (s.heap.objs.size+2) (.ref s.heap.objs.size) (.ref (s.heap.objs.size+1))->IsPair h' (s.heap.objs.size+3) .none .none->Fo t1 h' s.heap.objs.size l1 0->Fo t2 h' (s.heap.objs.size+1) l2 0->(∀c o,s.heap.get? c=some o->h'.get? c=some o)->Q (.ref (s.heap.objs.size+4)) {s with heap:=h'}):wpAny (model prog w) A (call (.type "zip") [.ref l1,.ref l2]) Q E s:=by
 cases t1<;>cases t2;.exact yQ hl1 hl2 h
 .exact zP hl1 hl2 h
 .exact yM hl1 hl2 h
 .exact yX hl1 hl2 h
theorem QD{n l m:Nat}(h1:l<n)(h2:m<n):ZipApart (n+4) (n+2) (n+3) n (n+1) l m:=by constructor<;>exact fun h=>absurd (show(_:Nat)=_ from h) (by omega)
def acB(K:PySem.W.Frag)(R:It->Hp->Prop)(vs:List V)(H1:Hp):Prop:=∃t1 t2 a b,vs=[.ref a,.ref b]/\(∃xs,Sq t1 K H1 a xs)/\(∃ys,Sq t2 K H1 b ys)/\R (XF t1 t2 K a b) H1
def aeq(K:PySem.W.Frag)(ta:TA):TI:=fun σ H R=>ta σ H (acB K R)
theorem boot_zip:bootBuiltins "zip"=some (.type "zip"):=by decide+kernel
theorem Hr{a b:Expr}{ta:TA}{p pos:Pos}(hg:Gl X "zip")(hm:X.mg "zip"=none)(ha:PA X [a,b] ta)(hs:starEach [a,b] X.env=[(false,eval a X.env),(false,eval b X.env)]:=by rfl)(hs2:starEach [b] X.env=[(false,eval b X.env)]:=by rfl):PI X (.Tuple elts x1 tp) (.Call (.Name "zip" p) [a,b] [] pos) (aeq X.K ta):=by
 intro pins s σ H R I h;refine Call_ (iM I hg hm boot_zip (PyProof.Rows.callWith_type1 (bR (ha pos pins s σ H _ I h) ?_) (by rw[hs,hs2]) (by rw[hs2];rfl)));rintro us s1⟨vs,H1,I1,r1,q1⟩;obtain⟨t1,t2,l1,l2,rfl,⟨xs,hq1⟩,⟨ys,hq2⟩,q⟩:=q1;obtain⟨u,v,rfl,ru,rv⟩:=r1.two;cases ru;cases rv;obtain⟨NT,rv1,WM⟩:=I1.sq hq1;obtain⟨its2,U3,Qf⟩:=I1.sq hq2;have b1:=WM.lt;have b2:=Qf.lt;refine CZ t1 t2 WM Qf fun h' z0 p0 o0 j1 j2 kp=>?_;have D:ZipApart (s1.heap.objs.size+4) (s1.heap.objs.size+2) (s1.heap.objs.size+3) s1.heap.objs.size (s1.heap.objs.size+1) l1 l2:=QD b1 b2;refine wpAny_pyIter_zip z0 ⟨_,_,_,_,H1,rfl,I1.kept (t':=s1.toks) kp,FP t1 t2 D,⟨z0,p0,⟨_,_,o0⟩,j1,j2⟩,fun b hb=>?_,q⟩;have hb':s1.heap.objs.size<=b:=by simp only[mem_cons,not_mem_nil,or_false]at hb;rcases hb with rfl|rfl|rfl|rfl|rfl<;>first|exact Nat.le_add_right _ _|exact dh
 exact I1.yw hb' (I1.hok.fresh hb')
end
end L2
namespace HH
open PySem L2 PySem.Spec PyProof.Rows
variable{x:Str}
section
variable{K:PySem.W.Frag}{F F1 H H1:Hp}{ρ ρ1:List Sl}{σ:L2.St}{ds es:List D}{a b:Addr}
theorem aF.sq{t:Bool}{xs:List V}(e:aF F H)(h:Sq t K F a xs):Sq t K H a xs:=by cases t with|true=>exact aF.gn e h|false=>exact e.seq h
theorem pM{t1 t2:Bool}{xs ys:List V}{F' H':Hp}(hq1:Sq t1 K H' a xs)(hq2:Sq t2 K H' b ys)(r1:aG K F' xs ds)(r2:aG K F' ys es)(s:aF F' H')(k:Nat):(∀d,((ds.zip es).map fun p=>D.tup [p.1,p.2])[k]?=some d->(XF t1 t2 K a b).go k H'/\∀x kh,(XF t1 t2 K a b).JC k H' x kh->∃F'',Ext F' H' F'' kh/\Rep K F'' x d)/\(((ds.zip es).map fun p=>D.tup [p.1,p.2]).length<=k->(XF t1 t2 K a b).stop k H'):=by refine⟨fun d hd=>?_,fun h=>⟨xs,ys,hq1,hq2,by rw[r1.length,r2.length];rw[length_map,List.length_zip]at h;omega⟩⟩;rw[getElem?_map]at hd;obtain⟨⟨d0,d1⟩,e1,e2⟩:=map_some hd;subst e2;obtain⟨f1,f2⟩:=List.getElem?_zip_eq_some.mp e1;obtain⟨w,h1,h2⟩:=r1.get f1;obtain⟨w',h1',h2'⟩:=r2.get f2;refine⟨⟨xs,ys,w,w',hq1,hq2,h1,h1'⟩,?_⟩;rintro x kh⟨T,v,v',hT,hx,hH,y,y'⟩;subst hx;subst hH;have:=y xs hq1;rw[h1]at this;cases this;have:=y' ys hq2;rw[h1']at this;cases this;exact qz s hT h2 h2'
theorem uG{v:V}{d:D}{ds:List D}(h:Rep K F v d)(e:items d=some ds):∃t a xs,v=.ref a/\Sq t K F a xs/\aG K F xs ds:=by cases d with|tup es=>cases e;rw[Rep]at h;obtain⟨a,xs,rfl,h1,h2⟩:=h;exact⟨true,a,xs,rfl,h1,h2⟩|lst es=>cases e;rw[Rep]at h;obtain⟨a,xs,rfl,h1,h2⟩:=h;exact⟨false,a,xs,rfl,h1,h2⟩|_=>cases e
end
section
variable{X:Cx}{c:Call}{e a b:Expr}{pa pb:P}{pos:Pos}{elts:List Expr}{x1:Nat}{tp:Pos}
theorem T9{p':Pos}(hx:x="zip")(hg:Gl X x)(hm:X.mg x=none)(ha:SX X c a pa)(hb:SX X c b pb)(hs:starEach [a,b] X.env=[(false,eval a X.env),(false,eval b X.env)]:=by rfl)(hs2:starEach [b] X.env=[(false,eval b X.env)]:=by rfl):SI X c (.Tuple elts x1 tp) (.Call (.Name x p') [a,b] [] pos) (.zip pa pb):=by subst hx;refine kE (Hr hg hm (pB ha (pB hb aX hs2) (by rw[hs,hs2])).1 hs hs2) ?_;rintro σ H R⟨F,ρ,ds,ρ1,g,e,k⟩;obtain⟨r,ρ2,e1,e2⟩:=aj e;have zz:=aD e2;clear e2;obtain⟨e2,e3⟩:=zz;subst e3;rw[HH.E23]at e1;obtain⟨x0,ρ3,e4,e7⟩:=aj e1;obtain⟨y0,ρ4,e5,e8⟩:=aj e7;have zz:=aD e8;clear e8;obtain⟨e8,e6⟩:=zz;subst e6;obtain⟨us,f1,e9⟩:=bV e8;obtain⟨ws,f2,f3⟩:=map_some e9;subst f3;cases e2;refine⟨F,ρ,[x0.d,y0.d],_,g,by rw[evs,e4];show(evs c [pb] ρ3).bind _=_;rw[evs,e5];rfl,fun vs F' H' s rr=>?_⟩;obtain⟨v,r',rfl,rv,rr⟩:=rr.cu;obtain⟨u,r'',rfl,ru,rr⟩:=rr.cu;rw[rr.fK];obtain⟨t1,a1,xs,rfl,q1,r1⟩:=uG rv f1;obtain⟨t2,a2,ys,rfl,q2,r2⟩:=uG ru f2;exact⟨t1,t2,a1,a2,rfl,⟨xs,aF.sq s.gs.sub q1⟩,⟨ys,aF.sq s.gs.sub q2⟩,k _ _ _ ⟨s.gs,fun n k F' ρ' σ' H' s'=>pM (aF.sq s'.gs.sub (aF.sq s'.bO q1)) (aF.sq s'.gs.sub (aF.sq s'.bO q2)) (r1.mono s'.bO) (r2.mono s'.bO) s'.gs.sub k,fun F3 ρ3 σ3 H3 s3=>⟨s.trans s3,fun v r rr=>rr.later s⟩⟩⟩
end
structure bw(K:PySem.W.Frag)(x:Str)(st:Stmt):Prop where ex:∃f fd,PySem.W.nsIn K mainGlobals x=some (some (.ref f))/\fX K x x st f fd
section
variable{Pg:Program}{w:World}{K:PySem.W.Frag}{mg:Str->Option Value}{base h:Heap}
theorem Um{st:Stmt}{f:Addr}{oc:Value}{od an:Option Addr}{osl:Array (Option Value)}{kV doc pm cdv ct:Value}(a:PySem.W.nsIn K mainGlobals x=some (some (.ref f)))(l:K.lookup f=some ⟨oc,od,.func (PySem.W.fnOf x x (iG st) (fO st) (az st) .none kV doc pm an cdv ct),osl⟩)(c:PySem.W.codeIn K cdv x=true)(k:keepIn K (.ref f)=true):bw K x st:=⟨_,_,a,Rq l c k⟩
theorem bB{Γ:Tab}{wl i np:Nat}{st:Stmt}{ps:List Str}(X:K.In h)(G:h.Ns mainGlobals mg)(D:bw K x st)(hp:ps.length=np)(hb:∀(kV doc pm:Value)(an:Option Addr)(cdv ct:Value)(us:List Value),us.length=ps.length->bindArgs (PySem.W.fnOf x x (iG st) (fO st) (az st) .none kV doc pm an cdv ct) ⟨us,[]⟩=pure (ps.zip us)):aQ Pg w K mg base 0 (run Γ wl 0) i x np:=by obtain⟨f,fd,a,F⟩:=D.ex;exact⟨f,fd,ps,⟨fun vs H Q E s=>s.1,fun A outer s H args us vs Q E hr e b v sp=>by obtain⟨_,F,as,r,as',_,z,_⟩:=sp;cases z⟩,mg_of X G a,F.kp,F.binds hb,hp⟩
theorem bA{Γ:Tab}{wl n i np:Nat}{st:Stmt}{ps:List Str}{d:Fd}(X:K.In h)(G:h.Ns mainGlobals mg)(D:bw K x st)(hp:ps.length=np)(hΓ:Γ i=some d)(hb:∀(kV doc pm:Value)(an:Option Addr)(cdv ct:Value)(us:List Value),us.length=ps.length->bindArgs (PySem.W.fnOf x x (iG st) (fO st) (az st) .none kV doc pm an cdv ct) ⟨us,[]⟩=pure (ps.zip us))(ok:∀f fd,fX K x x st f fd->m5 Pg w K mg base Ft (n+1) f fd ps (Mm K np (fun args=>enter (run Γ wl n) wl d args))):aQ Pg w K mg base (n+1) (run Γ wl (n+1)) i x np:=by
 obtain⟨f,fd,a,F⟩:=D.ex;refine⟨f,fd,ps,?_,mg_of X G a,F.kp,F.binds hb,hp⟩;have e:run Γ wl (n+1) i=fun args=>enter (run Γ wl n) wl d args:=by funext args;show(match Γ i with|some d=>enter (run Γ wl n) wl d args|none=>.stuck)=_;rw[hΓ]
 rw[e,hp];exact ok f fd F
theorem tG{F:Hp}:∀ns:List Int,aG K F (ns.map V.int) (ns.map D.int)|[]=>.nil|n::ns=>.cons (bN n) (tG ns)
theorem Eh{H:Hp}{a:Addr}{ns:List Int}{g:List Sl->Res R}{as:List Sl}(hS:dX K H a (ns.map V.int))(hr:g [.val false (.lst (ns.map D.int))]=.ok (.val (.bl true)) as):Mm K 1 g [.ref a] H (fun v _=>v=.bl true) fun _ _ _=>False:=by
 refine⟨rfl,H,_,_,as,⟨.refl _,rfl,fun i b d e=>?_,fun i s ds e e'=>?_,fun i j c h=>?_⟩,hr,fun v F' σ' H' s rr=>?_⟩;.match i,e with|0,e=>cases e;refine⟨.ref a,rfl,?_⟩;rw[Rep];exact⟨a,_,rfl,hS,tG ns⟩|i+1,e=>simp at e
 .match i,e with|0,e=>cases e;cases e'|i+1,e=>simp at e
 .obtain⟨⟨s,ds,e,e'⟩,_⟩:=h;match i,e with|0,e=>cases e;cases e'|i+1,e=>simp at e
 .have rr:Rep K F' v (.bl true):=rr;rw[Rep]at rr;exact rr
end
end HH
end
section
namespace HH
open PySem
variable{n:Nat}{c:Call}{ρ:List Sl}{is:List Nat}{ds:List D}
def Res.sat{α:Type}(Q:α->List Sl->Prop)(x:Res α):Prop:=match x with|.ok a ρ=>Q a ρ|.exc _ _=>False|.stuck=>False
section
variable{α β:Type}{Q Q':α->List Sl->Prop}
@[simp]theorem Tz{a:α}{ρ:List Sl}:(Res.ok a ρ).sat Q=Q a ρ:=rfl
@[simp]theorem aaI{k:Nat}{ρ:List Sl}:(Res.exc k ρ:Res α).sat Q=False:=rfl
@[simp]theorem V2:(Res.stuck:Res α).sat Q=False:=rfl
theorem bZ{x:Res β}{f:β->List Sl->Res α}:(x.bind f).sat Q=x.sat fun a ρ=>(f a ρ).sat Q:=by cases x<;>rfl
@[simp]theorem aad{p:Prop}[Decidable p]{x y:Res α}:(if p then x else y).sat Q=((p->x.sat Q)/\(¬ p->y.sat Q)):=by by_cases h:p<;>simp[h]
@[simp]theorem J3{a:α}{ρ:List Sl}:(lift (some a) ρ).sat Q=Q a ρ:=rfl
@[simp]theorem J7{ρ:List Sl}:(lift (none:Option α) ρ).sat Q=False:=rfl
@[simp]theorem Nh{p:Prop}[Decidable p]{a:α}{ρ:List Sl}:(lift (if p then some a else none) ρ).sat Q=(p/\Q a ρ):=by by_cases h:p<;>simp[h]
theorem Res.sat.imp{x:Res α}(h:x.sat Q)(k:∀a ρ,Q a ρ->Q' a ρ):x.sat Q':=by cases x with|ok a ρ=>exact k a ρ h|exc _ _=>exact h|stuck=>exact h
theorem sat_iff{x:Res α}:x.sat Q↔∃a ρ,x=.ok a ρ/\Q a ρ:=by cases x with|ok a ρ=>exact⟨fun h=>⟨a,ρ,rfl,h⟩,fun⟨_,_,e,h⟩=>by cases e;exact h⟩|exc _ _=>exact⟨fun h=>h.elim,fun⟨_,_,e,_⟩=>by cases e⟩|stuck=>exact⟨fun h=>h.elim,fun⟨_,_,e,_⟩=>by cases e⟩
end
noncomputable def fr:Sl->Bool|.aO=>true|.val b _=>!b|.own b _=>!b|.lent _=>false|.gH _=>false|.cF _=>false|.hold _=>false
@[simp]theorem aeh:fr .aO=true:=rfl
@[simp]theorem acD{b:Bool}{d:D}:fr (.val b d)=!b:=rfl
@[simp]theorem ad0{b:Bool}{d:List D}:fr (.own b d)=!b:=rfl
@[simp]theorem abd{d:List D}:fr (.lent d)=false:=rfl
theorem QX(ρ:List Sl)(i:Nat)(s:Sl):put ρ i s=match ρ[i]?with|some t=>if fr t=true then some (ρ.set i s)else none|none=>none:=by unfold put;cases h:ρ[i]?with|none=>rfl|some t=>cases t with|aO=>rfl|val b d=>cases b<;>rfl|own b d=>cases b<;>rfl|lent d=>rfl|gH m=>rfl|cF m=>rfl|hold m=>rfl
theorem Jq{Γ:Tab}{w i:Nat}{d:Fd}{args:List Sl}(h:Γ i=some d):run Γ w (n+1) i args=enter (run Γ w n) w d args:=by rw[run,h]
noncomputable def fin(np:Nat):Fl->List Sl->Option (R×List Sl)|.next,ρ=>some (.val .non,ρ.take np)|.ret r,ρ=>some (r,ρ.take np)|_,_=>none
def eQ(np:Nat)(Q:R->List Sl->Prop)(fl:Fl)(ρ:List Sl):Prop:=match fl with|.next=>Q (.val .non) (ρ.take np)|.ret r=>Q r (ρ.take np)|_=>False
def sQ(c:Call)(n:Nat)(r:List S)(Q:Fl->List Sl->Prop)(fl:Fl)(ρ:List Sl):Prop:=match fl with|.next=>(ik c n r ρ).sat Q|fl=>Q fl ρ
def fQ(J:List Sl->Prop)(Q:Fl->List Sl->Prop)(fl:Fl)(ρ:List Sl):Prop:=match fl with|.next=>J ρ|.cont=>J ρ|.brk=>Q .next ρ|.ret v=>Q (.ret v) ρ
section
variable{np:Nat}{Q:R->List Sl->Prop}{ρ:List Sl}{v:R}{c:Call}{n:Nat}{r:List S}{Q':Fl->List Sl->Prop}{J:List Sl->Prop}
@[simp]theorem abe:eQ np Q .next ρ=Q (.val .non) (ρ.take np):=rfl
@[simp]theorem adm:eQ np Q (.ret v) ρ=Q v (ρ.take np):=rfl
@[simp]theorem adW:eQ np Q .brk ρ=False:=rfl
@[simp]theorem aaJ:eQ np Q .cont ρ=False:=rfl
@[simp]theorem abA:sQ c n r Q' .next ρ=(ik c n r ρ).sat Q':=rfl
@[simp]theorem acC:sQ c n r Q' (.ret v) ρ=Q' (.ret v) ρ:=rfl
@[simp]theorem acU:sQ c n r Q' .brk ρ=Q' .brk ρ:=rfl
@[simp]theorem aa5:sQ c n r Q' .cont ρ=Q' .cont ρ:=rfl
@[simp]theorem aa3:fQ J Q' .next ρ=J ρ:=rfl
@[simp]theorem aab:fQ J Q' .cont ρ=J ρ:=rfl
@[simp]theorem aeA:fQ J Q' .brk ρ=Q' .next ρ:=rfl
@[simp]theorem ad6:fQ J Q' (.ret v) ρ=Q' (.ret v) ρ:=rfl
end
theorem CW{d:Fd}{args:List Sl}{Q:R->List Sl->Prop}(hl:args.length=d.np)(hd:d.np<=d.nn)(h:(ik c n d.body (args++replicate (d.nn-d.np) .aO)).sat (eQ d.np Q)):(enter c n d args).sat Q:=by unfold enter;rw[if_pos ⟨hl,hd⟩];revert h;cases ik c n d.body (args++replicate (d.nn-d.np) .aO)with|stuck=>exact fun h=>False.elim h|exc _ _=>exact fun h=>False.elim h|ok fl ρ=>cases fl<;>first|exact id|exact fun h=>False.elim h
theorem aK{Γ:Tab}{w i:Nat}{d:Fd}{args:List Sl}{Q:R->List Sl->Prop}(hΓ:Γ i=some d)(hl:args.length=d.np)(hd:d.np<=d.nn)(h:(ik (run Γ w n) w d.body (args++replicate (d.nn-d.np) .aO)).sat (eQ d.np Q)):(run Γ w (n+1) i args).sat Q:=by rw[Jq hΓ];exact CW hl hd h
theorem ak{s:S}{r:List S}{Q:Fl->List Sl->Prop}(h:(ex c n s ρ).sat (sQ c n r Q)):(ik c n (s::r) ρ).sat Q:=by rw[Tw,bZ];refine h.imp fun fl ρ' q=>?_;cases fl<;>exact q
theorem Ei{s:S}{r:List S}{Q:Fl->List Sl->Prop}(h:(ex c n s ρ).sat (sQ c n r Q)):sQ c n (s::r) Q .next ρ:=ak h
@[simp]theorem aax{c:Call}{n:Nat}{ρ:List Sl}{Q:Fl->List Sl->Prop}:(ik c n [] ρ).sat Q=Q .next ρ:=by rw[xs0];rfl
theorem cG{s:S}{r:List S}{Q:Fl->List Sl->Prop}(M:List Sl->Prop)(h:(ex c n s ρ).sat fun fl ρ'=>fl=.next/\M ρ')(k:∀ρ',M ρ'->(ik c n r ρ').sat Q):(ik c n (s::r) ρ).sat Q:=ak (h.imp fun fl ρ'⟨e,q⟩=>by subst e;exact k ρ' q)
theorem cO{is:List Nat}{one:Bool}{body:List Sl->Res Fl}(J:List D->List Sl->Prop){Q:Fl->List Sl->Prop}(hb:∀d r ρ,J (d::r) ρ->∃ρ1,cN ρ is one d=some ρ1/\(body ρ1).sat (fQ (J r) Q))(hq:∀ρ,J [] ρ->Q .next ρ):∀{ds:List D}{ρ:List Sl},J ds ρ->(iy is one body ds ρ).sat Q|[],ρ,j=>hq ρ j|d::r,ρ,j=>by obtain⟨ρ1,e,h⟩:=hb d r ρ j;rw[iy,e];show((body ρ1).bind _).sat Q;rw[bZ];refine h.imp fun fl ρ2 q=>?_;cases fl with|next=>exact cO J hb hq q|cont=>exact cO J hb hq q|brk=>exact q|ret v=>exact q
theorem jW{is:List Nat}{one:Bool}{test:List Sl->Res Bool}{elt:Ev}(J:List Sl->Prop)(g:D->Option D){Q:List D->List Sl->Prop}:∀{ds acc:List D}{ρ:List Sl},J ρ->(∀ d,d ∈ ds->∀ ρ,J ρ->∃ ρ1,cN ρ is one d=some ρ1/\(test ρ1).sat fun b ρ2=>if b=true then(elt ρ2).sat fun r ρ3=>g d=some r.d/\J ρ3 else g d=none/\J ρ2)->(∀ ρ,J ρ->Q (acc++ds.filterMap g) ρ)->(turns is one test elt ds acc ρ).sat Q|[],acc,ρ,j,h,k=>by rw[turns];simpa using k ρ j|d::r,acc,ρ,j,h,k=>by obtain⟨ρ1,e,h1⟩:=h d (by simp) ρ j;rw[turns,e];show((test ρ1).bind _).sat Q;rw[bZ];refine h1.imp fun b ρ2 q=>?_;cases b with|true=>rw[if_pos rfl]at q;rw[if_pos rfl,bZ];refine q.imp fun x ρ3⟨e1,j3⟩=>?_;refine jW J g j3 (fun d' hd'=>h d' (by simp[hd'])) fun ρ' j'=>?_;have:=k ρ' j';rw[filterMap_cons,e1]at this;rw[append_assoc];exact this|false=>rw[if_neg (by simp)]at q;rw[if_neg (by simp)];refine jW J g q.2 (fun d' hd'=>h d' (by simp[hd'])) fun ρ' j'=>?_;have:=k ρ' j';rw[filterMap_cons,q.1]at this;exact this
theorem zB{one:Bool}{elt:Ev}(J:List Sl->Prop)(g:D->D){Q:List D->List Sl->Prop}(j:J ρ)(h:∀d,d∈ds->∀ρ,J ρ->∃ρ1,cN ρ is one d=some ρ1/\(elt ρ1).sat fun r ρ3=>g d=r.d/\J ρ3)(k:∀ρ,J ρ->Q (ds.map g) ρ):(turns is one (qF c none) elt ds [] ρ).sat Q:=jW J (fun d=>some (g d)) j (fun d hd ρ j=>by obtain⟨ρ1,e,h1⟩:=h d hd ρ j;refine⟨ρ1,e,?_⟩;rw[qF,Tz,if_pos rfl];exact h1.imp fun r ρ3 q=>⟨by rw[q.1],q.2⟩) fun ρ j=>by simpa using k ρ j
section
variable{ρ l:List Sl}{a:Sl}{i j:Int}{k m:Nat}{b b':Bool}{s:Str}{d:D}{ds es:List D}{e f:Ev}{x:Option Sl}{c:Call}
@[simp]theorem R8:cz .int .non=false:=rfl
@[simp]theorem Wk:cz .int (.bl b)=true:=rfl
@[simp]theorem QW:cz .int (.int i)=true:=rfl
@[simp]theorem Rw:cz .int (.str s)=false:=rfl
@[simp]theorem Qs:cz .int (.tup ds)=false:=rfl
@[simp]theorem S9:cz .int (.lst ds)=false:=rfl
@[simp]theorem OD:cz .bool .non=false:=rfl
@[simp]theorem Qn:cz .bool (.bl b)=true:=rfl
@[simp]theorem Og:cz .bool (.int i)=false:=rfl
@[simp]theorem Ow:cz .bool (.str s)=false:=rfl
@[simp]theorem Oj:cz .bool (.tup ds)=false:=rfl
@[simp]theorem Oi:cz .bool (.lst ds)=false:=rfl
@[simp]theorem Ur:cz .str .non=false:=rfl
@[simp]theorem Wm:cz .str (.bl b)=false:=rfl
@[simp]theorem Ru:cz .str (.int i)=false:=rfl
@[simp]theorem Rx:cz .str (.str s)=true:=rfl
@[simp]theorem RG:cz .str (.tup ds)=false:=rfl
@[simp]theorem RB:cz .str (.lst ds)=false:=rfl
@[simp]theorem K9:cz .tuple .non=false:=rfl
@[simp]theorem Ot:cz .tuple (.bl b)=false:=rfl
@[simp]theorem MK:cz .tuple (.int i)=false:=rfl
@[simp]theorem Mf:cz .tuple (.str s)=false:=rfl
@[simp]theorem Mq:cz .tuple (.tup ds)=true:=rfl
@[simp]theorem M6:cz .tuple (.lst ds)=false:=rfl
@[simp]theorem O8:cz .list .non=false:=rfl
@[simp]theorem RD:cz .list (.bl b)=false:=rfl
@[simp]theorem PQ:cz .list (.int i)=false:=rfl
@[simp]theorem O5:cz .list (.str s)=false:=rfl
@[simp]theorem Ox:cz .list (.tup ds)=false:=rfl
@[simp]theorem PK:cz .list (.lst ds)=true:=rfl
@[simp]theorem Pj:cz .none .non=true:=rfl
@[simp]theorem Qz:cz .none (.bl b)=false:=rfl
@[simp]theorem O1:cz .none (.int i)=false:=rfl
@[simp]theorem PN:cz .none (.str s)=false:=rfl
@[simp]theorem Pz:cz .none (.tup ds)=false:=rfl
@[simp]theorem Oa:cz .none (.lst ds)=false:=rfl
@[simp]theorem VP:jM .non=true:=rfl
@[simp]theorem Yb:jM (.bl b)=false:=rfl
@[simp]theorem Vv:jM (.int i)=false:=rfl
@[simp]theorem Vj:jM (.str s)=false:=rfl
@[simp]theorem VF:jM (.tup ds)=false:=rfl
@[simp]theorem Wf:jM (.lst ds)=false:=rfl
@[simp]theorem Yi:flat .non=true:=rfl
@[simp]theorem abp:flat (.bl b)=true:=rfl
@[simp]theorem Yh:flat (.int i)=true:=rfl
@[simp]theorem YK:flat (.str s)=true:=rfl
@[simp]theorem Y4:flat (.tup ds)=false:=rfl
@[simp]theorem XD:flat (.lst ds)=false:=rfl
@[simp]theorem ad4:(R.val d).d=d:=rfl
@[simp]theorem aev:(R.own ds).d=.lst ds:=rfl
@[simp]theorem YB:ym (.val d)=.val false d:=rfl
@[simp]theorem W6:ym (.own ds)=.own false ds:=rfl
@[simp]theorem Vt:vP (.val d)=.dat d:=rfl
@[simp]theorem VD:vP (.own ds)=.tmp ds:=rfl
@[simp]theorem Z8:iK (.int i)=some i:=rfl
@[simp]theorem aex:yN (.bl b)=some b:=rfl
@[simp]theorem Vm:items (.lst ds)=some ds:=rfl
@[simp]theorem VL:items (.tup ds)=some ds:=rfl
@[simp]theorem T6:Qu (.tup ds)=some ds:=rfl
@[simp]theorem Q7:yI (.lst ds)=some ds:=rfl
@[simp]theorem abi:rT .add=qY:=rfl
@[simp]theorem aaN:rT .sub=wz:=rfl
@[simp]theorem abC:rT .mul=n6:=rfl
@[simp]theorem WR:rT .fdiv=qH:=rfl
@[simp]theorem aaO:rT .mod=xQ:=rfl
@[simp]theorem aaf:rT .pow=wY:=rfl
@[simp]theorem Wj:qY (.int i) (.int j)=some (.val (.int (i+j))):=rfl
@[simp]theorem Ww:qY (.lst ds) (.lst es)=if ds.length+es.length<=lim then some (.own (ds++es))else none:=rfl
@[simp]theorem V5:qY (.tup ds) (.tup es)=if ds.length+es.length<=lim then some (.val (.tup (ds++es)))else none:=rfl
@[simp]theorem Wu:wz (.int i) (.int j)=some (.val (.int (i-j))):=rfl
@[simp]theorem Vd:n6 (.int i) (.int j)=if((-18446744073709551616<i/\i<18446744073709551616)\/(-18446744073709551616<j/\j<18446744073709551616))then some (.val (.int (i*j)))else none:=rfl
@[simp]theorem Us:qH (.int i) (.int j)=if 0<j/\j<1606938044258990275541962092341162602522202993782792835301376 then some (.val (.int (i/j)))else none:=rfl
@[simp]theorem Vo:xQ (.int i) (.int j)=if 0<j then some (.val (.int (i%j)))else none:=rfl
@[simp]theorem Vu:wY (.int i) (.int j)=if 0<=j/\j<=1000/\i.natAbs<18446744073709551616 then some (.val (.int (i^j.toNat)))else none:=rfl
@[simp]theorem Z7:Ly (.lst ds) (.int i)=(at' ds i).map .val:=rfl
@[simp]theorem aae:Ly (.tup ds) (.int i)=(at' ds i).map .val:=rfl
@[simp]theorem XQ:Ji (.int i)=some (.val (.int (-i))):=rfl
@[simp]theorem Wg:cm .eq (.int i) (.int j)=some (i==j):=rfl
@[simp]theorem Vl:cm .ne (.int i) (.int j)=some (!(i==j)):=rfl
@[simp]theorem Xk:cm .eq (.bl b) (.bl b')=some (b==b'):=rfl
@[simp]theorem WQ:cm .ne (.bl b) (.bl b')=some (!(b==b')):=rfl
@[simp]theorem VN:cm .lt (.int i) (.int j)=some (decide (i<j)):=rfl
@[simp]theorem Wd:cm .le (.int i) (.int j)=some (decide (i<=j)):=rfl
@[simp]theorem Va:cm .gt (.int i) (.int j)=some (decide (j<i)):=rfl
@[simp]theorem V1:cm .ge (.int i) (.int j)=some (decide (j<=i)):=rfl
@[simp]theorem acr:cm .isN d .non=some (jM d):=rfl
@[simp]theorem aaj:cm .Nv d .non=some (!jM d):=rfl
@[simp]theorem Pq:blt .len [.lst ds]=some (.val (.int ds.length)):=rfl
@[simp]theorem Oo:blt .len [.tup ds]=some (.val (.int ds.length)):=rfl
@[simp]theorem K3:blt .list [.lst ds]=some (.own ds):=rfl
@[simp]theorem Kg:blt .list [.tup ds]=some (.own ds):=rfl
@[simp]theorem J2:blt .tuple [.lst ds]=some (.val (.tup ds)):=rfl
@[simp]theorem J0:blt .tuple [.tup ds]=some (.val (.tup ds)):=rfl
@[simp]theorem Yr:blt .min2 [.int i,.int j]=some (.val (.int (if j<i then j else i))):=rfl
@[simp]theorem Yu:blt .max2 [.int i,.int j]=some (.val (.int (if i<j then j else i))):=rfl
@[simp]theorem abg:blt .all [.lst ds]=(ds.mapM yN).map fun bs=>.val (.bl (bs.all id)):=rfl
@[simp]theorem Wl:isVar (.var k)=some k:=rfl
@[simp]theorem aaQ:pk (a::l) k=match(a::l)[k]?with|some (.val _ d)=>some d|some (.own _ ds)=>some (.lst ds)|some (.lent ds)=>some (.lst ds)|_=>none:=rfl
@[simp]theorem YL:Fg (a::l) k=match pk (a::l) k with|some (.lst ds)=>some ds|_=>none:=rfl
@[simp]theorem Yd:cC (some k) e ρ=lift (pk ρ k) ρ:=rfl
@[simp]theorem WT:cC none e ρ=(e ρ).bind fun r ρ=>.ok r.d ρ:=rfl
@[simp]theorem Vi{y:Option Nat}:iw (some k) e y f ρ=(lift (pk ρ k) ρ).bind fun _ ρ=>(cC y f ρ).bind fun y ρ=>(lift (pk ρ k) ρ).bind fun x ρ=>.ok (x,y) ρ:=rfl
@[simp]theorem Wc{y:Option Nat}:iw none e y f ρ=(cC none e ρ).bind fun x ρ=>(cC y f ρ).bind fun y ρ=>.ok (x,y) ρ:=rfl
@[simp]theorem Vh{es:List D}:eO (.own b ds) (some (.own b' es))=.own b es:=rfl
@[simp]theorem Vr:eO (.own b ds) (some (.val b' d))=.val b d:=rfl
@[simp]theorem Gz:eO a none=a:=by cases a<;>rfl
@[simp]theorem Dy:eO (.val b d) x=.val b d:=by cases x<;>rfl
@[simp]theorem VJ:eO .aO x=.aO:=by cases x<;>rfl
@[simp]theorem yD:eO (.lent ds) x=.lent ds:=by cases x<;>rfl
@[simp]theorem W2:cN ρ [k] true d=put ρ k (.val false d):=rfl
@[simp]theorem Vc{is:List Nat}:cN ρ is false (.tup ds)=putAll ρ is ds:=by cases is<;>rfl
@[simp]theorem Ul:srcOf none e ρ=(e ρ).bind fun r ρ=>lift (items r.d) ρ:=rfl
@[simp]theorem QQ:srcOf (some k) e (a::l)=match(a::l)[k]?with|some (.val _ d)=>lift (items d) (a::l)|some (.own _ ds)=>.ok ds ((a::l).set k (.lent ds))|some (.lent ds)=>.ok ds (a::l)|_=>.stuck:=rfl
@[simp]theorem Ph{ρ':List Sl}:aW ρ' none ρ=ρ:=rfl
@[simp]theorem Pa:aW (a::l) (some k) ρ=match(a::l)[k]?with|some (.own b ds)=>ρ.set k (.own b ds)|_=>ρ:=rfl
@[simp]theorem YC{s:Sl}:put (a::l) k s=match(a::l)[k]?with|some t=>if fr t=true then some ((a::l).set k s)else none|none=>none:=QX ..
@[simp]theorem RN:putAll ρ [] []=some ρ:=rfl
@[simp]theorem Py{is:List Nat}:putAll ρ (k::is) (d::ds)=(put ρ k (.val false d)).bind fun ρ=>putAll ρ is ds:=rfl
end
@[simp]theorem at_0{α:Type}{a0:α}{l:List α}:at' (a0::l) 0=some a0:=by unfold at' jC;rw[if_pos (by decide),if_pos (by simp only[length_cons];omega)];rfl
@[simp]theorem at_1{α:Type}{a0 a1:α}{l:List α}:at' (a0::a1::l) 1=some a1:=by unfold at' jC;rw[if_pos (by decide),if_pos (by simp only[length_cons];omega)];rfl
@[simp]theorem at_2{α:Type}{a0 a1 a2:α}{l:List α}:at' (a0::a1::a2::l) 2=some a2:=by unfold at' jC;rw[if_pos (by decide),if_pos (by simp only[length_cons];omega)];rfl
@[simp]theorem at_3{α:Type}{a0 a1 a2 a3:α}{l:List α}:at' (a0::a1::a2::a3::l) 3=some a3:=by unfold at' jC;rw[if_pos (by decide),if_pos (by simp only[length_cons];omega)];rfl
@[simp]theorem at_4{α:Type}{a0 a1 a2 a3 a4:α}{l:List α}:at' (a0::a1::a2::a3::a4::l) 4=some a4:=by unfold at' jC;rw[if_pos (by decide),if_pos (by simp only[length_cons];omega)];rfl
@[simp]theorem at_5{α:Type}{a0 a1 a2 a3 a4 a5:α}{l:List α}:at' (a0::a1::a2::a3::a4::a5::l) 5=some a5:=by unfold at' jC;rw[if_pos (by decide),if_pos (by simp only[length_cons];omega)];rfl
@[simp]theorem at_6{α:Type}{a0 a1 a2 a3 a4 a5 a6:α}{l:List α}:at' (a0::a1::a2::a3::a4::a5::a6::l) 6=some a6:=by unfold at' jC;rw[if_pos (by decide),if_pos (by simp only[length_cons];omega)];rfl
@[simp]theorem at_7{α:Type}{a0 a1 a2 a3 a4 a5 a6 a7:α}{l:List α}:at' (a0::a1::a2::a3::a4::a5::a6::a7::l) 7=some a7:=by unfold at' jC;rw[if_pos (by decide),if_pos (by simp only[length_cons];omega)];rfl
theorem yF{α:Type}{l:List α}{i:Int}(h:0<=i)(h':i<l.length):at' l i=l[i.toNat]?:=by unfold at' jC;rw[if_pos h,if_pos h'];rfl
theorem HR{α:Type}{l:List α}{k:Nat}(h':k<l.length):at' l (k:Int)=l[k]?:=by rw[yF (by omega) (by omega)];simp
@[simp]theorem V3{d:D}:isVar (.con d)=none:=rfl
@[simp]theorem Tq{x:Str}{d:D}:isVar (.glob x d)=none:=rfl
@[simp]theorem We{o:Op}{p q:P}:isVar (.bin o p q)=none:=rfl
@[simp]theorem V8{p:P}:isVar (.neg p)=none:=rfl
@[simp]theorem Vs{p:P}:isVar (.not p)=none:=rfl
@[simp]theorem Wr{p q:P}:isVar (.and p q)=none:=rfl
@[simp]theorem XH{p q:P}:isVar (.or p q)=none:=rfl
@[simp]theorem Wo{o:Cm}{p q:P}:isVar (.cmp o p q)=none:=rfl
@[simp]theorem N8{o o':Cm}{p q r:P}:isVar (.chain o o' p q r)=none:=rfl
@[simp]theorem VG{p q r:P}:isVar (.Qc p q r)=none:=rfl
@[simp]theorem Vq{as:List P}:isVar (.tup as)=none:=rfl
@[simp]theorem VR{as:List P}:isVar (.lst as)=none:=rfl
@[simp]theorem V4{p q:P}:isVar (.idx p q)=none:=rfl
@[simp]theorem Ob{p q r:P}:isVar (.slice p q r)=none:=rfl
@[simp]theorem Tf{f:Nat}{as:List P}:isVar (.call f as)=none:=rfl
@[simp]theorem Vp{b:Ys}{as:List P}:isVar (.blt b as)=none:=rfl
@[simp]theorem S6{ts:List Ty}{p:P}:isVar (.inst ts p)=none:=rfl
@[simp]theorem Q9{p e:P}{n:Nat}{is:List Nat}{one:Bool}{t:Option P}:isVar (.comp p n is one t e)=none:=rfl
@[simp]theorem Ws{p q:P}:isVar (.sy p q)=none:=rfl
@[simp]theorem VB{p:P}:isVar (.Zx p)=none:=rfl
@[simp]theorem U9{p q:P}:isVar (.zip p q)=none:=rfl
noncomputable def oE(c:Call)(is:List Nat)(one:Bool)(test:Option P)(elt:P)(ds:List D)(ρ:List Sl):Res (List D):=turns is one (qF c test) (ev c elt) ds [] ρ
@[simp]theorem Z4{c:Call}{src elt:P}{n:Nat}{is:List Nat}{one:Bool}{test:Option P}{ρ:List Sl}:ev c (.comp src n is one test elt) ρ=(srcOf (isVar src) (ev c src) ρ).bind fun ds ρ₁=>if ds.length<=lim then(oE c is one test elt ds (ρ₁++replicate n .aO)).bind fun xs ρ₂=>.ok (.own xs) (aW ρ (isVar src) (ρ₂.take ρ₁.length))else .stuck:=(rfl)
noncomputable def Ip(c:Call)(n:Nat)(t:P)(body:List S)(k:Nat)(ρ:List Sl):Res Fl:=su (iH (ev c t)) (ik c n body) k ρ
@[simp]theorem adB{c:Call}{n:Nat}{t:P}{body:List S}{ρ:List Sl}:ex c n (.whl t body) ρ=Ip c n t body n ρ:=(rfl)
theorem u9{α β γ:Type}{x:Res β}{f:β->List Sl->Res α}{g:α->List Sl->Res γ}:(x.bind f).bind g=x.bind fun a ρ=>(f a ρ).bind g:=by cases x<;>rfl
@[simp]theorem aek{Γ:Tab}{w n i:Nat}{args:List Sl}{α:Type}{f:R->List Sl->Res α}{Q:α->List Sl->Prop}:((run Γ w n i args).bind f).sat Q=(run Γ w n i args).sat fun a ρ=>(f a ρ).sat Q:=bZ
@[simp]theorem acW{Γ:Tab}{w n i:Nat}{args:List Sl}{α β:Type}{f:R->List Sl->Res α}{g:α->List Sl->Res β}:((run Γ w n i args).bind f).bind g=(run Γ w n i args).bind fun a ρ=>(f a ρ).bind g:=u9
@[simp]theorem abz{c:Call}{is:List Nat}{one:Bool}{test:Option P}{elt:P}{ds:List D}{ρ:List Sl}{α:Type}{f:List D->List Sl->Res α}{Q:α->List Sl->Prop}:((oE c is one test elt ds ρ).bind f).sat Q=(oE c is one test elt ds ρ).sat fun a ρ=>(f a ρ).sat Q:=bZ
@[simp]theorem aa1{c:Call}{is:List Nat}{one:Bool}{test:Option P}{elt:P}{ds:List D}{ρ:List Sl}{α β:Type}{f:List D->List Sl->Res α}{g:α->List Sl->Res β}:((oE c is one test elt ds ρ).bind f).bind g=(oE c is one test elt ds ρ).bind fun a ρ=>(f a ρ).bind g:=u9
@[simp]theorem aeu{is:List Nat}{one:Bool}{b:List Sl->Res Fl}{ds:List D}{ρ:List Sl}{α:Type}{f:Fl->List Sl->Res α}{Q:α->List Sl->Prop}:((iy is one b ds ρ).bind f).sat Q=(iy is one b ds ρ).sat fun a ρ=>(f a ρ).sat Q:=bZ
@[simp]theorem aay{α β:Type}{p:Prop}[Decidable p]{a:β}{ρ:List Sl}{f:β->List Sl->Res α}{Q:α->List Sl->Prop}:((lift (if p then some a else none) ρ).bind f).sat Q=(p/\(f a ρ).sat Q):=by by_cases h:p<;>simp[h,lift,Res.bind]
@[simp]theorem aaH{α β γ:Type}{p:Prop}[Decidable p]{a:β}{ρ:List Sl}{f:β->List Sl->Res α}{g:α->List Sl->Res γ}:((lift (if p then some a else none) ρ).bind f).bind g=(lift (if p then some a else none) ρ).bind fun a ρ=>(f a ρ).bind g:=u9
@[simp]theorem bb_ite{α β:Type}{p:Prop}[Decidable p]{x y:Res β}{f:β->List Sl->Res α}:(if p then x else y).bind f=if p then x.bind f else y.bind f:=by by_cases h:p<;>simp[h]
@[simp]theorem acz{c:Call}{n k:Nat}{t:P}{b:List S}{ρ:List Sl}{α:Type}{f:Fl->List Sl->Res α}{Q:α->List Sl->Prop}:((Ip c n t b k ρ).bind f).sat Q=(Ip c n t b k ρ).sat fun a ρ=>(f a ρ).sat Q:=bZ
@[simp]theorem adv{α β:Type}{a:α}{ρ:List Sl}{f:α->List Sl->Res β}:(Res.ok a ρ).bind f=f a ρ:=rfl
@[simp]theorem V6{α β:Type}{f:α->List Sl->Res β}:(Res.stuck:Res α).bind f=.stuck:=rfl
@[simp]theorem W8{α:Type}{a:α}{ρ:List Sl}:lift (some a) ρ=.ok a ρ:=rfl
@[simp]theorem Xw{α:Type}{ρ:List Sl}:lift (none:Option α) ρ=.stuck:=rfl
noncomputable def Di:List Sl->Nat->Sl->List Sl|[],_,_=>[]|t::ρ,0,s=>eO t (some s)::ρ|t::ρ,k+1,s=>t::Di ρ k s
noncomputable def bk:List Arg->List Sl->List Sl->List Sl|.fC k::as,s::ss,ρ=>bk as ss (Di ρ k s)|.dat _::as,_::ss,ρ=>bk as ss ρ|.tmp _::as,_::ss,ρ=>bk as ss ρ|_,_,ρ=>ρ
section
variable{t s:Sl}{ρ ss:List Sl}{k:Nat}{as:List Arg}{d:D}{ds:List D}
@[simp]theorem af4:Di (t::ρ) 0 s=eO t (some s)::ρ:=rfl
@[simp]theorem aga:Di (t::ρ) (k+1) s=t::Di ρ k s:=rfl
@[simp]theorem Qt:bk (.fC k::as) (s::ss) ρ=bk as ss (Di ρ k s):=rfl
@[simp]theorem QF:bk (.dat d::as) (s::ss) ρ=bk as ss ρ:=rfl
@[simp]theorem Rr:bk (.tmp ds::as) (s::ss) ρ=bk as ss ρ:=rfl
@[simp]theorem aeT:bk [] ss ρ=ρ:=rfl
end
theorem zq{s:Sl}:∀{ρ:List Sl}{k j:Nat},(Di ρ k s)[j]?=(ρ[j]?).map fun t=>if j=k then eO t (some s)else t|[],_,_=>by simp[Di]|t::ρ,0,0=>by simp[Di]|t::ρ,0,j+1=>by simp[Di]|t::ρ,k+1,0=>by simp[Di]|t::ρ,k+1,j+1=>by have:=zq (s:=s) (ρ:=ρ) (k:=k) (j:=j);simp only[Di,getElem?_cons_succ,this];congr 1;funext t;simp
theorem vX{as:List Arg}{ss:List Sl}:∀{ρ:List Sl}{i j:Nat},(cZ as ss i ρ)[j]?=(ρ[j]?).map fun t=>eO t (bf (i+j) as ss)|[],_,_=>by simp[cZ]|t::ρ,i,0=>by simp[cZ]|t::ρ,i,j+1=>by have:=vX (as:=as) (ss:=ss) (ρ:=ρ) (i:=i+1) (j:=j);simp only[cZ,getElem?_cons_succ,this];rw[show i+1+j=i+(j+1)by omega]
def stb(t:Sl):Prop:=∀x,eO t x=t
def QV(ρ:List Sl):List Arg->Prop|[]=>True|.fC k::as=>(Arg.fC k∈as->∀t,ρ[k]?=some t->stb t)/\QV ρ as|_::as=>QV ρ as
theorem pO{ρ:List Sl}:∀{as:List Arg}{ρ':List Sl},QV ρ as->(∀k,Arg.fC k∈as->∀t,ρ'[k]?=some t->ρ[k]?=some t\/stb t)->QV ρ' as
 |[],_,_,_=>trivial|.fC k::as,ρ',h,g=>⟨fun hm t ht=>by
  rcases g k (by simp) t ht with e|e;.exact h.1 hm t e
  .exact e,pO h.2 fun j hj=>g j (by simp[hj])⟩|.dat _::as,ρ',h,g=>pO (as:=as) h fun j hj=>g j (by simp[hj])|.tmp _::as,ρ',h,g=>pO (as:=as) h fun j hj=>g j (by simp[hj])
theorem mO{k:Nat}:∀{as:List Arg}{ss:List Sl},Arg.fC k∉as->bf k as ss=none|[],_,_=>by unfold bf;rfl|.fC j::as,[],_=>rfl|.dat _::as,[],_=>rfl|.tmp _::as,[],_=>rfl|.fC j::as,s::ss,h=>by simp only[mem_cons,Arg.fC.injEq,not_or]at h;rw[bf,if_neg (fun e=>h.1 e.symm),mO h.2]|.dat _::as,s::ss,h=>by simp only[mem_cons,not_or]at h;rw[bf,mO h.2]|.tmp _::as,s::ss,h=>by simp only[mem_cons,not_or]at h;rw[bf,mO h.2]
theorem Ci:∀{as:List Arg}{ss ρ:List Sl},QV ρ as->∀j,(bk as ss ρ)[j]?=(ρ[j]?).map fun t=>eO t (bf j as ss)
 |[],ss,ρ,_,j=>by cases ss<;>simp[bf]|.fC k::as,[],ρ,_,j=>by rw[show bk (.fC k::as) [] ρ=ρ from rfl];simp[bf]|.dat d::as,[],ρ,_,j=>by rw[show bk (.dat d::as) [] ρ=ρ from rfl];simp[bf]|.tmp d::as,[],ρ,_,j=>by rw[show bk (.tmp d::as) [] ρ=ρ from rfl];simp[bf]|.dat _::as,s::ss,ρ,h,j=>by rw[QF,bf];exact Ci (as:=as) h j|.tmp _::as,s::ss,ρ,h,j=>by rw[Rr,bf];exact Ci (as:=as) h j|.fC k::as,s::ss,ρ,h,j=>by
   have h2:QV (Di ρ k s) as:=pO h.2 fun i hi t ht=>by rw[zq]at ht;cases e:ρ[i]?with|none=>rw[e]at ht;cases ht|some t0=>
      rw[e]at ht;by_cases c:i=k;.subst c;have hs:=h.1 hi t0 e;simp[hs (some s)]at ht;exact .inl (by rw[ht])
      .simp[c]at ht;exact .inl (by rw[ht])
   rw[Qt,Ci h2 j,zq,bf];cases e:ρ[j]?with|none=>rfl|some t0=>
     simp only[Option.map_some];by_cases c:j=k
     . subst c;rw[if_pos rfl,if_pos rfl];by_cases hm:Arg.fC j∈as;.have hs:=h.1 hm t0 e;rw[hs (some s),hs]
       .rw[mO hm,Gz]
     .rw[if_neg c,if_neg (fun z=>c z.symm)]
theorem fW{ρ:List Sl}{k:Nat}{b:Bool}{ds:List D}(e:ρ[k]?=some (.own b ds)):∀{as:List Arg}{u:List Nat}{r:List Sl},k∈u->bT ρ as u=some r->Arg.fC k∉as
 |[],_,_,_,_=>by simp|.dat _::as,u,r,hu,h=>by simp only[bT,map_eq_some_iff]at h;obtain⟨r',h,_⟩:=h;simp[fW e hu h]|.tmp _::as,u,r,hu,h=>by simp only[bT,map_eq_some_iff]at h;obtain⟨r',h,_⟩:=h;simp[fW e hu h]|.fC i::as,u,r,hu,h=>by
   rw[bT]at h;have hi:i≠k:=by rintro rfl;rw[e]at h;simp[hu]at h
   have:Arg.fC k∉as:=by
    split at h;.obtain⟨r',h,_⟩:=map_eq_some_iff.mp h;exact fW e hu h
    . split at h;.cases h
      .obtain⟨r',h,_⟩:=map_eq_some_iff.mp h;exact fW e (by simp[hu]) h
    . split at h;.cases h
      .obtain⟨r',h,_⟩:=map_eq_some_iff.mp h;exact fW e (by simp[hu]) h
    .cases h
   simp[this];exact fun z=>hi z.symm
theorem fV{ρ:List Sl}:∀{as:List Arg}{u:List Nat}{r:List Sl},bT ρ as u=some r->QV ρ as
 |[],_,_,_=>trivial|.dat _::as,u,r,h=>by obtain⟨r',h,_⟩:=map_eq_some_iff.mp h;exact fV (as:=as) h|.tmp _::as,u,r,h=>by obtain⟨r',h,_⟩:=map_eq_some_iff.mp h;exact fV (as:=as) h|.fC i::as,u,r,h=>by
   rw[bT]at h;split at h;.rename_i b d q;obtain⟨r',h,_⟩:=map_eq_some_iff.mp h;exact⟨fun _ t ht=>by rw[q]at ht;cases ht;exact fun x=>Dy,fV h⟩
   . rename_i b ds q;split at h;.cases h
     .obtain⟨r',h,_⟩:=map_eq_some_iff.mp h;exact⟨fun hm=>absurd hm (fW q (by simp) h),fV h⟩
   . rename_i ds q;split at h;.cases h
     .obtain⟨r',h,_⟩:=map_eq_some_iff.mp h;exact⟨fun _ t ht=>by rw[q]at ht;cases ht;exact fun x=>yD,fV h⟩
   .cases h
theorem Zq{as:List Arg}{ss r:List Sl}{u:List Nat}(h:bT ρ as u=some r):cZ as ss 0 ρ=bk as ss ρ:=by apply List.ext_getElem?;intro j;rw[vX,Ci (fV h),Nat.zero_add]
@[simp]theorem VM{c:Call}{k:Nat}{as:List Arg}{ρ:List Sl}:qi c k as ρ=match bT ρ as []with|none=>.stuck|some args=>(c k args).bind fun r args'=>.ok r (bk as args' ρ):=by unfold qi;cases e:bT ρ as []with|none=>rfl|some args=>simp only[<-Zq (r:=args) e];cases c k args<;>rfl
theorem bH{one:Bool}{elt:P}(J:List Sl->Prop)(g:D->D){Q:List D->List Sl->Prop}(j:J ρ)(h:∀d,d∈ds->∀ρ,J ρ->∃ρ1,cN ρ is one d=some ρ1/\(ev c elt ρ1).sat fun r ρ3=>g d=r.d/\J ρ3)(k:∀ρ,J ρ->Q (ds.map g) ρ):(oE c is one none elt ds ρ).sat Q:=zB J g j h k
theorem tZ{one:Bool}{elt t:P}(J:List Sl->Prop)(g:D->Option D){Q:List D->List Sl->Prop}(j:J ρ)(h:∀d,d∈ds->∀ρ,J ρ->∃ρ1,cN ρ is one d=some ρ1/\(ev c t ρ1).sat fun r ρ2=>∃b,r.d=.bl b/\if b=true then(ev c elt ρ2).sat fun r ρ3=>g d=some r.d/\J ρ3 else g d=none/\J ρ2)(k:∀ρ,J ρ->Q (ds.filterMap g) ρ):(oE c is one (some t) elt ds ρ).sat Q:=jW J g j (fun d hd ρ j=>by obtain⟨ρ1,e,h1⟩:=h d hd ρ j;refine⟨ρ1,e,?_⟩;rw[qF,iH,bZ];refine h1.imp fun r ρ2⟨b,e,q⟩=>?_;rw[e];exact q) fun ρ j=>by simpa using k ρ j
theorem jA{c:Call}{n:Nat}{t:P}{body:List S}(J:Nat->List Sl->Prop){Q:Fl->List Sl->Prop}(h:∀m ρ,J m ρ->(ev c t ρ).sat fun r ρ1=>∃b,r.d=.bl b/\if b=true then(ik c n body ρ1).sat (fQ (fun ρ2=>∃m',m'<m/\J m' ρ2) Q)else Q .next ρ1):∀{k m:Nat}{ρ:List Sl},m<k->J m ρ->(Ip c n t body k ρ).sat Q|0,m,ρ,hk,_=>absurd hk (Nat.not_lt_zero _)|k+1,m,ρ,hk,j=>by unfold Ip;rw[su,bZ,iH,bZ];refine(h m ρ j).imp fun r ρ1⟨b,e,q⟩=>?_;rw[e];show(if b=true then _ else _:Res Fl).sat Q;cases b with|false=>rw[if_neg (by simp)]at q;rw[if_neg (by simp)];exact q|true=>rw[if_pos rfl]at q;rw[if_pos rfl,bZ];refine q.imp fun fl ρ2 q=>?_;cases fl with|next=>obtain⟨m',hm,j'⟩:=q;exact jA J h (lt_of_lt_of_le hm (Nat.lt_succ_iff.mp hk)) j'|cont=>obtain⟨m',hm,j'⟩:=q;exact jA J h (lt_of_lt_of_le hm (Nat.lt_succ_iff.mp hk)) j'|brk=>exact q|ret v=>exact q
@[simp]theorem afW:type_of%@HH.E1:=@HH.E1
@[simp]theorem ago:type_of%@HH.E2:=@HH.E2
@[simp]theorem afO:type_of%@HH.E3:=@HH.E3
@[simp]theorem agx:type_of%@HH.E4:=@HH.E4
@[simp]theorem af2:type_of%@HH.E5:=@HH.E5
@[simp]theorem afT:type_of%@HH.E6:=@HH.E6
@[simp]theorem agp:type_of%@HH.E7:=@HH.E7
@[simp]theorem agi:type_of%@HH.E8:=@HH.E8
@[simp]theorem afY:type_of%@HH.E9:=@HH.E9
@[simp]theorem adU:type_of%@HH.E10:=@HH.E10
@[simp]theorem aea:type_of%@HH.E11:=@HH.E11
@[simp]theorem acP:type_of%@HH.E12:=@HH.E12
@[simp]theorem ace:type_of%@HH.E13:=@HH.E13
@[simp]theorem aem:type_of%@HH.E14:=@HH.E14
@[simp]theorem ac0:type_of%@HH.E15:=@HH.E15
@[simp]theorem aci:type_of%@HH.E16:=@HH.E16
@[simp]theorem ac1:type_of%@HH.E17:=@HH.E17
@[simp]theorem aez:type_of%@HH.E18:=@HH.E18
@[simp]theorem aat:type_of%@HH.Yw:=@HH.Yw
@[simp]theorem ada:type_of%@HH.E19:=@HH.E19
@[simp]theorem acn:type_of%@HH.E21:=@HH.E21
@[simp]theorem adO:type_of%@HH.E22:=@HH.E22
@[simp]theorem acj:type_of%@HH.E23:=@HH.E23
@[simp]theorem af3:type_of%@HH.X1:=@HH.X1
@[simp]theorem afU:type_of%@HH.X2:=@HH.X2
@[simp]theorem af8:type_of%@HH.X3:=@HH.X3
@[simp]theorem agg:type_of%@HH.X4:=@HH.X4
@[simp]theorem afZ:type_of%@HH.X5:=@HH.X5
@[simp]theorem af5:type_of%@HH.X6:=@HH.X6
@[simp]theorem af1:type_of%@HH.X7:=@HH.X7
@[simp]theorem afR:type_of%@HH.X8:=@HH.X8
@[simp]theorem af0:type_of%@HH.X9:=@HH.X9
@[simp]theorem ado:type_of%@HH.X10:=@HH.X10
@[simp]theorem aeD:type_of%@HH.X11:=@HH.X11
@[simp]theorem adi:type_of%@HH.X12:=@HH.X12
@[simp]theorem acH:type_of%@HH.X13:=@HH.X13
@[simp]theorem adx:type_of%@HH.X14:=@HH.X14
@[simp]theorem acs:type_of%@HH.iH.eq_1:=@HH.iH.eq_1
@[simp]theorem acb:type_of%@HH.evs.eq_1:=@HH.evs.eq_1
@[simp]theorem adR:type_of%@HH.evs.eq_2:=@HH.evs.eq_2
@[simp]theorem acS:type_of%@HH.yf.eq_1:=@HH.yf.eq_1
@[simp]theorem aey:type_of%@HH.yf.eq_2:=@HH.yf.eq_2
@[simp]theorem adp:type_of%@HH.qF.eq_1:=@HH.qF.eq_1
@[simp]theorem acR:type_of%@HH.qF.eq_2:=@HH.qF.eq_2
@[simp]theorem acE:type_of%@HH.rE.eq_1:=@HH.rE.eq_1
@[simp]theorem XN:type_of%@HH.bT.eq_1:=@HH.bT.eq_1
@[simp]theorem Yz:type_of%@HH.bT.eq_2:=@HH.bT.eq_2
@[simp]theorem WX:type_of%@HH.bT.eq_3:=@HH.bT.eq_3
@[simp]theorem Xo:type_of%@HH.bT.eq_4:=@HH.bT.eq_4
@[simp]theorem Xu:type_of%@HH.cZ.eq_1:=@HH.cZ.eq_1
@[simp]theorem W0:type_of%@HH.cZ.eq_2:=@HH.cZ.eq_2
@[simp]theorem W9:type_of%@HH.bf.eq_1:=@HH.bf.eq_1
@[simp]theorem Xh:type_of%@HH.bf.eq_2:=@HH.bf.eq_2
@[simp]theorem Xg:type_of%@HH.bf.eq_3:=@HH.bf.eq_3
@[simp]theorem Xa:type_of%@HH.bf.eq_4:=@HH.bf.eq_4
end HH
end
section
namespace HH
open PySem L2 PySem.Spec PyProof.Rows
section
variable{X:Cx}{c:Call}{a b:Expr}{pa pb:P}{pos:Pos}
theorem qJ:∀{ds:List D}{ns:List Int},ds.mapM iK=some ns->ds=ns.map D.int|[],ns,h=>by simp at h;subst h;rfl|d::ds,ns,h=>by simp[List.mapM_cons,Option.bind_eq_some_iff]at h;obtain⟨i,e1,ms,e2,rfl⟩:=h;rw[cQ e1,qJ e2];rfl
theorem jD{K:PySem.W.Frag}{F:Hp}:∀{ns:List Int}{ys:List V},aG K F ys (ns.map D.int)->ys=ns.map V.int|[],ys,h=>by rw[h.fK];rfl|n::ns,ys,h=>by obtain⟨v,r,rfl,h1,t⟩:=h.cu;rw[Rep]at h1;rw[h1,jD t];rfl
theorem uz{ns:List Int}{us:List Value}(h:Vals (ns.map V.int) us){i:Nat}{v:Value}(e:us.toArray[i]?=some v):∃t,v=.int (ns.getD i 0) t:=by
 have e:us[i]?=some v:=by simpa using e
 have hi:i<us.length:=(dI e).1;have hl:=h.length;rw[length_map]at hl;have g:(ns.map V.int)[i]?=some (.int (ns.getD i 0)):=by rw[getElem?_map,getElem?_eq_getElem (by omega)];simp[List.getD,show i<ns.length by omega]
 obtain⟨w,g1,g2⟩:=h.get g;rw[e]at g1;cases g1;exact g2
theorem walked{pins:List (Addr×Obj)}{σ:L2.St}{H:Hp}{s:Shared}{p:Addr}{ys:List V}(I:L2.Inv X pins σ H s)(hc:X.calm=true)(hq:dX X.K H p ys\/iD X.K H p ys){Q:Value->Shared->Prop}{E:Value->Shared->Prop}(k:∀(it:Addr)(us:List Value)(s₂:Shared)(St:Nat->Heap->Prop),Vals ys us->Walks X.prog X.w X.A.in1 it [it,p] [it] us.toArray.size (fun i v=>us.toArray[i]?=some v) St->St 0 s₂.heap->(∀ b ∈[it,p],b<s₂.heap.objs.size)->(∀h' tk,(∀b o,b∉[it]->s₂.heap.get? b=some o->h'.get? b=some o)->L2.Inv X pins σ H {s₂ with heap:=h',toks:=tk})->Q (.ref it) s₂):wpAny (model X.prog X.w) X.A.in1 (pyIter (.ref p)) Q E s:=by
 have hh:X.A.in1.handled=none:=I.ok.hd hc;rcases hq with hq|hq
 . obtain⟨us,rv,pl,hz⟩:=I.list hq;have pl:=pl.isList;have hlt:p<s.heap.objs.size:=by obtain⟨o,h1,_⟩:=pl;exact lt_size h1
   refine wpAny_pyIter_list pl (k s.heap.objs.size us _ _ rv (Walks.list hh s.heap.objs.size p (ne_of_lt hlt) us.toArray) ⟨⟨_,get?_push_size _ rfl,rfl,rfl⟩,?_⟩ ?_ fun h' tk kp=>?_);.obtain⟨o,h1,h2⟩:=pl;exact⟨o,dC h1,h2⟩
   . intro b hb;obtain⟨o,h1,_⟩:=pl;simp at hb;rcases hb with rfl|rfl;.exact lt_size (get?_push_size _ rfl)
     .exact lt_size (dC h1)
   .exact I.kept (fun b o z=>kp b o (by simp;exact ne_of_lt (lt_size z)) (dC z))
 . obtain⟨us,rv,pl,hz⟩:=I.tuple hq;have hlt:p<s.heap.objs.size:=by obtain⟨o,h1,_⟩:=pl;exact lt_size h1
   refine wpAny_pyIter_tuple pl (k s.heap.objs.size us _ _ rv (Walks.tuple hh s.heap.objs.size p (ne_of_lt hlt) us.toArray) ⟨⟨_,get?_push_size _ rfl,rfl,rfl⟩,?_⟩ ?_ fun h' tk kp=>?_);.obtain⟨o,h1,h2⟩:=pl;exact⟨o,dC h1,h2⟩
   . intro b hb;obtain⟨o,h1,_⟩:=pl;simp at hb;rcases hb with rfl|rfl;.exact lt_size (get?_push_size _ rfl)
     .exact lt_size (dC h1)
   .exact I.kept (fun b o z=>kp b o (by simp;exact ne_of_lt (lt_size z)) (dC z))
theorem oR(ns:List Int):∀k,k<=ns.length->preSum (fun i=>ns.getD i 0) k=(ns.take k).sum|0,_=>by simp[preSum]|k+1,h=>by rw[preSum,oR ns k (by omega),List.take_succ,List.sum_append];simp[List.getD,show k<ns.length by omega]
theorem YF(hc:X.calm=true):dz X (.builtin "sum") (Lh X.K fun x=>blt .sum [x]):=by
 rintro pins s σ H xs us Q I r⟨x,hx,F,d,r',sm,px,he,k⟩;obtain⟨ns,e1,he⟩:=map_some (show((items d).bind fun ds=>ds.mapM iK).map _=some r' from he);subst he;obtain⟨ds,e2,e3⟩:=bV e1;obtain⟨p,ys,rfl,hq,rs⟩:=px.items sm e2;rw[qJ e3]at rs;have ey:=jD rs;subst hx;obtain⟨u,rfl,rx⟩:=r.one;cases rx;refine call_sum_walkG (walked I hc hq fun it us s₂ St rv W h0 hl kp=>?_);subst ey;have hlen:us.toArray.size=ns.length:=by rw[size_toArray,<-rv.length,length_map]
 refine⟨it,_,_,_,_,St,fun i=>ns.getD i 0,rfl,W,h0,hl,fun i v e=>uz rv e,fun h' tk t' kk=>?_⟩;rw[hlen,oR ns _ (dh),List.take_length];exact⟨.int _,H,kp h' tk kk,⟨t',rfl⟩,cg.cV sm (bN _) k⟩
theorem Gh{ns:List Int}{m:Int}(hm:ns.min?=some m):ns.getD (argBest (fun i j=>decide (ns.getD i 0<ns.getD j 0)) (ns.length-1)) 0=m:=by
 have hne:ns≠[]:=by rintro rfl;simp at hm
 have hl:0<ns.length:=List.length_pos_iff.mpr hne;obtain⟨h1,h2⟩:=argBest_lt (fun i=>ns.getD i 0) (ns.length-1);have hb:=List.min?_eq_some_iff.mp hm;generalize argBest (fun i j=>decide (ns.getD i 0<ns.getD j 0)) (ns.length-1)=j at*;have hj:j<ns.length:=by omega
 have hmem:ns.getD j 0∈ns:=by simp[List.getD,hj]
 obtain⟨q,hq,e⟩:=getElem_of_mem hb.1;have h3:=h2 q (by omega);simp only[List.getD,getElem?_eq_getElem hq,Option.getD_some]at h3;rw[e]at h3;have h4:=hb.2 _ hmem;have h3:ns.getD j 0<=m:=h3;omega
theorem T5(hc:X.calm=true):dz X (.builtin "min") (Lh X.K fun x=>blt .JD [x]):=by
 rintro pins s σ H xs us Q I r⟨x,hx,F,d,r',sm,px,he,k⟩;obtain⟨ns,e1,he⟩:=bV (show((items d).bind fun ds=>ds.mapM iK).bind _=some r' from he);obtain⟨m,hm,he⟩:=map_some he;subst he;obtain⟨ds,e2,e3⟩:=bV e1;obtain⟨p,ys,rfl,hq,rs⟩:=px.items sm e2;rw[qJ e3]at rs;have ey:=jD rs;subst hx;obtain⟨u,rfl,rx⟩:=r.one;cases rx;refine call_min_walk (walked I hc hq fun it us s₂ St rv W h0 hl kp=>?_);subst ey;have hlen:us.toArray.size=ns.length:=by rw[size_toArray,<-rv.length,length_map]
 have hpos:0<ns.length:=by cases ns with|nil=>simp at hm|cons _ _=>simp
 refine⟨it,_,_,_,_,St,_,rfl,W,h0,hl,by rw[hlen];exact hpos,CmpOf.ints_lt (fun i=>ns.getD i 0) (fun i v e=>uz rv e),fun v h' tk hv kk=>?_⟩;rw[hlen]at hv;obtain⟨t,rfl⟩:=uz rv hv;rw[Gh hm];exact⟨.int _,H,kp h' tk kk,⟨t,rfl⟩,cg.cV sm (bN _) k⟩
theorem boot_sum:bootBuiltins "sum"=some (.builtin "sum"):=by decide+kernel
theorem uH{x:Str}{p':Pos}(hx:x="sum")(hc:X.calm=true)(hg:Gl X x)(hm:X.mg x=none)(ha:SX X c a pa)(hs:starEach [a] X.env=(false,eval a X.env)::starEach [] X.env:=by rfl):SX X c (.Call (.Name x p') [a] [] pos) (.blt .sum [pa]):=by subst hx;exact oF (fun h=>dJ (YF hc) hg hm boot_sum h (he:=hs)) ha (fun ρ=>rfl) rfl hs
theorem Ms{x:Str}{p':Pos}(hx:x="min")(hc:X.calm=true)(hg:Gl X x)(hm:X.mg x=none)(ha:SX X c a pa)(hs:starEach [a] X.env=(false,eval a X.env)::starEach [] X.env:=by rfl):SX X c (.Call (.Name x p') [a] [] pos) (.blt .JD [pa]):=by subst hx;exact oF (fun h=>dJ (T5 hc) hg hm boot_min h (he:=hs)) ha (fun ρ=>rfl) rfl hs
end
end HH
end
section
namespace HH
open PySem
section
variable{i j:Int}{ds es:List D}{d:D}{b b':Bool}
@[simp]theorem aap:rT .shl=Fv:=rfl
@[simp]theorem aaS:rT .shr=Ib:=rfl
@[simp]theorem Xl:rT .band=yJ:=rfl
@[simp]theorem Wn:Fv (.int i) (.int j)=if 0<=j/\j<=1000/\i.natAbs<18446744073709551616 then some (.val (.int (i*2^j.toNat)))else none:=rfl
@[simp]theorem VH:Ib (.int i) (.int j)=if 0<=j then some (.val (.int (i/2^j.toNat)))else none:=rfl
@[simp]theorem Q8:yJ (.int i) (.int j)=some (.val (.int (Builtin.bitAnd i j))):=rfl
@[simp]theorem Vz:n6 (.lst ds) (.int i)=if 0<=i/\0<ds.length/\ds.length*i.toNat<=lim then some (.own (replicate i.toNat ds).flatten)else none:=rfl
@[simp]theorem V7:n6 (.tup ds) (.int i)=if 0<=i/\0<ds.length/\ds.length*i.toNat<=lim then some (.val (.tup (replicate i.toNat ds).flatten))else none:=rfl
@[simp]theorem adA:cm .isT (.bl b) (.bl true)=some b:=rfl
@[simp]theorem aaX:cm .Ny (.bl b) (.bl true)=some (!b):=rfl
@[simp]theorem aaR:blt .sum [.lst ds]=(ds.mapM iK).map fun ns=>.val (.int ns.sum):=rfl
@[simp]theorem Xq:blt .JD [.lst ds]=(ds.mapM iK).bind fun ns=>ns.min?.map fun i=>.val (.int i):=rfl
end
@[simp]theorem acX:type_of%@HH.X16:=@HH.X16
@[simp]theorem acy:type_of%@HH.X17:=@HH.X17
theorem iz{ns:List Int}:(ns.map D.int).mapM iK=some ns:=by induction ns with|nil=>rfl|cons n ns ih=>simp[ih]
@[simp]theorem Wq{ns:List Int}:ns.mapM (iK ∘ D.int)=some ns:=by rw[<-iz (ns:=ns),List.mapM_map]
@[simp]theorem Xd{bs:List Bool}:bs.mapM (yN ∘ D.bl)=some bs:=by induction bs with|nil=>rfl|cons b bs ih=>simp[ih]
theorem aas{S:List Int}{i:Int}:((S.map D.int).any fun y=>lg y (.int i))=S.contains i:=by induction S with|nil=>rfl|cons s S ih=>rw[map_cons,any_cons,List.contains_cons,ih,pqi];rw[show(s==i)=(i==s)from Bool.eq_iff_iff.mpr ⟨fun h=>by simp at h ⊢;exact h.symm,fun h=>by simp at h ⊢;exact h.symm⟩]
theorem Zf{S:List Int}:(S.map D.int).all flat=true:=by rw[all_eq_true];intro d hd;obtain⟨i,_,rfl⟩:=mem_map.mp hd;rfl
theorem pP{n:Nat}{S:List Int}:dZ (n+1) (.lst (S.map D.int))=true:=by rw[dZ,all_eq_true];intro d hd;obtain⟨i,_,rfl⟩:=mem_map.mp hd;cases n<;>rfl
theorem lZ:∀{S T:List Int},gB (S.map D.int) (T.map D.int)=(S==T)|[],[]=>by simp[gB]|[],_::_=>by simp[gB]|_::_,[]=>by simp[gB]|s::S,t::T=>by rw[map_cons,map_cons,gB,lZ,pqi];rfl
theorem KH{S T:List Int}:cm .eq (.lst (S.map D.int)) (.lst (T.map D.int))=some (S==T):=by show Ij _ _=_;unfold Ij;rw[pP,pP,pql,lZ];rfl
theorem aal{S T:List Int}:cm .ne (.lst (S.map D.int)) (.lst (T.map D.int))=some (!(S==T)):=by show zj _ _=_;unfold zj;rw[pP,pP,pql,lZ];rfl
theorem Lj{S:List Int}:cm .eq (.lst (S.map D.int)) (.lst [])=some S.isEmpty:=by rw[show(.lst []:D)=.lst (([]:List Int).map D.int)from rfl,KH];cases S<;>rfl
theorem cY{α:Type}{l:List α}{f:α->D}{k:Nat}{x:α}(h:l[k]?=some x):at' (l.map f) (k:Int)=some (f x):=by have hk:=(dI h).1;rw[HR (by simpa using hk),getElem?_map,h];rfl
theorem Ry{n k:Nat}(h:k<n):jC n (k:Int)=some k:=by unfold jC;rw[if_pos (by omega),if_pos (by omega)];simp
theorem gq{is:List Nat}{one:Bool}{body:List Sl->Res Fl}{g:Nat->D}{N:Nat}(J:Nat->List Sl->Prop){Q:Fl->List Sl->Prop}(hb:∀i ρ,i<N->J i ρ->∃ρ1,cN ρ is one (g i)=some ρ1/\(body ρ1).sat (fQ (J (i+1)) Q))(hq:∀ρ,J N ρ->Q .next ρ){ρ:List Sl}(h0:J 0 ρ):(iy is one body ((List.range N).map g) ρ).sat Q:=by
 refine cO (fun r ρ=>∃i,i<=N/\r=((List.range N).map g).drop i/\J i ρ) ?_ ?_ ⟨0,uW,rfl,h0⟩
 . rintro d r ρ⟨i,hi,e,j⟩;have hlt:i<N:=by
    rcases Nat.lt_or_ge i N with h|h;.exact h
    .rw[List.drop_eq_nil_of_le (by simpa using h)]at e;cases e
   rw[drop_eq_getElem_cons (by simpa using hlt)]at e;injection e with e1 e2;simp at e1;subst e1;obtain⟨ρ1,h1,h2⟩:=hb i ρ hlt j;refine⟨ρ1,h1,h2.imp fun fl ρ2 q=>?_⟩;cases fl with|next=>exact⟨i+1,hlt,e2,q⟩|cont=>exact⟨i+1,hlt,e2,q⟩|brk=>exact q|ret v=>exact q
 . rintro ρ⟨i,hi,e,j⟩;have:i=N:=by have hl:=congrArg List.length e;simp at hl;omega
   subst this;exact hq ρ j
inductive A3(a b c:Prop):Prop where|mk(ha:a)(hb:b)(hc:c)
inductive A4(a b c d:Prop):Prop where|mk(ha:a)(hb:b)(hc:c)(hd:d)
inductive A5(a b c d e:Prop):Prop where|mk(ha:a)(hb:b)(hc:c)(hd:d)(he:e)
inductive A6(a b c d e f:Prop):Prop where|mk(ha:a)(hb:b)(hc:c)(hd:d)(he:e)(hf:f)
inductive A7(a b c d e f g:Prop):Prop where|mk(ha:a)(hb:b)(hc:c)(hd:d)(he:e)(hf:f)(hg:g)
inductive A8(a b c d e f g h:Prop):Prop where|mk(ha:a)(hb:b)(hc:c)(hd:d)(he:e)(hf:f)(hg:g)(hh:h)
inductive A9(a b c d e f g h i:Prop):Prop where|mk(ha:a)(hb:b)(hc:c)(hd:d)(he:e)(hf:f)(hg:g)(hh:h)(hi:i)
end HH
end
section
namespace HH
open PySem L2 PySem.Spec PyProof.Rows
section
variable{X:Cx}{c:Call}{n:Nat}{e a b d tg:Expr}{p pa pb pd:P}{pos:Pos}
theorem Ui{g:TG}{is:List Nat}(he:SX X c e p)(hg:PG X tg g)(hgo:GX X.K (fun ρ d=>cN ρ is false d) g)(hs:swapsWithSole [tg] e pos.line X.env=pure false:=by rfl)(hw:swappedStores [tg] e X.env=pure none:=by rfl)(h1:(assignEach [tg] X.env).map (·.2)=[assign tg X.env]:=by rfl):SS X c n (.Assign [tg] e pos) (.unp is p):=by
 refine dD (Ir he.ev hg hs hw h1) ?_;rintro D σ H⟨F,ρ,fl,ρ',g0,e,k⟩;rw[HH.X8]at e;obtain⟨r,ρ1,e1,e⟩:=aj e;refine⟨F,ρ,r,ρ1,g0,e1,fun v F1 H1 s1 rr=>?_⟩;obtain⟨F2,s2,_,rp⟩:=s1.cX rr;split at e;.rename_i ds hd;obtain⟨ρ2,ρ3,e2,e⟩:=aj e;cases e;have zz:=aD e2;clear e2;obtain⟨e2,e3⟩:=zz;rw[hd]at rp;exact hgo v (.tup ds) F2 ρ1 _ σ H1 _ s2.gs rp (by show cN ρ1 is false (.tup ds)=_;cases is<;>exact e2) fun σ' s3=>k F2 σ' H1 (s2.trans s3)
 .cases e
theorem Gp:fU X (compareOp .IsNot) (rD X.K (rE .Ny)):=by
 rintro pins s σ H x y v u Q I rx ry⟨F,d,e,r,sm,px,py,he,k⟩;obtain⟨t,e1,e2⟩:=map_some (show(Z3 true d e).map _=some r from he);subst e2;unfold Z3 at e1;split at e1;.rename_i b;cases e1;rw[px.bl]at rx;rw[py.bl]at ry;cases rx;cases ry;have q:=cg.cV sm (fL (!b)) k;cases b<;>exact wpAny_pure ⟨.bl _,H,I,rfl,q⟩
 .cases e1
end
end HH
end
section
namespace HT
open PySem PySem.Spec PyProof.Rows
section
variable{prog:Program}{w:World}{A:Around}{E:Value->Shared->Prop}{s:Shared}
theorem xj{t sl:Addr}{its:Array Value}{vl vu:Value}{lo hi:Option Int}{Q:Value->Shared->Prop}(ht:IsTup s.heap t its)(hs:s.heap.IsSliceOf sl vl vu .none)(pl:IsPart vl lo)(pu:IsPart vu hi)(h1:dF its.size 0 lo=0)(h2:dF its.size its.size hi=its.size)(h:Q (.ref t) s):wpAny (model prog w) A (getItem (.ref t) (.ref sl)) Q E s:=by
 obtain⟨os,hos,hcs,hds⟩:=id hs;have hT:s.TypeIs (.ref sl) "slice":=⟨os,hos,hcs⟩;unfold getItem;try with_reducible refine wpAny_holding ?_
 first|refine wpAny_bind (wpAny_pure ?_)|skip
 refine wpAny_bind (wpAny_sequenceKey ht.typeIs (by decide) (wpAny_bind (wpAny_callSpecial?_slot (name:=Str.ofString "__getitem__") ht.typeIs slot_tuple_getitem (wpAny_call_entry slot_tuple_getitem ht.typeIs entry_tuple_getitem ?_ (args_tuple_getitem _ _)))));show wpAny _ _ (tupleItemsOf (.ref t)>>=_) _ _ s;refine wpAny_bind (tupleItemsOf_ ht (wpAny_bind (wpAny_typeOf hT ?_)));rw[if_pos (by decide)];refine wpAny_bind (il hs pl pu ?_);have afk:((((dF its.size 0 lo:Nat):Int)==0&&(1:Int)==1&&(dF its.size its.size hi-dF its.size 0 lo)==its.size)=true):=by rw[h1,h2];simp
 show wpAny _ _ (if(((dF its.size 0 lo:Nat):Int)==0&&(1:Int)==1&&(dF its.size its.size hi-dF its.size 0 lo)==its.size)=true then _ else _) _ _ s;rw[if_pos afk];unfold Builtin.Tuple.tupleIsExact;refine wpAny_bind (wpAny_bind (wpAny_typeOf ht.typeIs (wpAny_pure ?_)));rw[if_pos (by decide)];exact wpAny_bind (wpAny_rule (wpAny_pure ⟨_,rfl,wpAny_pure h⟩))
end
end HT
namespace HH
open PySem L2 PySem.Spec PyProof.Rows
noncomputable def nst:Expr->Bool|.Starred _ _=>false|_=>true
theorem iT{e:Expr}{es:List Expr}{env:Env}(h:nst e=true):starEach (e::es) env=(false,eval e env)::starEach es env:=by cases e with|Starred a b=>cases h|_=>rw[starEach];(intro e p z;cases z)
noncomputable def qM:List Int->List Expr->Option (List Expr)|[],es=>some es|i::is,.Constant (.int j) _ _::es=>if i=j then qM is es else none|_,_=>none
theorem Am{X:L2.Cx}{c:Call}:∀(is:List Int){es es':List Expr}{ps':List P},qM is es=some es'->SA X c es' ps'->SA X c es (is.map (fun i=>P.con (.int i))++ps')|[],es,es',ps',h,r=>by cases h;exact r|i::is,[],es',ps',h,r=>by cases h|i::is,e::es,es',ps',h,r=>by cases e with
   |Constant v k p=>cases v with
     |int j=>
       replace h:(if i=j then qM is es else none)=some es':=h;split at h;.rename_i hij;subst hij;exact pB aa (Am is h r) (iT rfl)
       .cases h|_=>cases h
   |_=>cases h
theorem uJ{n d:Nat}{o:Option Int}:HT.dF n d o=HH.dF n d o:=by cases o with|none=>rfl|some v=>
   show(if v<0 then(v+(n:Int)).toNat else min v.toNat n)=(if 0<=v then min v.toNat n else(v+n).toNat);by_cases h:0<=v;.rw[if_pos h,if_neg (by omega)]
   .rw[if_neg h,if_pos (by omega)]
theorem FN{xs:List V}{lo hi:Option Int}:xJ xs lo hi=HH.cut xs lo hi:=by unfold xJ HH.cut;rw[uJ,uJ]
theorem aG.cut{K:PySem.W.Frag}{F:Hp}{ds:List D}{vs:List V}{lo hi:Option Int}(h:aG K F vs ds):aG K F (HH.cut vs lo hi) (HH.cut ds lo hi):=by unfold HH.cut;rw[h.length];exact(h.drop _).take _
section
variable{X:Cx}{c:Call}{n:Nat}{e a b:Expr}{p pa pb pl ph:P}{pos p2:Pos}{lo hi:Option Expr}
def aca(K:PySem.W.Frag):V->Option Int->Option Int->Hp->VK->Prop:=fun x lo hi H Q=>∃F d r,aF F H/\dw K F H x d/\J8 d (some lo) (some hi)=some r/\∀v F' H',Ext F H F' H'->cg K F' H' H v r->Q v H'
theorem Yx:Z9 X (aca X.K):=by rintro pins s σ H x v vl vu lo hi sl Q I rx hs pl pu⟨F,d,r,sm,px,he,k⟩;cases d with|lst ds=>cases he;obtain⟨a,xs,rfl,hq,rs⟩:=px.lst sm;refine Nf pins s σ H _ v vl vu lo hi sl Q I rx hs pl pu ⟨a,xs,rfl,hq,fun p hp=>?_⟩;rw[FN];exact yq sm rs.cut hp k|tup ds=>
   cases he;obtain⟨a,xs,rfl,hq,rs,rt⟩:=px.tup sm;by_cases hw:HT.dF xs.length 0 lo=0/\HT.dF xs.length xs.length hi=xs.length
   . cases rx;obtain⟨its,rv,ht,hz⟩:=I.tuple hq;have hlen:its.toArray.size=xs.length:=by rw[size_toArray];exact rv.length.symm
     refine⟨"tuple",_,slot_tuple_getitem.lookup,ht.typeIs,HT.xj ht hs pl pu (by rw[hlen];exact hw.1) (by rw[hlen];exact hw.2) ⟨.ref a,H,I,rfl,?_⟩⟩;have hc:HH.cut ds lo hi=ds:=by unfold HH.cut;rw[<-rs.length,<-uJ,<-uJ,hw.1,hw.2];simp[rs.length]
     rw[hc]at k;exact cg.cV sm rt k
   .refine Rg pins s σ H _ v vl vu lo hi sl Q I rx hs pl pu ⟨a,xs,rfl,hq,hw,fun p hp=>?_⟩;rw[FN];exact yW sm rs.cut hp k|_=>cases he
def SO(X:Cx)(c:Call)(o:Option Expr)(p:P):Prop:=∃t,PO X o t/\∀{σ:L2.St}{H F:Hp}{ρ ρ':List Sl}{d:D}{i:Option Int}{Q:Option Int->Hp->Prop},GS X.K F ρ σ H->cC (isVar p) (HH.ev c p) ρ=.ok d ρ'->part p d=some i->(∀F' H',aB X.K F ρ σ H F' ρ' σ H'->Q i H')->t σ H Q
theorem pN:SO X c none (.con .non):=by refine⟨_,M5,fun{σ H F ρ ρ' d i Q}g e h k=>?_⟩;cases(show some none=some i from h);have e':(HH.ev c (.con .non) ρ).bind (fun r ρ=>.ok r.d ρ)=.ok d ρ':=e;clear e;rw[HH.E2]at e';cases e';exact k F H (.refl g)
theorem pC(h:SX X c e p)(hn:Yl p=false:=by rfl):SO X c (some e) p:=by obtain⟨t,h1,h2⟩:=h.cC;refine⟨_,KY h1,fun{σ H F ρ ρ' d i Q}g e hp k=>?_⟩;unfold part at hp;rw[hn,if_neg (by decide)]at hp;obtain⟨j,e1,e2⟩:=map_some hp;cases cQ e1;subst e2;exact h2 g e fun v F' H' s pv=>⟨j,pv.int,k F' H' s⟩
theorem xO{d:D}{x y:Option (Option Int)}{r:R}(h:J8 d x y=some r):∃lo hi,x=some lo/\y=some hi:=by cases x with|none=>cases d<;>cases h|some lo=>cases y with|none=>cases d<;>cases h|some hi=>exact⟨lo,hi,rfl,rfl⟩
theorem mH(ha:SX X c a pa)(hl:SO X c lo pl)(hh:SO X c hi ph):SX X c (.Subscript a (.Slice lo hi none p2) pos) (.slice pa pl ph):=by obtain⟨tl,l1,l2⟩:=hl;obtain⟨th,h1,h2⟩:=hh;cases hv:isVar pa with|none=>refine⟨dB (xN Yx ha.ev l1 h1) ?_,fun i h=>by cases h⟩;rintro σ H Q⟨F,ρ,r,ρ',g,e,k⟩;rw[HH.E15,hv]at e;obtain⟨x,ρ1,e1',ea⟩:=aj e;clear e;have ZG:(HH.ev c pa ρ).bind (fun r ρ=>.ok r.d ρ)=.ok x ρ1:=e1';clear e1';obtain⟨rx,ρ1',e1,e0⟩:=aj ZG;clear ZG;cases e0;obtain⟨y,ρ2,e2,eb⟩:=aj ea;clear ea;obtain⟨z,ρ3,e3,ec⟩:=aj eb;clear eb;obtain⟨e,e4⟩:=aD ec;clear ec;subst e4;obtain⟨lo',hi',q1,q2⟩:=xO e;rw[q1,q2]at e;refine⟨F,ρ,rx,_,g,e1,fun v F1 H1 s1 rr=>?_⟩;obtain⟨F2,s2,_,rp⟩:=s1.cX rr;refine l2 s2.gs e2 q1 fun F3 H3 s3=>h2 s3.gs e3 q2 fun F4 H4 s4=>?_;have s5:=s2.trans (s3.trans s4);refine⟨F4,_,r,s4.gs.sub,.inl ((rp.mono s3.bO).mono s4.bO),e,fun v F5 H5 x rn=>?_⟩;exact k v F5 H5 (s5.trans (x.stp s5.gs)) (.later s5 (rn.pq s5.gs))|some i=>refine⟨dB (xN Yx (ha.var i hv) l1 h1) ?_,fun i h=>by cases h⟩;rintro σ H Q⟨F,ρ,r,ρ',g,e,k⟩;rw[HH.E15,hv]at e;obtain⟨x0,ρ0,e0',ea⟩:=aj e;clear e;obtain⟨e0,Ez⟩:=aD e0';clear e0';subst Ez;obtain⟨y,ρ2,e2,eb⟩:=aj ea;clear ea;obtain⟨z,ρ3,e3,ec⟩:=aj eb;clear eb;obtain⟨x,ρ4,e5',ed⟩:=aj ec;clear ec;obtain⟨e5,e6⟩:=aD e5';clear e5';subst e6;obtain⟨e,e4⟩:=aD ed;clear ed;subst e4;obtain⟨lo',hi',q1,q2⟩:=xO e;rw[q1,q2]at e;obtain⟨v,hv1,_⟩:=g.pk e0;refine⟨v,hv1,l2 g e2 q1 fun F3 H3 s3=>h2 s3.gs e3 q2 fun F4 H4 s4=>?_⟩;have s5:=s3.trans s4;obtain⟨v',hv2,pv⟩:=s5.gs.pk e5;rw[hv1]at hv2;cases hv2;refine⟨F4,_,r,s4.gs.sub,pv,e,fun v F5 H5 x rn=>?_⟩;exact k v F5 H5 (s5.trans (x.stp s5.gs)) (.later s5 (rn.pq s5.gs))
theorem Y9:dz X (.builtin "abs") (Lh X.K fun x=>blt .abs [x]):=by rintro pins s σ H xs us Q I r⟨x,hx,F,d,r',sm,px,he,k⟩;cases d with|int i=>cases(show some _=some r' from he);exact IV pins s σ H xs us Q I r ⟨i,by rw[hx,px.int],cg.cV sm (bN _) k⟩|_=>cases he
theorem boot_abs:bootBuiltins "abs"=some (.builtin "abs"):=by decide+kernel
theorem FQ{x:Str}{p':Pos}(hx:x="abs")(hg:Gl X x)(hm:X.mg x=none)(ha:SX X c a pa)(hs:starEach [a] X.env=(false,eval a X.env)::starEach [] X.env:=by rfl):SX X c (.Call (.Name x p') [a] [] pos) (.blt .abs [pa]):=by subst hx;exact oF (fun h=>dJ Y9 hg hm boot_abs h (he:=hs)) ha (fun ρ=>rfl) rfl hs
theorem Ra{i:Nat}{x:Str}{p':Pos}{op:Operator}{sub:Bool}(ho:Pr X op (Wa fun i j=>if sub then i-j else i+j))(hN:X.N.Nodup)(hi:X.N[i]?=some x)(hx:Loc X.env.scope x)(he:SX X c e p)(hf:X.fn x=true\/X.env.scope.names.lookup x=some .local:=by first|exact .inl rfl|exact .inr rfl|assumption):SS X c n (.AugAssign (.Name x p') op e pos) (.aug i sub p):=by
 obtain⟨te,h1,h2⟩:=he.cC;refine dD (Ri hN hi hx h1 ho hf) ?_;rintro D σ H⟨F,ρ,fl,ρ',g,e,k⟩;rw[HH.X16]at e;obtain⟨a0,ρ0,e0',ea⟩:=aj e;clear e;obtain⟨e0,Ez⟩:=aD e0';clear e0';subst Ez;obtain⟨b0,ρ1,e1,eb⟩:=aj ea;clear ea;obtain⟨v,hv1,pv⟩:=g.pk e0;refine⟨v,hv1,h2 g e1 fun u F1 H1 s1 pu=>?_⟩;split at eb;.rename_i i1 j1;obtain⟨ρ2,ρ3,e2',ec⟩:=aj eb;clear eb;cases ec;obtain⟨e2,e3⟩:=aD e2';clear e2';have rr:Rep X.K F1 (.int (if sub then i1-j1 else i1+j1)) (.int (if sub then i1-j1 else i1+j1)):=bN _;exact⟨i1,j1,pv.int,pu.int,k F1 _ H1 (aB.put (r:=.val (.int _)) s1 rr e2)⟩
 .cases eb
theorem Kd:Pr X .Add (Wa fun i j=>if false then i-j else i+j):=Qq
theorem Ky:Pr X .Sub (Wa fun i j=>if true then i-j else i+j):=Ti
end
end HH
end
section
namespace L2
open PySem PySem.Spec PyProof.Rows
section
variable{X:Cx}{tg:Expr}
theorem wF:bootBuiltins "tuple"=some (.type "tuple"):=by decide+kernel
theorem pX:bootBuiltins "reversed"=some (.type "reversed"):=by decide+kernel
end
end L2
namespace HH
open PySem L2 PySem.Spec PyProof.Rows
section
variable{K:PySem.W.Frag}{F F1 H H1:Hp}{ρ ρ1:List Sl}{σ:L2.St}{ds:List D}{a:Addr}
theorem aG.rev:∀{ds:List D}{xs:List V},aG K F xs ds->aG K F xs.reverse ds.reverse|[],_,h=>by rw[h.fK];exact .nil|d::ds,_,h=>by obtain⟨v,r,rfl,h1,h2⟩:=h.cu;rw[reverse_cons,reverse_cons];exact(aG.rev h2).append (.cons h1 .nil)
end
end HH
end
section
namespace PySem
namespace F
theorem Gb:typeLookup (.type "list_reverseiterator") "__len__"=pure none:=by rw[typeLookup_type,builtinLookup_eq_fast];kernel_rfl
theorem Lz:typeLookup (.type "list_reverseiterator") "__length_hint__"=pure (some (.builtin "list_reverseiterator.__length_hint__")):=by rw[typeLookup_type,builtinLookup_eq_fast];kernel_rfl
end F
section
variable{prog:Program}{w:World}{A:Around}{E:Value->Shared->Prop}{s:Shared}
theorem oV{it l:Addr}{items:Array Value}{Q:Bool->Shared->Prop}(hit:s.heap.IsRevIter it l ((items.size:Int)-1))(hl:s.heap.IsList l items)(hlen:items.size<=2^24)(h:∀b tk,s.toks<=tk->Q b {s with toks:=tk}):wpAny (model prog w) A (listLengthHint (.ref it)) Q E s:=by
 have hT:=hit.typeIs;unfold listLengthHint;refine wpAny_bind (wpAny_specialOf hT F.Gb ?_);show wpAny _ _ (specialOf (Value.ref it) (Str.ofString "__length_hint__")>>=_) _ _ _;refine wpAny_bind (wpAny_specialOf hT F.Lz ?_);generalize hid:("list_reverseiterator.__length_hint__":String)=id0;(fail_if_success(clear hid id0));wp_delta;rw[show splitId id0=some ("list_reverseiterator","__length_hint__")from by subst hid;decide+kernel];subst hid;refine wpAny_bind (wpAny_isInstance (b:=true) hT (by rw[isSubtype_type];kernel_rfl) ?_);rw[if_neg (by decide)];dsimp only;split;.refine wpAny_ite_split (fun hab=>absurd hab (by decide+kernel)) (fun _=>?_);exact wpAny_pure (h _ s.toks (dh))
 .rename_i hq;exact absurd (by decide+kernel) hq
theorem lQ{R:Result->Shared->Prop}{I l:Addr}{items:Array Value}(hh:A.handled=none)(hit:s.heap.IsRevIter I l ((items.size:Int)-1))(hl:s.heap.IsList l items)(hne:l≠I)(hlen:items.size<=2^24)(S:Addr)(hSI:S≠I)(hSl:S≠l)(res:Value)(c₀:Nat)(hS:s.heap.get? S=some {cls:=.type "list",data:=.seq #[] c₀})(hR:∀ h' tk acc' c',(∀ b o,b ≠ S->b ≠ I->s.heap.get? b=some o->h'.get? b=some o)->h'.get? S=some {cls:=.type "list",dict:=none,data:=.seq acc' c',slots:=#[]}->ItemsOf (fun i v=>items[items.size-1-i]?=some v) acc' items.size->R (.ok (.ret res)) {s with heap:=h',toks:=tk}):wpAny (model prog w) A.in1 (listExtendWith (.ref S) (.ref I) res) (fun fin s'=>match fin with|.done f=>R (.ok f) s'|.again c'=>c'.quiet=true/\codeAny (model prog w) A c' R s') (fun e s'=>R (.error e) s') s:=by
 have hSf:S∉[I,l]:=fun hm=>by
  rcases mem_cons.mp hm with e|hm;.exact hSI e
  .exact hSl (mem_singleton.mp hm)
 have W:=(Walks.listRev (prog:=prog) (w:=w) (A:=A.in1) hh I l hne items).toS;have hT:s.TypeIs (.ref I) "list_reverseiterator":=hit.typeIs;have key:∀(h:Heap)(c₁ tk:Nat),h.IsRevIter I l ((items.size:Int)-1-((0:Nat):Int))->h.IsList l items->(∀b o,b≠S->s.heap.get? b=some o->h.get? b=some o)->h.get? S=some {cls:=.type "list",data:=.seq #[] c₁}->codeAny (model prog w) A (.builtin "list.extend.loop" ⟨[.ref S,.ref I,res],[]⟩) R {s with heap:=h,toks:=tk}:=by
  intro h c₁ tk hi hl' hk hS₁;refine codeAny_extend_loopS W (by rw[sizeLine_eq];omega) S hSf res items.size 0 _ #[] c₁ rfl (uW) ⟨uW,hi,hl'⟩ hS₁ (ItemsOf.nil _) fun s' acc' c' hm hS' hacc=>?_;rw[Moved.eq_with hm];refine hR s'.heap s'.toks acc' c' (fun b o hb hbI e=>hm.heap b o (fun hmem=>?_) (hk b o hb e)) hS' hacc;rcases mem_cons.mp hmem with e'|hmem;.exact hb e'
  .exact hbI (mem_singleton.mp hmem)
 unfold listExtendWith;refine wpAny_bind (wpAny_typeOf hT ?_);have h1:listSameRef (.ref S) (.ref I)=false:=by simp[listSameRef,hSI]
 have h2:(Value.type "list_reverseiterator"==Value.type "list")=false:=by decide
 have h3:(Value.type "list_reverseiterator"==Value.type "tuple")=false:=by decide
 simp only[h1,h2,h3,Bool.or_false,false_eq_true,if_false];refine wpAny_bind (wpAny_pyIter_revIter hit ?_);refine wpAny_bind (wpAny_holding (oV hit hl hlen fun bb tk htk=>?_));have hi0:s.heap.IsRevIter I l ((items.size:Int)-1-((0:Nat):Int)):=by simpa using hit
 refine wpAny_ite_split (fun _=>?_) (fun _=>wpAny_pure ⟨plainId_quiet F.plain_extend_loop _,key _ c₀ _ hi0 hl (fun b o _ e=>e) hS⟩);refine wpAny_bind (wpAny_rule ?_);refine wpAny_bind ?_;show wpAny _ _ (updateSeq S (·.push .none)>>=fun _=>updateSeq S (·.pop)) _ _ _;refine wpAny_bind (wpAny_updateSeq hS rfl ?_);have hS₂:=Heap.get?_update_self (Obj.mapSeq (·.push Value.none)) hS rfl;refine wpAny_updateSeq (hz:=by seq_fits) hS₂ rfl ?_;have hS₃:=Heap.get?_update_self (Obj.mapSeq (·.pop)) hS₂ rfl;have oth:∀b o,b≠S->s.heap.get? b=some o->((s.heap.update S (Obj.mapSeq (·.push Value.none))).update S (Obj.mapSeq (·.pop))).get? b=some o:=fun b o hb e=>(get?_update_other _ _ (Ne.symm hb)).trans ((get?_update_other _ _ (Ne.symm hb)).trans e);exact wpAny_pure ⟨plainId_quiet F.plain_extend_loop _,key _ _ _ (hi0.at fun o e=>oth I o (Ne.symm hSI) e) (hl.at fun o e=>oth l o (Ne.symm hSl) e) oth hS₃⟩
end
end PySem
namespace L2
open PySem PySem.Spec PyProof.Rows
end L2
namespace HH
open PySem L2 PySem.Spec PyProof.Rows
end HH
end
section
namespace HH
open PySem
theorem lL:∀a b:List Int,bC a b=true->bC b a=false
 |[],[],h=>by simp[bC]at h|[],_::_,_=>by simp[bC]|_::_,[],h=>by simp[bC]at h|x::a,y::b,h=>by
   simp only[bC,or_eq_true,decide_eq_true_eq,and_eq_true]at h;simp only[bC,Bool.or_eq_false_iff,decide_eq_false_iff_not,Bool.and_eq_false_iff];rcases h with h|⟨h,h'⟩;.exact⟨by omega,.inl (by omega)⟩
   .exact⟨by omega,.inr (lL a b h')⟩
theorem zE:∀a b c:List Int,bC b a=false->bC c b=false->bC c a=false
 |[],_,c,_,_=>by cases c<;>simp[bC]|_::_,[],_,h,_=>by simp[bC]at h|_::_,_::_,[],_,h=>by simp[bC]at h|x::a,y::b,z::c,h1,h2=>by
   simp only[bC,Bool.or_eq_false_iff,decide_eq_false_iff_not,Bool.and_eq_false_iff]at h1 h2 ⊢;refine⟨by omega,?_⟩;by_cases e:z=x;.right;exact zE a b c (h1.2.resolve_left (by omega)) (h2.2.resolve_left (by omega))
   .exact .inl e
theorem wU:∀a b:List Int,bC a b=false->bC b a=false->a=b
 |[],[],_,_=>rfl|[],_::_,h,_=>by simp[bC]at h|_::_,[],_,h=>by simp[bC]at h|x::a,y::b,h1,h2=>by
   simp only[bC,Bool.or_eq_false_iff,decide_eq_false_iff_not,Bool.and_eq_false_iff]at h1 h2;have e:x=y:=by omega
   subst e;rw[wU a b (h1.2.resolve_left (by simp)) (h2.2.resolve_left (by simp))]
theorem wR:∀{xs ys:List D},xs.all gG=true->ys.all gG=true->xs.map lE=ys.map lE->xs=ys
 |[],[],_,_,_=>rfl|[],_::_,_,_,h=>by simp at h|_::_,[],_,_,h=>by simp at h|x::xs,y::ys,h1,h2,h=>by
   simp only[all_cons,and_eq_true]at h1 h2;simp only[map_cons,List.cons.injEq]at h;obtain⟨i,rfl⟩:∃i,x=.int i:=by cases x<;>first|exact⟨_,rfl⟩|(have q:=h1.1;simp[gG]at q;done)
   obtain⟨j,rfl⟩:∃j,y=.int j:=by cases y<;>first|exact⟨_,rfl⟩|(have q:=h2.1;simp[gG]at q;done)
   rw[wR h1.2 h2.2 h.2,show i=j from h.1]
theorem Bw{x y:D}(h:(gG x=true/\gG y=true)\/(wW x=true/\wW y=true))(e:cR x=cR y):x=y:=by
 rcases h with⟨h1,h2⟩|⟨h1,h2⟩
 . cases x<;>first|(simp[gG]at h1;done)|skip
   cases y<;>first|(simp[gG]at h2;done)|skip
   simpa[cR]using e
 . cases x<;>first|(simp[wW]at h1;done)|skip
   cases y<;>first|(simp[wW]at h2;done)|skip
   rename_i xs ys;cases xs<;>first|(simp[wW]at h1;done)|skip
   cases ys<;>first|(simp[wW]at h2;done)|skip
   rw[wR h1 h2 e]
noncomputable def lM(a b:D):Bool:=!bC (cR b) (cR a)
theorem wV(ds:List D):(PL ds).Perm ds:=List.mergeSort_perm ..
theorem Lp(a b c:D)(h1:lM a b=true)(h2:lM b c=true):lM a c=true:=by simp only[lM,not_eq_true']at*;exact zE _ _ _ h1 h2
theorem Hc(a b:D):(lM a b||lM b a)=true:=by simp only[lM,or_eq_true,not_eq_true'];cases h:bC (cR b) (cR a)with|false=>exact .inl rfl|true=>exact .inr (lL _ _ h)
theorem zA(ds:List D):(PL ds).Pairwise fun a b=>lM a b=true:=List.pairwise_mergeSort Lp Hc ds
theorem uB{ds:List D}(h:sortable ds=true):∀x∈ds,∀y∈ds,cR x=cR y->x=y:=by
 simp only[sortable,and_eq_true,or_eq_true,all_eq_true]at h;intro x hx y hy e;rcases h.2 with h|h;.exact Bw (.inl ⟨h x hx,h y hy⟩) e
 .exact Bw (.inr ⟨h x hx,h y hy⟩) e
theorem qP{ds l:List D}(h:sortable ds=true)(p:l.Perm ds)(s:l.Pairwise fun a b=>lM a b=true):l=PL ds:=by refine List.Perm.eq_of_pairwise (le:=fun a b=>lM a b=true) (fun a b ha hb h1 h2=>?_) s (zA ds) (p.trans (wV ds).symm);simp only[lM,not_eq_true']at h1 h2;exact uB h a (p.mem_iff.mp ha) b ((wV ds).mem_iff.mp hb) (wU _ _ h2 h1)
end HH
end
section
namespace HH
open PySem PyProof.Rows
variable{xs:Array Keyed}{i:Nat}
structure Rk(M:Model)(A:Around)(E:Value->Shared->Prop)(s:Shared)(κ:SortKind)(ok:Keyed->Prop)(K:Keyed->Int):Prop where lt:∀{x y:Keyed}{Q:Option Bool->SortSt->Prop}{st:SortSt},ok x->ok y->kindOf st=κ->Q (some (decide (K x<K y))) st->wpS M A E s (lt' x y) Q st
section
variable{M:Model}{A:Around}{E:Value->Shared->Prop}{s:Shared}{κ:SortKind}{ok:Keyed->Prop}{K:Keyed->Int}
noncomputable def it(xs:Array Keyed)(i:Nat):Keyed:=xs.getD i (Value.none,Value.none)
theorem Ni(h:i<xs.size):xs[i]?=some (it xs i):=by unfold it;simp[Array.getD,h]
theorem Hy(h:i<xs.size):it xs i∈xs.toList:=by
 have:it xs i=xs[i]:=by unfold it;simp[Array.getD,h]
 rw[this];simp
theorem BW{Q:Keyed->SortSt->Prop}{st:SortSt}(h:i<xs.size)(q:Q (it xs i) st):wpS M A E s (elem' xs i) Q st:=by rw[elem'_eq,Ni h];exact wpS_pure q
end
section
variable{K:Keyed->Int}
def Seg(K:Keyed->Int)(xs:Array Keyed)(lo hi:Nat):Prop:=∀i j,lo<=i->i<=j->j<hi->K (it xs i)<=K (it xs j)
theorem LQ:it xs i=xs.toList.getD i (Value.none,Value.none):=by
 unfold it;by_cases h:i<xs.size;.simp[Array.getD,h]
 .simp[Array.getD,h]
end
section
variable{M:Model}{A:Around}{E:Value->Shared->Prop}{s:Shared}{κ:SortKind}{ok:Keyed->Prop}{K:Keyed->Int}
structure Sx(κ:SortKind)(ok:Keyed->Prop)(st:SortSt)(xs:Array Keyed)(st':SortSt):Prop where
 kind:kindOf st'=κ
 arr:arrOf st'=xs
 pend:pendingOf st'=pendingOf st
 fail:failedOf st'=none
 ok:∀x∈xs.toList,ok x
theorem K8(R:Rk M A E s κ ok K){st st':SortSt}{j:Nat}{Q:Option Bool->SortSt->Prop}(h:Sx κ ok st xs st')(hi:i<xs.size)(hj:j<xs.size)(q:Q (some (decide (K (it xs i)<K (it xs j)))) st'):wpS M A E s (ltAt' i j) Q st':=by rw[ltAt'_eq];refine wpS_bind (wpS_get ?_);show wpS M A E s (elem' (arrOf st') i>>=fun x=>elem' (arrOf st') j>>=fun y=>lt' x y) Q st';rw[h.arr];exact wpS_bind (BW hi (wpS_bind (BW hj (R.lt (h.ok _ (Hy hi)) (h.ok _ (Hy hj)) h.kind q))))
theorem R6(R:Rk M A E s κ ok K){st st':SortSt}{lo a n:Nat}{Q:Option (Option Nat)×Nat->SortSt->Prop}(h:Sx κ ok st xs st')(hn:lo+n<=xs.size)(ha:1<=a)(han:a<=n)(hs:Seg K xs lo (lo+a))(q:∀m,a<=m->m<=n->Seg K xs lo (lo+m)->(m=n\/K (it xs (lo+m))<K (it xs (lo+m-1)))->Q (none,m) st'):wpS M A E s (forIn [a:n] ((none,a):Option (Option Nat)×Nat) fun _ c=>ltAt' (lo+c.2) (lo+c.2-1)>>=fun o=>match o with|some b=>if b=true then pure (.done (none,c.2))else pure (.yield (none,c.2+1))|_=>pure (.done (some none,c.2))) Q st':=by
 refine wpS_forRange (I:=fun x c st2=>st2=st'/\c=(none,x)/\Seg K xs lo (lo+x)) ?_ ?_ ⟨rfl,rfl,hs⟩
 . rintro x c st2 h1 h2⟨rfl,rfl,hs'⟩;try dsimp only
   refine wpS_bind (K8 R h (by omega) (by omega) ?_);by_cases c:K (it xs (lo+x))<K (it xs (lo+x-1))
   . rw[decide_eq_true c];try dsimp only
     rw[if_pos rfl];exact wpS_pure (q x h1 (by omega) hs' (.inr c))
   . rw[decide_eq_false c];try dsimp only
     rw[if_neg (by simp)];refine wpS_pure ⟨rfl,rfl,fun i j i1 ij jx=>?_⟩;by_cases hj:j<lo+x;.exact hs' i j i1 ij hj
     . have:j=lo+x:=by omega
       subst this;by_cases e:i=lo+x;.rw[e];exact Int.le_refl _
       .have:=hs' i (lo+x-1) i1 (by omega) (by omega);omega
 .rintro c st2⟨rfl,rfl,hs'⟩;rw[show max a n=n by omega]at hs' ⊢;exact q n han (dh) hs' (.inl rfl)
end
noncomputable abbrev Rn:=Nat×Nat×Nat
section
variable{K:Keyed->Int}{xs ys:Array Keyed}
def W5(K:Keyed->Int)(xs:Array Keyed):Nat->List Rn->Nat->Prop|a,[],b=>a=b|a,r::l,b=>r.1=a/\1<=r.2.1/\Seg K xs a (a+r.2.1)/\W5 K xs (a+r.2.1) l b
theorem vG:∀{l k:List Rn}{a b:Nat},W5 K xs a (l++k) b↔∃m,W5 K xs a l m/\W5 K xs m k b
 |[],k,a,b=>⟨fun h=>⟨a,rfl,h⟩,fun⟨m,h1,h2⟩=>by cases(show a=m from h1);exact h2⟩|r::l,k,a,b=>by
   rw[cons_append];constructor;.rintro⟨h1,h2,h3,h4⟩;obtain⟨m,h5,h6⟩:=vG.mp h4;exact⟨m,⟨h1,h2,h3,h5⟩,h6⟩
   .rintro⟨m,⟨h1,h2,h3,h4⟩,h5⟩;exact⟨h1,h2,h3,vG.mpr ⟨m,h4,h5⟩⟩
end
section
variable{M:Model}{A:Around}{E:Value->Shared->Prop}{s:Shared}{κ:SortKind}{ok:Keyed->Prop}{K:Keyed->Int}
structure SR(κ:SortKind)(ok:Keyed->Prop)(K:Keyed->Int)(x0 ys:Array Keyed)(l:List Rn)(lo:Nat)(st:SortSt):Prop where
 kind:kindOf st=κ
 arr:arrOf st=ys
 fail:failedOf st=none
 pend:(pendingOf st).toList=l
 perm:ys.toList.Perm x0.toList
 ok:∀x∈ys.toList,ok x
 rns:W5 K ys 0 l lo
 le:lo<=ys.size
theorem SR.sx{x0 ys:Array Keyed}{l:List Rn}{lo:Nat}{st:SortSt}(h:SR κ ok K x0 ys l lo st):Sx κ ok st ys st:=⟨h.kind,h.arr,rfl,h.fail,h.ok⟩
end
end HH
end
section
namespace HH
open PySem PySem.W PyProof.Rows PySem.Calls L2 PySem.Spec
theorem Kq(a:List Int):bC a a=false:=by cases h:bC a a with|false=>rfl|true=>rw[lL _ _ h]at h;cases h
theorem G4{a b x:List Int}(h:bC b a=false)(hx:bC x a=true):bC x b=true:=by cases e:bC x b with|true=>rfl|false=>rw[zE _ _ _ h e]at hx;cases hx
theorem tQ{α:Type}{p q:α->Bool}(h:∀x,p x=true->q x=true):∀{l:List α},(∃x,x∈l/\q x=true/\p x=false)->l.countP p<l.countP q
 |[],⟨x,hx,_⟩=>by cases hx|y::l,⟨x,hx,h1,h2⟩=>by
   rw[List.countP_cons,List.countP_cons];have m:=List.countP_mono_left (l:=l) (p:=p) (q:=q) fun x _=>h x;rcases mem_cons.mp hx with rfl|hx;.rw[h1,h2,if_pos rfl,if_neg (by simp)];omega
   .have:=tQ h ⟨x,hx,h1,h2⟩;cases hp:p y with|true=>rw[h y hp];omega|false=>rw[if_neg (by simp)];omega
noncomputable def QC(ds:List D)(d:D):Nat:=ds.countP fun e=>bC (cR e) (cR d)
theorem Gi{ds:List D}{d e:D}(hd:d∈ds):decide ((QC ds d:Int)<QC ds e)=bC (cR d) (cR e):=by cases h:bC (cR d) (cR e)with|true=>have:=tQ (l:=ds) (p:=fun x=>bC (cR x) (cR d)) (q:=fun x=>bC (cR x) (cR e)) (fun x hx=>G4 (lL _ _ h) hx) ⟨d,hd,h,Kq _⟩;rw[decide_eq_true_iff];unfold QC;omega|false=>have:=List.countP_mono_left (l:=ds) (p:=fun x=>bC (cR x) (cR e)) (q:=fun x=>bC (cR x) (cR d)) fun x _ hx=>G4 h hx;rw[decide_eq_false_iff_not];unfold QC;omega
open Classical in
noncomputable def rkK(P:Value->D->Prop)(ds:List D)(x:Keyed):Int:=if h:∃d,d∈ds/\P x.1 d then(QC ds h.choose:Int)else 0
theorem BX{P:Value->D->Prop}{ds:List D}{x:Keyed}{d:D}(fn:∀u d e,P u d->P u e->cR d=cR e)(hd:d∈ds)(hp:P x.1 d):rkK P ds x=QC ds d:=by have h:∃d,d∈ds/\P x.1 d:=⟨d,hd,hp⟩;unfold rkK;rw[dif_pos h];unfold QC;rw[fn _ _ _ h.choose_spec.2 hp]
noncomputable def pick{α:Type}(d:α)(p:List Nat)(l:List α):List α:=p.map fun i=>l.getD i d
theorem lN{α:Type}(d:α)(l:List α):pick d (List.range l.length) l=l:=by refine ext_getElem (by simp[pick]) fun i h1 h2=>?_;simp[pick,h2]
theorem qK{α:Type}{d:α}{p:List Nat}{l:List α}{n:Nat}(h:p.Perm (List.range n)):(pick d p l).length=n:=by rw[pick,length_map,h.length_eq,length_range]
theorem jV{P:Value->D->Prop}:∀{us:List Value}{ds:List D},Paired P us ds->∀i,i<us.length->P (us.getD i .none) (ds.getD i .non)/\ds.getD i .non∈ds|_,_,.cons r _,0,_=>⟨by simpa using r,by simp⟩|_,_,.cons _ t,i+1,hi=>by have:=jV t i (by simpa using hi);exact⟨by simpa using this.1,by simpa using Or.inr this.2⟩
end HH
end
section
namespace HH
open PySem L2 PySem.Spec PyProof.Rows PySem.Calls PySem.W
section
variable{prog:Program}{w:World}{A:Around}{E:Value->Shared->Prop}{s:Shared}{vs:List Value}{κ:SortKind}{P:Value->D->Prop}{ds:List D}
theorem oO{b fin:Bool}{Q:Bool->Shared->Prop}:∀{xs ys:List Value}{is js:List Int}{i:Nat},IntsAre xs is->IntsAre ys js->fin=decide (is.length<js.length)->Q (bC is js) s->KatLex prog w A b fin Q (xs.zip ys) i s
 |_,_,_,_,_,.nil,.nil,e,h=>by subst e;exact kat_nil (by simpa[bC]using h)|_,_,_,_,_,.nil,.cons _ _ _,e,h=>by subst e;exact kat_nil (by simpa[bC]using h)|_,_,_,_,_,.cons _ _ _,.nil,e,h=>by subst e;exact kat_nil (by simpa[bC]using h)|_,_,_,_,i,.cons (ns:=is) x t r,.cons (ns:=js) y u r',e,h=>by
   refine kat_cons (wpAny_eqBool_int ?_);by_cases q:x=y;.subst q;rw[beq_self_eq_true];refine kat_yes (oO r r' (by rw[e];simp) ?_);simpa[bC]using h
   . rw[beq_eq_false_iff_ne.mpr q];refine kat_no ?_;have hx:Q (decide (x<y)) s:=by simpa[bC,q]using h
     cases(b&&i==0)with|true=>exact oneLt_int hx|false=>exact kat_one _ _ (wpAny_lt_int hx)
def o8(h:Heap)(u:Value)(d:D):Prop:=∃a its is,u=.ref a/\IsTup h a (List.toArray its)/\IntsAre its is/\is≠[]/\cR d=is
theorem mW{h h':Heap}(k:∀b o,h.get? b=some o->h'.get? b=some o){u:Value}{d:D}(t:o8 h u d):o8 h' u d:=by obtain⟨a,its,is,e,⟨o,h1,h2⟩,h3⟩:=t;exact⟨a,its,is,e,⟨o,k _ _ h1,h2⟩,h3⟩
theorem tK{h h':Heap}(k:∀b o,h.get? b=some o->h'.get? b=some o):∀{us:List Value}{ds:List D},Paired (o8 h) us ds->Paired (o8 h') us ds|_,_,.nil=>.nil|_,_,.cons r t=>.cons (mW k r) (tK k t)
theorem oG{h:Heap}:∀{us:List Value}{ds:List D},Paired (o8 h) us ds->∃fs,KatTups h us fs/\fs.length=us.length/\∀f∈fs,∃n t,f=Value.int n t|_,_,.nil=>⟨[],trivial,rfl,by simp⟩|_,_,.cons r t=>by obtain⟨fs,h1,h2,h3⟩:=oG t;obtain⟨a,its,is,rfl,⟨o,o1,o2,n,o3⟩,hi,hne,_⟩:=r;cases hi with|nil=>exact absurd rfl hne|cons x tk r'=>
     refine⟨.int x tk::fs,KatTups.cons o1 o2 o3 (by simp) h1,by simp[h2],fun f hf=>?_⟩;rcases mem_cons.mp hf with rfl|hf;.exact⟨_,_,rfl⟩
     .exact h3 f hf
theorem Ef{ds:List D}(t:Paired (o8 s.heap) vs ds)(h2:2<=vs.length){C:SortKind->Shared->Prop}(hC:C (tuples' (Value.type "int"!=Value.type "tuple")) s):wpAny (model prog w) A (keyKind' vs.toArray) C E s:=by obtain⟨fs,h1,h3,h4⟩:=oG t;refine kat_kind (T:=.type "int") h1 (by omega) (fun v hv=>?_) rfl hC;obtain⟨n,t,rfl⟩:=h4 v hv;exact Looks.now
theorem Mg{x y:Value}{d e:D}(hx:o8 s.heap x d)(hy:o8 s.heap y e){b:Bool}{C:Bool->Shared->Prop}(hC:C (bC (cR d) (cR e)) s):wpAny (model prog w) A (keyLt' (tuples' b) x y) C E s:=by obtain⟨a,its,is,rfl,⟨o,o1,o2,n,o3⟩,hi,hne,e1⟩:=hx;obtain⟨a',its',js,rfl,⟨o',p1,p2,n',p3⟩,hj,hne',e2⟩:=hy;refine kat_lt o1 o3 p1 p3 ?_;rw[e1,e2]at hC;refine oO (is:=is) (js:=js) (by simpa using hi) (by simpa using hj) ?_ hC;rw[size_toArray,size_toArray,IntsAre.length hi,IntsAre.length hj]
end
theorem Ew{xs:List V}{us:List Value}(h:Vals xs us)(i:Nat):RelV (xs.getD i .non) (us.getD i .none):=by
 have hl:=h.length;by_cases hi:i<xs.length
 . obtain⟨u,e,r⟩:=h.get (i:=i) (x:=xs[i]) (getElem?_eq_getElem hi);have e1:xs.getD i .non=xs[i]:=by simp[hi]
   have e2:us.getD i .none=u:=by simp[e]
   rw[e1,e2];exact r
 . have e1:xs.getD i .non=.non:=by simp[Nat.le_of_not_lt hi]
   have e2:us.getD i .none=.none:=by simp[show us.length<=i by omega]
   rw[e1,e2];rfl
theorem wu{f:Nat->V}{g:Nat->Value}(h:∀i,RelV (f i) (g i)):∀l:List Nat,Vals (l.map f) (l.map g)|[]=>.nil|i::l=>.cons (h i) (wu h l)
theorem G6{p:List Nat}{xs:List V}{us:List Value}(h:Vals xs us):Vals (pick .non p xs) (pick .none p us):=wu (Ew h) _
theorem xn{K:PySem.W.Frag}{F:Hp}{f:Nat->V}{g:Nat->D}(h:∀i,Rep K F (f i) (g i)):∀l:List Nat,aG K F (l.map f) (l.map g)|[]=>.nil|i::l=>.cons (h i) (xn h l)
theorem HS{K:PySem.W.Frag}{F:Hp}{p:List Nat}{xs:List V}{ds:List D}(h:aG K F xs ds):aG K F (pick .non p xs) (pick .non p ds):=xn (fun i=>by
 have hl:=h.length;by_cases hi:i<ds.length
 . obtain⟨u,e,r⟩:=h.get (i:=i) (d:=ds[i]) (getElem?_eq_getElem hi);have e1:ds.getD i .non=ds[i]:=by simp[hi]
   have e2:xs.getD i .non=u:=by simp[e]
   rw[e1,e2];exact r
 . have e1:ds.getD i .non=.non:=by simp[Nat.le_of_not_lt hi]
   have e2:xs.getD i .non=.non:=by simp[show xs.length<=i by omega]
   rw[e1,e2,Rep]) _
theorem IK{us:List Value}:∀{ns ms:List Int},IntsAre us ns->IntsAre us ms->ns=ms:=by induction us with|nil=>intro ns ms h1 h2;cases h1;cases h2;rfl|cons u us ih=>intro ns ms h1 h2;cases h1 with|cons n t r=>cases h2 with|cons m t' r'=>rw[ih r r']
theorem Nq{h:Heap}(u:Value)(d e:D):o8 h u d->o8 h u e->cR d=cR e:=fun⟨a,its,is,h1,⟨o,o1,o2,n,o3⟩,h3,_,h4⟩⟨b,jts,js,g1,⟨o',p1,p2,m,p3⟩,g3,_,g4⟩=>by rw[h1]at g1;cases g1;rw[o1]at p1;cases p1;rw[o3]at p3;cases p3;rw[h4,g4,IK h3 g3]
theorem all_ints:∀{ds:List D},ds.all gG=true->ds=(ds.map lE).map D.int
 |[],_=>rfl|d::ds,h=>by
   simp only[all_cons,and_eq_true]at h;cases d<;>first|(have q:=h.1;simp[gG]at q;done)|skip
   rw[map_cons,map_cons,<-all_ints h.2];rfl
theorem intsAre_of:∀{ns:List Int}{us:List Value},Vals (ns.map V.int) us->IntsAre us ns|[],_,.nil=>.nil|n::ns,_,.cons r t=>by obtain⟨tk,rfl⟩:=r;exact .cons n tk (intsAre_of t)
section
variable{X:Cx}{c:Call}{a:Expr}{pa:P}{pos:Pos}
theorem boot_sorted:bootBuiltins "sorted"=some (.builtin "sorted"):=by decide+kernel
end
end HH
end
section
namespace HH
open PySem L2 PySem.Spec PyProof.Rows PySem.Calls
theorem zO(l b:Addr)(items items2:List Value)(n n2:Nat)(dd dd2:Option Addr)(sl sl2:Array (Option Value))(is js:List Int)(hi:IntsAre items is)(hj:IntsAre items2 js):Meets (Builtin.«tuple.__lt__» ⟨[.ref l,.ref b],[]⟩) (fun A R s=>s.heap.get? l=some {cls:=.type "tuple",dict:=dd,data:=.seq items.toArray n,slots:=sl}/\s.heap.get? b=some {cls:=.type "tuple",dict:=dd2,data:=.seq items2.toArray n2,slots:=sl2}/\R (.ok (.ret (.bool (bC is js)))) s):=.of_wp fun prog w A R s h=>by
  obtain⟨hp,g,d,tk,os⟩:=s;obtain⟨hl,hb,h⟩:=h;have f2:=AutoSeq1.sub_tuple_tuple;wp_walk using wpAny_loadPart' hl,wpAny_loadPart' hb,wpAny_forIn_list _ (fun rest b s'=>b.1=none/\s'=⟨hp,g,d,tk,os⟩/\∃xs ys is' WN,rest=xs.zip ys/\IntsAre xs is'/\IntsAre ys WN/\decide (items.length<items2.length)=decide (is'.length<WN.length)/\R (.ok (.ret (.bool (bC is' WN)))) ⟨hp,g,d,tk,os⟩) _;case turn=>rintro⟨y,x⟩rest b s'⟨hb',rfl,xs,ys,is',WN,hz,h1,h2,h3,hR⟩;cases h1 with|nil=>cases hz|cons p t h1=>cases h2 with|nil=>cases hz|cons q u h2=>
       injection hz with hyx hrest;cases hyx;refine wpAny_bind (wpAny_eqBool_int ?_);by_cases e:p=q;.subst e;rw[beq_self_eq_true];wp_walk;exact⟨rfl,rfl,_,_,_,_,hrest,h1,h2,by rw[h3];simp,by simpa[bC]using hR⟩
       . rw[beq_eq_false_iff_ne.mpr e];have hR':R (.ok (.ret (.bool (decide (p<q))))) ⟨hp,g,d,tk,os⟩:=by simpa[bC,e]using hR
         simp only[Bool.not_false,if_true];refine wpAny_bind (wpAny_rule ?_);refine wpAny_bind (show wpAny (model prog w) A.in1 (compareOp .Lt (Value.int p t) (Value.int q u)) _ _ _ from wpAny_lt_int ?_);refine wpAny_bind (wpAny_pure ?_);exact wpAny_pure (wpAny_pure ⟨_,rfl,hR'⟩)
  case fin=>
   rintro⟨b1,b2⟩s'⟨hb',rfl,xs,ys,is',WN,hz,h1,h2,h3,hR⟩;simp only at hb';subst hb';have e:bC is' WN=decide (items.length<items2.length):=by rw[h3];cases h1 with|nil=>cases h2<;>simp[bC]|cons _ _ _=>cases h2 with|nil=>simp[bC]|cons _ _ _=>cases hz
   rw[e]at hR;wp_walk;exact⟨_,rfl,by simpa[Builtin.Tuple.tupleCompareSizes]using hR⟩
  case h=>exact⟨rfl,rfl,items,items2,is,js,by simp,hi,hj,by rw[IntsAre.length hi,IntsAre.length hj],h⟩
section
variable{X:Cx}
theorem yS(hu:X.A.units+8<cLine):fU X (compareOp .Lt) (rD X.K (rE .lt)):=by rintro pins s σ H x y v u Q I rx ry⟨F,d,e,r,sm,px,py,he,k⟩;obtain⟨t,e1,e2⟩:=map_some (show(Y0 d e).map _=some r from he);subst e2;cases d with
 |int i=>cases e with|int j=>exact R5 pins s σ H x y v u Q I rx ry ⟨F,.int i,.int j,_,sm,px,py,by have e2:J4 (fun i j=>decide (i<j)) (.int i) (.int j)=some t:=e1;simp only[e2];rfl,k⟩|_=>cases e1
 |tup xs=>cases e with|tup ys=>obtain⟨hc,e1⟩:=bF (show(if(xs.all gG&&ys.all gG)=true then some (bC (xs.map lE) (ys.map lE))else none)=some t from e1);rw[and_eq_true]at hc;obtain⟨a,vs,rfl,h1,h2,_⟩:=px.tup sm;obtain⟨b,ws,rfl,h3,h4,_⟩:=py.tup sm;cases rx;cases ry;obtain⟨its,rv,it,_⟩:=I.tuple h1;obtain⟨its2,U3,it2,_⟩:=I.tuple h3;rw[all_ints hc.1]at h2;rw[all_ints hc.2]at h4;rw[jD h2]at rv;rw[jD h4]at U3;have i1:=intsAre_of rv;have i2:=intsAre_of U3;obtain⟨⟨cls,dd,data,sl⟩,ho,hc1,n,hd⟩:=it;obtain⟨⟨cls2,dd2,data2,sl2⟩,ho2,hc2,n2,hd2⟩:=it2;simp only at hc1 hd hc2 hd2;subst hc1 hd hc2 hd2;refine(show wpAny (model X.prog X.w) X.A (richCompare .Lt (.ref a) (.ref b)) _ _ s from richCompare_meets_room (op:=.Lt) ⟨_,ho,rfl⟩ ⟨_,ho2,rfl⟩ PySem.F.slot_tuple_lt PySem.F.entry_tuple_lt (PySem.F.args_tuple_lt_2 _ _) (zO a b its its2 n n2 dd dd2 sl sl2 _ _ i1 i2) ⟨ho,ho2,show Value.bool _≠Value.notImplemented/\_ from⟨(fun x=>nomatch x),⟨.bl t,H,I,by rw[<-e1];rfl,cg.cV sm (fL _) k⟩⟩⟩ (by omega))|_=>cases e1
 |_=>cases e1
end
end HH
end
section
namespace L2
open PySem PySem.Spec PyProof.Rows
variable{y:V}{w:World}{H:Hp}{Q:Value->Shared->Prop}{pos:Pos}{X:Cx}
section
variable{κ:Type}[DecidableEq κ]
noncomputable def jh(kvs:List (κ×V))(k:κ):Option V:=(kvs.find? fun kv=>decide (kv.1=k)).map (·.2)
noncomputable def putK(kvs:List (κ×V))(k:κ)(v:V):List (κ×V):=if(kvs.any fun kv=>decide (kv.1=k))=true then kvs.map (fun kv=>if kv.1=k then(kv.1,v)else kv)else kvs++[(k,v)]
theorem mj{p:κ×V}{r:List (κ×V)}{k:κ}(e:p.1=k):jh (p::r) k=some p.2:=by simp[jh,find?_cons,e]
theorem mK{p:κ×V}{r:List (κ×V)}{k:κ}(e:¬ p.1=k):jh (p::r) k=jh r k:=by simp[jh,find?_cons,e]
theorem qt(k:κ):∀kvs:List (κ×V),(kvs.any fun kv=>decide (kv.1=k))=(jh kvs k).isSome
 |[]=>rfl|p::r=>by
   rw[any_cons];by_cases e:p.1=k;.simp only[mj e,decide_eq_true e,Bool.true_or,Option.isSome_some]
   .rw[mK e,decide_eq_false e,Bool.false_or];exact qt k r
theorem jw(kvs:List (κ×V))(k:κ)(v:V):(putK kvs k v).length<=kvs.length+1:=by
 unfold putK;split;.rw[length_map];omega
 .rw[length_append,length_cons,length_nil];omega
theorem o6.iB{o:Option V}{u:Option Value}(r:o6 o u):o.isSome=u.isSome:=by cases o with
 |none=>cases u with|none=>rfl|some _=>exact(show False from r).elim
 |some _=>cases u with|none=>exact(show False from r).elim|some _=>rfl
theorem o6.getD{o:Option V}{u:Option Value}{d:V}{d':Value}(r:o6 o u)(rd:RelV d d'):RelV (o.getD d) (u.getD d'):=by cases o with
 |none=>cases u with|none=>exact rd|some _=>exact(show False from r).elim
 |some _=>cases u with|none=>exact(show False from r).elim|some _=>exact r
theorem KV.val{kvs:List (κ×V)}{vs:List (κ×Value)}(r:KV kvs vs)(k:κ):o6 (jh kvs k) (valueAt vs k):=by unfold KV at r;induction r with|nil=>exact True.intro|@cons p q ps qs h t ih=>
   obtain⟨h1,h2⟩:=h;by_cases e:p.1=k
   . have e':q.1=k:=h1.symm.trans e;have b:valueAt (q::qs) k=some q.2:=by simp[valueAt,find?_cons,e']
     rw[mj e,b];exact h2
   . have e':¬ q.1=k:=fun z=>e (h1.trans z);have b:valueAt (q::qs) k=valueAt qs k:=by simp[valueAt,find?_cons,e']
     rw[mK e,b];exact ih
theorem KV.any{kvs:List (κ×V)}{vs:List (κ×Value)}(r:KV kvs vs)(k:κ):(kvs.any fun kv=>decide (kv.1=k))=vs.any fun kv=>decide (kv.1=k):=by unfold KV at r;induction r with|nil=>rfl|cons h t ih=>rw[any_cons,any_cons,ih,h.1]
theorem KV.repl{kvs:List (κ×V)}{vs:List (κ×Value)}(r:KV kvs vs)(k:κ){u:Value}(ry:RelV y u):KV (kvs.map fun kv=>if kv.1=k then(kv.1,y)else kv) (vs.map fun kv=>if kv.1=k then(kv.1,u)else kv):=by unfold KV at r ⊢;induction r with|nil=>exact .nil|@cons p q ps qs h t ih=>
   rw[map_cons,map_cons];refine .cons ?_ ih;obtain⟨h1,h2⟩:=h;by_cases e:p.1=k;.rw[if_pos e,if_pos (h1.symm.trans e)];exact⟨h1,ry⟩
   .rw[if_neg e,if_neg (fun z=>e (h1.trans z))];exact⟨h1,h2⟩
theorem KV.put{kvs:List (κ×V)}{vs:List (κ×Value)}(r:KV kvs vs)(k:κ){u:Value}(ry:RelV y u):KV (putK kvs k y) (stored vs k u):=by
 unfold putK stored;rw[r.any k];by_cases e:(vs.any fun kv=>decide (kv.1=k))=true;.rw[if_pos e,if_pos e];exact r.repl k ry
 .rw[if_neg e,if_neg e];exact Paired.snoc r ⟨rfl,ry⟩
theorem KV.length{kvs:List (κ×V)}{vs:List (κ×Value)}(r:KV kvs vs):kvs.length=vs.length:=Paired.length r
end
theorem qu{P:Program}{k:Key}{u:Value}(r:RelV (kV k) u):(bh P w).is k u=true:=by cases k with|inl i=>obtain⟨t,e⟩:=(show ∃t,u=Value.int i t from r);subst e;exact wX P w i t|inr x=>obtain⟨t,e⟩:=(show ∃t,u=Value.str x t from r);subst e;exact wC P w x t
theorem ug{P:Program}{w:World}:∀{ks:List Key}{us:List Value},Vals (ks.map kV) us->ItemsAre (bh P w) ks us|[],_,r=>by rw[map_nil]at r;cases r;exact .nil|k::ks,_,r=>by rw[map_cons]at r;cases r with|cons h t=>exact .cons (qu h) (ug t)
abbrev KT(H:Hp):List (List Key×V)->List (List Key×Addr×Value)->Prop:=Paired fun p q=>p.1=q.1/\H q.2.1=some (.tup (p.1.map kV))/\RelV p.2 q.2.2
theorem KT.val{kvs:List (List Key×V)}{xs:List (List Key×Addr×Value)}(r:KT H kvs xs)(k:List Key):o6 (jh kvs k) ((atKey xs k).map (·.2)):=by induction r with|nil=>exact True.intro|@cons p q ps qs h t ih=>
   obtain⟨h1,_,h2⟩:=h;by_cases e:p.1=k
   . have e':q.1=k:=h1.symm.trans e;have b:atKey (q::qs) k=some q.2:=by simp[atKey,find?_cons,e']
     rw[mj e,b];exact h2
   . have e':¬ q.1=k:=fun z=>e (h1.trans z);have b:atKey (q::qs) k=atKey qs k:=by simp[atKey,find?_cons,e']
     rw[mK e,b];exact ih
theorem KT.repl{kvs:List (List Key×V)}{xs:List (List Key×Addr×Value)}(r:KT H kvs xs)(k:List Key){u:Value}(ry:RelV y u):KT H (kvs.map fun kv=>if kv.1=k then(kv.1,y)else kv) (xs.map (putAt k u)):=by induction r with|nil=>exact .nil|@cons p q ps qs h t ih=>
   rw[map_cons,map_cons];refine .cons ?_ ih;obtain⟨h1,h2,h3⟩:=h;unfold putAt;by_cases e:p.1=k;.rw[if_pos e,if_pos (h1.symm.trans e)];exact⟨h1,h2,ry⟩
   .rw[if_neg e,if_neg (fun z=>e (h1.trans z))];exact⟨h1,h2,h3⟩
theorem KT.put{kvs:List (List Key×V)}{xs:List (List Key×Addr×Value)}(r:KT H kvs xs)(k:List Key){b:Addr}{u:Value}(hb:H b=some (.tup (k.map kV)))(ry:RelV y u):KT H (putK kvs k y) (storedH xs k b u):=by
 have e:(kvs.any fun kv=>decide (kv.1=k))=(atKey xs k).isSome:=by rw[qt,(r.val k).iB,isSome_map]
 unfold putK storedH;rw[e];by_cases q:(atKey xs k).isSome=true;.rw[if_pos q,if_pos q];exact r.repl k ry
 .rw[if_neg q,if_neg q];exact Paired.snoc r ⟨rfl,hb,ry⟩
theorem KT.keeps{H':Hp}{kvs:List (List Key×V)}{xs:List (List Key×Addr×Value)}(r:KT H kvs xs)(ht:∀b ys,H b=some (.tup ys)->H' b=some (.tup ys)):KT H' kvs xs:=Paired.RP r fun _ _ z=>⟨z.1,ht _ _ z.2.1,z.2.2⟩
section
variable{P:Program}{w:World}{H:Hp}{h:Heap}{a:Addr}
theorem N6{u:HO}(ok:mV P w H h)(e:Rd H a u):bI P w H h a u:=e.ok ok
theorem pY{kvs:List (Key×V)}(ok:mV P w H h)(e:Rd H a (.dK kvs)):kvs.length<=sizeLine/\(a==sysModules)=false/\∃vs,KV kvs vs/\h.DictOf (bh P w) a vs:=show bI P w H h a (.dK kvs)from N6 ok e
theorem PB{kvs:List (Key×V)}(ok:mV P w H h)(e:H a=some (.dK kvs)):kvs.length<=sizeLine/\(a==sysModules)=false/\∃vs,KV kvs vs/\h.DictOf (bh P w) a vs:=pY ok (.inl e)
theorem nH{ks:List Key}(ok:mV P w H h)(e:H a=some (.tup (ks.map kV))):(tupleKind (bh P w)).is h ks a:=by obtain⟨_,its,r,o,h1,h2,n,h3⟩:=(show bI P w H h a (.tup (ks.map kV))from ok a _ e);exact⟨o,its.toArray,n,h1,h2,h3,by simpa using ug r⟩
theorem qR{kvs:List (List Key×V)}(ok:mV P w H h)(e:Rd H a (.dT kvs)):kvs.length<=sizeLine/\(a==sysModules)=false/\∃xs,KT H kvs xs/\h.DictOfH (tupleKind (bh P w)) a xs:=by
 obtain⟨z,y,xs,r,o,es,ep,h1,h2,h3,h4,h5⟩:=(show bI P w H h a (.dT kvs)from N6 ok e);refine⟨z,y,xs,r,o,es,ep,h1,h2,h3,h4,fun x hx=>?_,h5⟩;have all:∀{l:List (List Key×V)}{m:List (List Key×Addr×Value)},KT H l m->∀x∈m,(tupleKind (bh P w)).is h x.1 x.2.1:=by intro l m q;induction q with|nil=>intro x hx;exact nomatch hx|@cons p q ps qs hq t ih=>
    intro x hx;rcases mem_cons.mp hx with e|hx;.subst e;exact nH ok (by rw[<-hq.1];exact hq.2.1)
    .exact ih x hx
 exact all r x hx
theorem XX{kvs:List (List Key×V)}(ok:mV P w H h)(e:H a=some (.dT kvs)):kvs.length<=sizeLine/\(a==sysModules)=false/\∃xs,KT H kvs xs/\h.DictOfH (tupleKind (bh P w)) a xs:=qR ok (.inl e)
end
def mZ(H:Hp)(a:Addr)(y:V)(r:Option V):Prop:=(∃kvs k,Rd H a (.dK kvs)/\y=kV k/\r=jh kvs k)\/∃kvs k b,Rd H a (.dT kvs)/\y=.ref b/\H b=some (.tup (k.map kV))/\r=jh kvs k
def Zi(H:Hp)(a:Addr)(y v:V)(H':Hp):Prop:=(∃kvs k,H a=some (.dK kvs)/\y=kV k/\kvs.length<sizeLine/\H'=upd H a (.dK (putK kvs k v)))\/∃kvs k b,H a=some (.dT kvs)/\y=.ref b/\H b=some (.tup (k.map kV))/\kvs.length<sizeLine/\H'=upd H a (.dT (putK kvs k v))
section
variable{X:Cx}{pins:List (Addr×Obj)}{σ:St}{H:Hp}{s:Shared}{a:Addr}{y v:V}{u r:Value}{o:Option V}{A:Around}{E:Value->Shared->Prop}
theorem Inv.big(I:Inv X pins σ H s):sysModules<s.heap.objs.size:=by have h:mainGlobals<s.heap.objs.size:=(I.mod.glob.keeps I.bk).lt;exact Nat.lt_trans (by decide) h
theorem m7(hu:A.units+1<cLine)(I:Inv X pins σ H s)(g:mZ H a y (some v))(ry:RelV y u)(h:∀w' s',Inv X pins σ H s'->RelV v w'->Q w' s'):wpAny (model X.prog X.w) A (getItem (.ref a) u) Q E s:=by
 rcases g with⟨kvs,k,e,ey,l⟩|⟨kvs,k,b,e,ey,eb,l⟩;.subst ey;obtain⟨z,hd,vs,rel,dd⟩:=pY I.hok e;obtain⟨w',hw,vI⟩:=o6.some_of (v:=v) (o:=valueAt vs k) (by rw[l];exact rel.val k);exact wpAny_getItem_of (qu ry) dd.mapOf hw (h w' _ (I.tok _) vI)
 .subst ey;cases(show u=Value.ref b from ry);obtain⟨z,hd,xs,rel,dd⟩:=qR I.hok e;obtain⟨w',hw,vI⟩:=o6.some_of (v:=v) (o:=(atKey xs k).map (·.2)) (by rw[l];exact rel.val k);obtain⟨p,hp,hp2⟩:=map_eq_some_iff.mp hw;refine wpAny_getItem_heap (tupleKind_room_in1 hu) (nH I.hok eb) dd hp ?_;rw[hp2];exact h w' _ (I.tok _) vI
theorem Y7(hu:A.units+1<cLine)(I:Inv X pins σ H s)(g:mZ H a y o)(ry:RelV y u)(h:∀s',Inv X pins σ H s'->Q (.bool o.isSome) s'):wpAny (model X.prog X.w) A (compareOp .In u (.ref a)) Q E s:=by
 rcases g with⟨kvs,k,e,ey,l⟩|⟨kvs,k,b,e,ey,eb,l⟩;.subst ey;obtain⟨z,hd,vs,rel,dd⟩:=pY I.hok e;refine wpAny_in_of (qu ry) hd dd.mapOf ?_;rw[<-(rel.val k).iB,<-l];exact h _ (I.tok _)
 .subst ey;cases(show u=Value.ref b from ry);obtain⟨z,hd,xs,rel,dd⟩:=qR I.hok e;refine wpAny_in_heap (tupleKind_room_in1 hu) (nH I.hok eb) hd dd ?_;have q:=(rel.val k).iB;rw[isSome_map]at q;rw[<-q,<-l];exact h _ (I.tok _)
theorem Cg(hu:A.units+1<cLine)(I:Inv X pins σ H s)(g:mZ H a y o)(ry:RelV y u)(h:∀s',Inv X pins σ H s'->Q (.bool (!o.isSome)) s'):wpAny (model X.prog X.w) A (compareOp .NotIn u (.ref a)) Q E s:=by
 rcases g with⟨kvs,k,e,ey,l⟩|⟨kvs,k,b,e,ey,eb,l⟩;.subst ey;obtain⟨z,hd,vs,rel,dd⟩:=pY I.hok e;refine wpAny_notIn_of (qu ry) hd dd.mapOf ?_;rw[<-(rel.val k).iB,<-l];exact h _ (I.tok _)
 .subst ey;cases(show u=Value.ref b from ry);obtain⟨z,hd,xs,rel,dd⟩:=qR I.hok e;refine wpAny_notIn_heap (tupleKind_room_in1 hu) (nH I.hok eb) hd dd ?_;have q:=(rel.val k).iB;rw[isSome_map]at q;rw[<-q,<-l];exact h _ (I.tok _)
theorem uZ{h':Heap}{t':Nat}{ob:HO}(I:Inv X pins σ H s)(mu:YZ (H a))(hs:SameBut a s.heap h')(he:∃q,h'.get? a=some q)(new:bI X.prog X.w (upd H a ob) h' a ob):Inv X pins σ (upd H a ob) {s with heap:=h',toks:=t'}:=I.write (x:=a) (e:=a) mu (.inl rfl) (fun b q hb z=>(hs.2 b hb).trans z) he new
theorem Fq{P:Program}{H':Hp}{h':Heap}{kvs:List (Key×V)}{vs:List (Key×Value)}(z:kvs.length<=sizeLine)(hd:(a==sysModules)=false)(rel:KV kvs vs)(dd:h'.DictOf (bh P w) a vs):bI P w H' h' a (.dK kvs):=⟨z,hd,vs,rel,dd⟩
theorem Dw{H':Hp}{Q:Unit->Shared->Prop}(hu:A.units+1<cLine)(I:Inv X pins σ H s)(g:Zi H a y v H')(ry:RelV y u)(rv:RelV v r)(h:∀s',Inv X pins σ H' s'->Q () s'):wpAny (model X.prog X.w) A (setItem (.ref a) u r) Q E s:=by
 rcases g with⟨kvs,k,e,ey,l,eH⟩|⟨kvs,k,b,e,ey,eb,l,eH⟩
 . subst ey eH;obtain⟨z,hd,vs,rel,dd⟩:=PB I.hok e;have hz:vs.length<=sizeLine:=by rw[<-rel.length];exact z
   have hl:(putK kvs k v).length<=sizeLine:=by have:=jw kvs k v;omega
   refine wpAny_setItem_pairs (hsz:=hz) (qu ry) dd fun h' U4 hs=>h _ ?_;have he:∃q,h'.get? a=some q:=let⟨q,_,_,hq,_⟩:=U4;⟨q,hq⟩;exact uZ I (by rw[e];exact True.intro) hs he (Fq hl hd (rel.put k rv) U4)
 . subst ey eH;cases(show u=Value.ref b from ry);obtain⟨z,hd,xs,rel,dd⟩:=XX I.hok e;have hz:xs.length<=sizeLine:=by rw[<-Paired.length rel];exact z
   have hl:(putK kvs k v).length<=sizeLine:=by have:=jw kvs k v;omega
   refine wpAny_setItem_heap (hsz:=hz) (tupleKind_room_in1 hu) (nH I.hok eb) dd fun h' U4 hs=>h _ ?_;obtain⟨q,es,ep,hq,h2,h3,h4,_,h5⟩:=U4;refine uZ I (by rw[e];exact True.intro) hs ⟨q,hq⟩ ⟨hl,hd,_,(rel.put k eb rv).keeps fun c ys ec=>?_,q,es,ep,hq,h2,h3,h4,h5⟩;rw[aC (Yg ec e (fun z=>nomatch z))];exact ec
end
def Lk(i:Expr):Prop:=∀ov iv,subscripted i false ov iv=operate [ov,iv] (getItem ov iv)
theorem Aq{prog:Program}{A:Around}{E:Value->Shared->Prop}{s:Shared}{env:Env}{value slice:Expr}{T id:String}(hl:typeLookup (.type T) "__getitem__"=pure (some (.builtin id)))(hs:Lk slice)(h:wpAny (model prog w) A (eval value env) (fun o s₁=>wpAny (model prog w) A (eval slice env) (fun i s₂=>s₂.TypeIs o T/\wpAny (model prog w) A (getItem o i) Q E s₂) E s₁) E s):wpAny (model prog w) A (eval (.Subscript value slice pos) env) Q E s:=by
 refine Subscript_ (wpAny_mono h (fun o s₁ h₁=>wpAny_mono h₁ (fun i s₂ h₂=>?_) fun _ _ x=>x) fun _ _ x=>x);obtain⟨hT,h₂⟩:=h₂;unfold subscriptTail;refine wpAny_bind ?_;rw[getitemInPython_of_ne hT.not_modules];refine wpAny_bind (wpAny_specialOf hT hl ?_);have fin:wpAny (model prog w) A (subscripted slice false o i) (fun r s₃=>wpAny (model prog w) A (letTemporaryGo value o r>>=fun _=>pure r) Q E s₃) E s₂:=by rw[hs o i];exact wpAny_operating (wpAny_mono h₂ (fun r s₃ h₃=>wpAny_bind (wpAny_letTemporaryGo (wpAny_pure h₃))) fun _ _ x=>x)
 first|exact wpAny_pure (wpAny_bind fin)|exact wpAny_bind (wpAny_pure (wpAny_bind fin))|exact wpAny_bind fin
theorem jz{pins:List (Addr×Obj)}{σ:St}{s:Shared}{a:Addr}{o:Option V}(I:Inv X pins σ H s)(g:mZ H a y o):s.TypeIs (.ref a) "dict":=by
 rcases g with⟨kvs,k,e,_,_⟩|⟨kvs,k,b,e,_,_,_⟩;.obtain⟨_,_,vs,_,dd⟩:=pY I.hok e;exact dd.typeIs
 .obtain⟨_,_,xs,_,dd⟩:=qR I.hok e;exact dd.typeIs
def Xj(td ty:TE):TE:=fun σ H Q=>td σ H fun x H1=>ty σ H1 fun y H2=>∃a v,x=.ref a/\mZ H2 a y (some v)/\Q v H2
def ad5(ty td:TE):TE:=fun σ H Q=>ty σ H fun y H1=>td σ H1 fun x H2=>∃a o,x=.ref a/\mZ H2 a y o/\Q (.bl o.isSome) H2
def Nm(ty td:TE):TE:=fun σ H Q=>ty σ H fun y H1=>td σ H1 fun x H2=>∃a o,x=.ref a/\mZ H2 a y o/\Q (.bl (!o.isSome)) H2
def Xm(td ty tv:TE):TS:=fun D σ H=>tv σ H fun v H1=>td σ H1 fun x H2=>ty σ H2 fun y H3=>∃a H4,x=.ref a/\Zi H3 a y v H4/\D.nx σ H4
section
variable{X:Cx}{o i e value:Expr}{pos pos' tpos:Pos}{td ty tv:TE}
theorem K4(hu:X.A.units+1<cLine)(ho:PE X o td)(hi:PE X i ty)(hs:Lk i):PE X (.Subscript o i pos) (Xj td ty):=by intro pins s σ H Q I h;refine Aq PySem.F.slot_dict_getitem.lookup hs (bR (ho pins s σ H _ I h) fun u s1⟨x,H1,I1,rx,q1⟩=>bR (hi pins s1 σ H1 _ I1 q1) fun iv s2⟨y,H2,I2,ry,a,v,ex,g,q2⟩=>?_);subst ex;obtain rfl:u=Value.ref a:=rx;exact⟨jz I2 g,m7 hu I2 g ry fun w' s3 I3 vI=>⟨v,H2,I3,vI,q2⟩⟩
theorem R9(hu:X.A.units+1<cLine)(hi:PE X i ty)(ho:PE X o td):PC X .In i o (ad5 ty td):=by intro pins s σ H Q I h;refine bR (hi pins s σ H _ I h) fun iv s1⟨y,H1,I1,ry,q1⟩=>bR (ho pins s1 σ H1 _ I1 q1) fun u s2⟨x,H2,I2,rx,a,ov,ex,g,q2⟩=>?_;subst ex;obtain rfl:u=Value.ref a:=rx;exact Y7 hu I2 g ry fun s3 I3=>⟨.bl ov.isSome,H2,I3,rfl,q2⟩
theorem Dq(hu:X.A.units+1<cLine)(hi:PE X i ty)(ho:PE X o td):PC X .NotIn i o (Nm ty td):=by intro pins s σ H Q I h;refine bR (hi pins s σ H _ I h) fun iv s1⟨y,H1,I1,ry,q1⟩=>bR (ho pins s1 σ H1 _ I1 q1) fun u s2⟨x,H2,I2,rx,a,ov,ex,g,q2⟩=>?_;subst ex;obtain rfl:u=Value.ref a:=rx;exact Cg hu I2 g ry fun s3 I3=>⟨.bl (!ov.isSome),H2,I3,rfl,q2⟩
theorem Ce(hu:X.A.units+1<cLine)(ho:PE X o td)(hi:PE X i ty)(hv:PE X value tv)(hs:swapsWith value (some (.Subscript o i pos')) pos.line X.env=pure false):PS X (.Assign [.Subscript o i pos'] value pos) (Xm td ty tv):=by intro pins s σ H D I h;refine wpAny_Assign_Subscript (bR (hv pins s σ H _ I h) fun r s1⟨v,H1,I1,rv,q1⟩=>bR (ho pins s1 σ H1 _ I1 q1) fun u s2⟨x,H2,I2,rx,q2⟩=>bR (hi pins s2 σ H2 _ I2 q2) fun iv s3⟨y,H3,I3,ry,a,H4,ex,g,q3⟩=>?_) hs;subst ex;obtain rfl:u=Value.ref a:=rx;exact Dw hu I3 g ry rv fun s4 I4=>⟨σ,H4,I4,q3⟩
end
theorem wy{P:Program}(h:Heap)(hb:sysModules<h.objs.size):bI P w H (h.push {cls:=.type "dict",data:=.dict #[]}) h.objs.size (.dK []):=⟨uW,beq_eq_false_iff_ne.mpr (Ne.symm (ne_of_lt hb)),[],.nil,Heap.DictOf.new h⟩
def Rc:TE:=fun _ H Q=>∀p,H p=none->Q (.ref p) (upd H p (.dK []))
section
variable{X:Cx}{pos:Pos}
theorem wM:PE X (.Dict [] [] pos) Rc:=fun pins s σ H Q I h=>wpAny_Dict_empty ⟨.ref s.heap.objs.size,_,I.laid (a:=s.heap.objs.size) (o:=.dK []) (t':=s.toks) (fun _ _ q=>dC q) (dh) (wy s.heap I.big),rfl,h _ (I.hok.fresh (dh))⟩
end
def yr:List (TE×TE)->St->Hp->(List (V×V)->Hp->Prop)->Prop|[],_,H,Q=>Q [] H|(tk,tv)::r,σ,H,Q=>tk σ H fun x H1=>tv σ H1 fun y H2=>yr r σ H2 fun ps H3=>Q ((x,y)::ps) H3
abbrev VV:List (V×V)->List (Value×Value)->Prop:=Paired fun p q=>RelV p.1 q.1/\RelV p.2 q.2
def PPs(X:Cx)(pos:Pos)(keys:List (Option Expr))(values:List Expr)(NZ:List (TE×TE)):Prop:=∀(pins:List (Addr × Obj))(s:Shared)(σ:St)(H:Hp)(Q:List (V × V)->Hp->Prop),Inv X pins σ H s->yr NZ σ H Q->wpAny (model X.prog X.w) X.A (evalPairs (pairTrees keys values X.env pos)) (fun vs s'=>∃ps H',Inv X pins σ H' s'/\VV ps vs/\Q ps H') X.xe s
theorem Br:PPs X pos [] [] []:=fun pins s σ H Q I h=>pairTrees_nil_walk ⟨[],H,I,.nil,h⟩
theorem xu{k v:Expr}{ks:List (Option Expr)}{vs:List Expr}{tk tv:TE}{NZ:List (TE×TE)}(hk:PE X k tk)(hv:PE X v tv)(hr:PPs X pos ks vs NZ):PPs X pos (some k::ks) (v::vs) ((tk,tv)::NZ):=fun pins s σ H Q I h=>pairTrees_cons_walk (bR (hk pins s σ H _ I h) fun u s1⟨x,H1,I1,rx,q1⟩=>bR (hv pins s1 σ H1 _ I1 q1) fun w2 s2⟨y,H2,I2,ry,q2⟩=>bR (hr pins s2 σ H2 _ I2 q2) fun ws s3⟨ps,H3,I3,rel,q3⟩=>⟨(x,y)::ps,H3,I3,.cons ⟨rx,ry⟩ rel,q3⟩)
noncomputable def nC(kvs more:List (Key×V)):List (Key×V):=more.foldl (fun acc kv=>putK acc kv.1 kv.2) kvs
theorem KV.merge:∀{more:List (Key×V)}{rs:List (Key×Value)}{kvs:List (Key×V)}{vs:List (Key×Value)},KV more rs->KV kvs vs->KV (nC kvs more) (merged vs rs):=by intro more rs kvs vs r;unfold KV at r;induction r generalizing kvs vs with|nil=>intro q;exact q|@cons p q ps qs h t ih=>
   intro r0;have e:KV (putK kvs p.1 p.2) (stored vs q.1 q.2):=by have:=r0.put p.1 h.2;rw[<-h.1];exact this
   exact ih e
theorem kJ:∀(more kvs:List (Key×V)),(nC kvs more).length<=kvs.length+more.length|[],kvs=>by show kvs.length<=kvs.length+0;omega|p::r,kvs=>by have h1:=kJ r (putK kvs p.1 p.2);have h2:=jw kvs p.1 p.2;show(nC (putK kvs p.1 p.2) r).length<=_;rw[length_cons];omega
theorem qm{P:Program}{w:World}:∀{kvs:List (Key×V)}{ws:List (Value×Value)},VV (kvs.map fun kv=>(kV kv.1,kv.2)) ws->∃rs,Carries (bh P w) ws rs/\KV kvs rs|[],_,r=>by rw[map_nil]at r;cases r;exact⟨[],True.intro,.nil⟩|p::kvs,_,r=>by rw[map_cons]at r;cases r with|@cons a b as bs h t=>obtain⟨rs,c,q⟩:=qm (P:=P) (w:=w) t;obtain⟨b1,b2⟩:=b;exact⟨(p.1,b2)::rs,⟨qu h.1,rfl,c⟩,.cons ⟨rfl,h.2⟩ q⟩
def Zh(NZ:List (TE×TE)):TE:=fun σ H Q=>∀p,H p=none->yr NZ σ (upd H p (.dK [])) fun ps H2=>H2 p=some (.dK [])/\∃kvs:List (Key×V),ps=kvs.map (fun kv=>(kV kv.1,kv.2))/\kvs.length<=15/\Q (.ref p) (upd H2 p (.dK (nC [] kvs)))
theorem Cz{keys:List (Option Expr)}{values:List Expr}{NZ:List (TE×TE)}(h:PPs X pos keys values NZ)(hall:keys.all (·.isSome)=true)(hl:keys.length=values.length)(h0:keys≠[])(h15:keys.length<=15):PE X (.Dict keys values pos) (Zh NZ):=by
 intro pins s σ H Q I q;have hn:=I.hok.fresh (le_refl s.heap.objs.size);have I1:=I.laid (a:=s.heap.objs.size) (o:=.dK []) (h':=s.heap.push {cls:=.type "dict",data:=.dict #[]}) (t':=s.toks) (fun _ _ q=>dC q) (dh) (wy s.heap I.big);refine wpAny_Dict_walk (knd:=bh X.prog X.w) hall hl h0 h15 (bR (h pins _ σ _ _ I1 (q _ hn)) fun ws s2⟨ps,H2,I2,rel,e,kvs,ep,lk,q2⟩=>?_);subst ep;obtain⟨rs,c,rk⟩:=qm (P:=X.prog) (w:=X.w) rel;obtain⟨z,hd,vs0,r0,dd⟩:=PB I2.hok e;cases r0;refine⟨rs,c,dd,fun h' U4 hs=>⟨.ref s.heap.objs.size,_,?_,rfl,q2⟩⟩;have hz:(nC [] kvs).length<=sizeLine:=by have h1:=kJ kvs [];rw[length_nil]at h1;rw[sizeLine_eq];omega
 have he:∃q,h'.get? s.heap.objs.size=some q:=let⟨q,_,_,hq,_⟩:=U4;⟨q,hq⟩;exact uZ I2 (by rw[e];exact True.intro) hs he (Fq hz hd (rk.merge .nil) U4)
structure M2(X:Cx)(o:Expr)(m:Str)(apos:Pos)(e f:Expr)(cpos:Pos):Prop where
 base:attributeBase o m X.env (eval o X.env)=eval o X.env
 few:((backTo cpos (starEach [e,f] X.env)).all (fun x=>!x.1)&&(backToKw cpos (keywordEach [] X.env)).all (fun x=>x.1.isSome)&&decide (([e,f]:List Expr).length+([]:List Keyword).length+(if([]:List Keyword).isEmpty then 0 else 1)<30))=true
 line:(apos.endLine==cpos.line)=true
 trees:backTo cpos (starEach [e,f] X.env)=[(false,eval e X.env),(false,eval f X.env)]
def IsD(H:Hp)(a:Addr):Prop:=(∃kvs,Rd H a (.dK kvs))\/∃kvs,Rd H a (.dT kvs)
theorem Ua{pins:List (Addr×Obj)}{σ:St}{s:Shared}{a:Addr}(I:Inv X pins σ H s)(d:IsD H a):s.TypeIs (.ref a) "dict"/\(∀b,Value.ref a=.ref b->∃ob,s.heap.get? b=some ob/\ob.dict=none)/\(a==sysModules)=false:=by
 rcases d with⟨kvs,e⟩|⟨kvs,e⟩;.obtain⟨_,hd,vs,_,dd⟩:=pY I.hok e;refine⟨dd.typeIs,fun b q=>?_,hd⟩;cases q;obtain⟨ob,_,_,h1,h2,_⟩:=dd;exact⟨ob,h1,h2.2.1⟩
 .obtain⟨_,hd,xs,_,dd⟩:=qR I.hok e;refine⟨dd.typeIs,fun b q=>?_,hd⟩;cases q;obtain⟨ob,_,_,h1,h2,_⟩:=dd;exact⟨ob,h1,h2.2.1⟩
section
variable{X:Cx}{pins:List (Addr×Obj)}{σ:St}{H:Hp}{s:Shared}{a:Addr}{y d:V}{u r:Value}{o:Option V}{A:Around}{E:Value->Shared->Prop}
theorem Qv(hu:A.units+1<cLine)(I:Inv X pins σ H s)(g:mZ H a y o)(ry:RelV y u)(rd:RelV d r)(h:∀w' s',Inv X pins σ H s'->RelV (o.getD d) w'->Q w' s'):wpAny (model X.prog X.w) A (call (.builtin "dict.get") [.ref a,u,r]) Q E s:=by
 rcases g with⟨kvs,k,e,ey,l⟩|⟨kvs,k,b,e,ey,eb,l⟩;.subst ey;obtain⟨z,hd,vs,rel,dd⟩:=pY I.hok e;refine call_meetsIn slot_dict_get dd.typeIs PySem.F.entry_dict_get (PySem.F.args_dict_get_3 _ _ _) (meets_dict_get_default (bh X.prog X.w) a (qu ry) hd r) ⟨_,dd.mapOf,h _ _ (I.tok _) ?_⟩;rw[l];exact(rel.val k).getD rd
 .subst ey;cases(show u=Value.ref b from ry);obtain⟨z,hd,xs,rel,dd⟩:=qR I.hok e;refine call_meetsIn slot_dict_get dd.typeIs PySem.F.entry_dict_get (PySem.F.args_dict_get_3 _ _ _) (meetsH_dict_get_default (tupleKind (bh X.prog X.w)) a b hd r) ⟨tupleKind_room_in1 hu,k,xs,nH I.hok eb,dd,h _ _ (I.tok _) ?_⟩;rw[l];exact(rel.val k).getD rd
end
def S5(td ty tx:TE):TE:=fun σ H Q=>td σ H fun x H1=>∃a,x=.ref a/\IsD H1 a/\ty σ H1 fun y H2=>tx σ H2 fun z H3=>∃o,mZ H3 a y o/\Q (o.getD z) H3
section
variable{X:Cx}{o e f:Expr}{apos cpos:Pos}{td ty tx:TE}
theorem Ho(hu:X.A.units+1<cLine)(ho:PE X o td)(he:PE X e ty)(hf:PE X f tx)(m:M2 X o "get" apos e f cpos):PE X (.Call (.Attribute o "get" apos) [e,f] [] cpos) (S5 td ty tx):=by intro pins s σ H Q I h;refine wpAny_Call_method m.base m.few m.line PySem.F.plainAttrs_dict slot_dict_get PySem.F.type_dict_get (bR (ho pins s σ H _ I h) fun u s1⟨x,H1,I1,rx,a,ex,d,q1⟩=>?_);subst ex;obtain rfl:u=Value.ref a:=rx;obtain⟨t1,t2,_⟩:=Ua I1 d;refine⟨t1,t2,?_⟩;rw[m.trees];refine Calls.callWith_builtin rfl (Calls.evalArgs_plain (Calls.spliced_cons (bR (he pins s1 σ H1 _ I1 q1) fun iv s2⟨y,H2,I2,ry,q2⟩=>Calls.spliced_cons (bR (hf pins s2 σ H2 _ I2 q2) fun fv s3⟨z,H3,I3,rz,ov,g,q3⟩=>Calls.spliced_nil ?_))));exact Qv hu I3 g ry rz fun w' s4 I4 vI=>⟨_,H3,I4,vI,q3⟩
end
end L2
namespace Att
open PySem PySem.W PySem.Calls PyProof.Rows
end Att
namespace L2
open PySem PySem.Spec PyProof.Rows
end L2
end
section
namespace HH
open PySem L2 PySem.Spec PyProof.Rows
variable{kvs:List (Int×D)}{es:List (Key×V)}{k:Int}{i:Nat}
inductive KR(K:PySem.W.Frag)(F:Hp):List (Int×D)->List (Key×V)->Prop where|nil:KR K F [] []|cons{k:Int}{d:D}{v:V}{kvs:List (Int×D)}{es:List (Key×V)}(h:Rep K F v d)(t:KR K F kvs es):KR K F ((k,d)::kvs) ((Sum.inl k,v)::es)
section
variable{K:PySem.W.Frag}{F F':Hp}
noncomputable def ent(ks:List Int)(vs:List V):List (Key×V):=(ks.zip vs).map fun p=>(Sum.inl p.1,p.2)
theorem KR.of:∀{kvs:List (Int×D)}{vs:List V},aG K F vs (kvs.map (·.2))->KR K F kvs (ent (kvs.map (·.1)) vs)|[],vs,h=>by rw[map_nil]at h;rw[h.fK];exact .nil|(k,d)::kvs,vs,h=>by obtain⟨v,r,rfl,h1,h2⟩:=h.cu;exact .cons h1 (KR.of h2)
theorem KR.to(h:KR K F kvs es):∃vs,es=ent (kvs.map (·.1)) vs/\aG K F vs (kvs.map (·.2)):=by induction h with|nil=>exact⟨[],rfl,.nil⟩|@cons k d v kvs es h t ih=>obtain⟨vs,rfl,r⟩:=ih;exact⟨v::vs,rfl,.cons h r⟩
theorem KR.oc(h:KR K F kvs es):kI K F (.dK es) (.v kvs):=by obtain⟨vs,rfl,r⟩:=h.to;exact⟨vs,rfl,r⟩
theorem KR.Uk{o:HO}(h:kI K F o (.v kvs)):∃es,o=.dK es/\KR K F kvs es:=by obtain⟨vs,rfl,r⟩:=h;exact⟨_,rfl,.of r⟩
theorem KR.len(h:KR K F kvs es):es.length=kvs.length:=by induction h with|nil=>rfl|cons h t ih=>simp[ih]
theorem KR.get{d:D}(h:KR K F kvs es)(e:lu kvs k=some d):∃v,jh es (Sum.inl k:Key)=some v/\Rep K F v d:=by induction h with|nil=>cases e|@cons j d' v kvs es h t ih=>
   unfold lu at e ih;rw[find?_cons]at e;by_cases c:j=k;.simp[c]at e;subst e;exact⟨v,mj (by rw[c]),h⟩
   .simp[c]at e;obtain⟨v',h1,h2⟩:=ih (by simpa using e);exact⟨v',by rw[mK (by simpa using c)];exact h1,h2⟩
theorem KR.any{kvs:List (Int×D)}{es:List (Key×V)}(k:Int)(h:KR K F kvs es):(es.any fun kv=>decide (kv.1=(Sum.inl k:Key)))=kvs.any fun p=>decide (p.1=k):=by induction h with|nil=>rfl|cons h t ih=>simp[ih]
theorem KR.has(k:Int)(h:KR K F kvs es):(jh es (Sum.inl k:Key)).isSome=(kvs.map (·.1)).contains k:=by rw[<-qt,h.any k];induction h with|nil=>rfl|@cons j d v kvs es h t ih=>rw[any_cons,ih,map_cons,List.contains_cons];congr 1;exact Bool.eq_iff_iff.mpr ⟨fun z=>by simp at z ⊢;exact z.symm,fun z=>by simp at z ⊢;exact z.symm⟩
theorem KR.repl{d:D}{v:V}(r:Rep K F v d)(h:KR K F kvs es):KR K F (kvs.map fun p=>if p.1=k then(p.1,d)else p) (es.map fun kv=>if kv.1=(Sum.inl k:Key)then(kv.1,v)else kv):=by induction h with|nil=>exact .nil|@cons j d' v' kvs es h t ih=>
   by_cases c:j=k;.subst c;simp;exact .cons r ih
   . have:¬(Sum.inl j:Key)=Sum.inl k:=by simpa using c
     simp[c,this];exact .cons h ih
theorem KR.snoc{d:D}{v:V}(r:Rep K F v d)(h:KR K F kvs es):KR K F (kvs++[(k,d)]) (es++[(Sum.inl k,v)]):=by induction h with|nil=>exact .cons r .nil|cons h t ih=>exact .cons h ih
theorem KR.put{d:D}{v:V}(r:Rep K F v d)(h:KR K F kvs es):KR K F (fM kvs k d) (putK es (Sum.inl k:Key) v):=by
 unfold fM putK;rw[h.any k];split;.exact h.repl r
 .exact h.snoc r
theorem KR.zip{ks:List Int}{ds:List D}{vs:List V}(h:aG K F vs ds)(hl:ks.length=ds.length):KR K F (ks.zip ds) (ent ks vs):=by induction ds generalizing ks vs with
 |nil=>rw[h.fK];cases ks with|nil=>exact .nil|cons _ _=>simp at hl
 |cons d ds ih=>obtain⟨v,r,rfl,h1,h2⟩:=h.cu;cases ks with|nil=>simp at hl|cons k ks=>exact .cons h1 (ih h2 (by simpa using hl))
end
section
variable{K:PySem.W.Frag}{F F1 H H1:Hp}{ρ ρ1 ρ2:List Sl}{σ σ1:L2.St}
theorem GS.aeO{x:Nat}{m m':Dc}{a:Addr}(g:GS K F ρ σ H)(e:ρ[x]?=some (.gH m))(hx:σ[x]?=some (some (.ref a))):aB K F ρ σ H F (ρ.set x (.gH m')) σ (upd H a m'.ho):=by
 have hi:x<ρ.length:=(dI e).1;have oa:aZ ρ σ x a:=⟨⟨_,_,e,rfl⟩,hx⟩;obtain⟨a',o0,h1,h2,h3,h4⟩:=g.own x _ _ e rfl;rw[hx]at h1;cases h1;have old:∀{j:Nat}{c:Addr},aZ (ρ.set x (.gH m')) σ j c->aZ ρ σ j c:=fun{j c}⟨⟨t,dt,q1,q2⟩,q3⟩=>by
  by_cases hj:j=x;.subst hj;exact⟨⟨_,_,e,rfl⟩,q3⟩
  .rw[eV hj]at q1;exact⟨⟨t,dt,q1,q2⟩,q3⟩
 refine⟨⟨fun c o q=>?_,by simp[g.len],fun j b' d q=>?_,fun j t dt q q'=>?_,fun j k c q1 q2=>g.dis j k c (old q1) (old q2)⟩,.refl _,fun c n n'=>absurd n n',fun c o q n=>?_,fun c⟨j,q⟩=>.inl ⟨j,old q⟩,by simp,fun j t q l=>⟨rfl,?_⟩⟩
 . have:c≠a:=by rintro rfl;rw[h3]at q;cases q
   rw[aC this];exact g.sub c o q
 . by_cases hj:j=x;.subst hj;rw[getElem?_set_self hi]at q;cases q
   .rw[eV hj]at q;exact g.val j b' d q
 . by_cases hj:j=x;.subst hj;rw[getElem?_set_self hi]at q;cases q;cases q';exact⟨a,_,hx,aM,h3,rfl⟩
   . rw[eV hj]at q;obtain⟨c,zs,w1,w2,w3,w4⟩:=g.own j t dt q q';have:c≠a:=by rintro rfl;exact hj (g.dis j x c ⟨⟨t,dt,q,q'⟩,w1⟩ oa)
     exact⟨c,zs,w1,by rw[aC this];exact w2,w3,w4⟩
 . have:c≠a:=by rintro rfl;exact n ⟨x,oa⟩
   rw[aC this];exact q
 . by_cases hj:j=x;.subst hj;rw[e]at q;cases q;cases l
   .exact⟨t,by rw[eV hj];exact q,.refl t⟩
theorem GS.newD{m:Dc}{a:Addr}(g:GS K F ρ σ H)(e:ρ[i]?=some .aO)(ha:H a=none):aB K F ρ σ H F (ρ.set i (.gH m)) (σ.set i (some (.ref a))) (upd H a m.ho):=by
 have hi:i<ρ.length:=(dI e).1;have hi':i<σ.length:=by rw[<-g.len];exact hi
 have fa:F a=none:=by cases q:F a with|none=>rfl|some o=>rw[g.sub a o q]at ha;cases ha
 have old:∀{j:Nat}{c:Addr},j≠i->aZ (ρ.set i (.gH m)) (σ.set i (some (.ref a))) j c->aZ ρ σ j c:=fun{j c}hj⟨⟨t,ds,e1,e2⟩,e3⟩=>by rw[eV hj]at e1 e3;exact⟨⟨t,ds,e1,e2⟩,e3⟩
 have new:∀{c:Addr},aZ (ρ.set i (.gH m)) (σ.set i (some (.ref a))) i c->c=a:=fun{c}⟨_,e3⟩=>by rw[getElem?_set_self hi']at e3;cases e3;rfl
 have no:∀{j:Nat},¬ aZ ρ σ j a:=fun{j}⟨⟨t,ds,e1,e2⟩,e3⟩=>by obtain⟨c,o,q1,q2,_⟩:=g.own j t ds e1 e2;rw[e3]at q1;cases q1;rw[ha]at q2;cases q2
 refine⟨⟨fun c o q=>?_,by simp[g.len],fun j b' d q=>?_,fun j t dt q q'=>?_,fun j k c q1 q2=>?_⟩,.refl _,fun c n n'=>absurd n n',fun c o q n=>?_,fun c⟨j,q⟩=>?_,by simp,fun j t q l=>?_⟩
 . have:c≠a:=by rintro rfl;rw[fa]at q;cases q
   rw[aC this];exact g.sub c o q
 . by_cases hj:j=i;.subst hj;rw[getElem?_set_self hi]at q;cases q
   .rw[eV hj]at q ⊢;exact g.val j b' d q
 . by_cases hj:j=i;.subst hj;rw[getElem?_set_self hi]at q;cases q;cases q';exact⟨a,_,getElem?_set_self hi',aM,fa,rfl⟩
   . rw[eV hj]at q ⊢;obtain⟨c,o,w1,w2,w3,w4⟩:=g.own j t dt q q';have:c≠a:=by rintro rfl;rw[ha]at w2;cases w2
     exact⟨c,o,w1,by rw[aC this];exact w2,w3,w4⟩
 . by_cases hj:j=i
   . by_cases hk:k=i;.rw[hj,hk]
     .subst hj;rw[new q1]at q2;exact absurd (old hk q2) no
   . by_cases hk:k=i;.subst hk;rw[new q2]at q1;exact absurd (old hj q1) no
     .exact g.dis j k c (old hj q1) (old hk q2)
 . have:c≠a:=by rintro rfl;rw[ha]at q;cases q
   rw[aC this];exact q
 . by_cases hj:j=i;.subst hj;rw[new q];exact .inr ha
   .exact .inl ⟨j,old hj q⟩
 . have hj:j≠i:=by rintro rfl;rw[e]at q;cases q;cases l
   exact⟨by rw[eV hj],t,by rw[eV hj];exact q,.refl t⟩
end
noncomputable def rR(p:Int×Int):Key×V:=(Sum.inl p.1,V.int p.2)
theorem Jg(i:Int):∀kvs:List (Int×Int),jh (kvs.map rR) (Sum.inl i:Key)=((kvs.find? fun kv=>decide (kv.1=i)).map (·.2)).map V.int
 |[]=>rfl|p::kvs=>by
   have ih:=Jg i kvs;unfold jh at ih ⊢;rw[map_cons,find?_cons,find?_cons];by_cases h:p.1=i
   . have e:decide ((rR p).1=(Sum.inl i:Key))=true:=by simp[rR,h]
     rw[e];simp[h,rR]
   . have e:decide ((rR p).1=(Sum.inl i:Key))=false:=by simp[rR,h]
     rw[e];simp only[h,decide_false];exact ih
theorem Qx(i v:Int)(kvs:List (Int×Int)):putK (kvs.map rR) (Sum.inl i:Key) (V.int v)=(putD kvs i v).map rR:=by
 have e:((kvs.map rR).any fun kv=>decide (kv.1=(Sum.inl i:Key)))=kvs.any fun kv=>decide (kv.1=i):=by rw[List.any_map];congr 1;funext p;simp[rR]
 unfold putK putD;rw[e];split
 . rw[map_map,map_map];refine map_congr_left fun p _=>?_;by_cases h:p.1=i;.simp[rR,h]
   .simp[rR,h]
 .rw[map_append];rfl
section
variable{X:Cx}{c:Call}{n:Nat}{a b e:Expr}{pa pb p:P}{pos:Pos}
theorem Iu{H:Hp}{q:Addr}{m:Dc}{i:Int}{o:Option Int}(h:Rd H q m.ho)(e:m.get (.int i)=some o):mZ H q (.int i) (o.map V.int):=by cases m with|k kvs=>cases e;exact .inl ⟨kvs.map rR,Sum.inl i,h,rfl,(Jg i kvs).symm⟩|t kvs=>cases e
theorem pJ(hu:X.A.units+8<cLine)(ha:SX X c a pa)(hb:SX X c b pb)(hs:Lk b):SX X c (.Subscript a b pos) (.bin .zQ pa pb):=by refine uN (f:=Bj) (fun h1 h2=>?_) ha hb (fun ρ=>rfl) rfl;intro pins s σ H Q I h;refine Aq PySem.F.slot_dict_getitem.lookup hs (bR (h1 pins s σ H _ I h) fun u s1⟨x,H1,I1,rx,q1⟩=>bR (h2 pins s1 σ H1 _ I1 q1) fun iv s2⟨y,H2,I2,ry,q2⟩=>?_);obtain⟨F,d,e,r,sm,px,py,he,k⟩:=q2;cases d with
 |dU m=>have zz:=bV (show(m.get e).bind (fun o=>o.map fun v=>R.val (.int v))=some r from he);clear he;obtain⟨o,e1,he⟩:=zz;cases o with|none=>cases he|some v=>
     cases he;obtain⟨i,rfl⟩:∃i,e=.int i:=by cases m with|t kvs=>cases e<;>cases e1|k kvs=>cases e<;>first|exact⟨_,rfl⟩|cases e1
     obtain⟨q,ob,rfl,hq⟩:=px.dU sm;rw[py.int]at ry;obtain rfl:u=Value.ref q:=rx;have g:=Iu (.inr ⟨ob,hq⟩) e1;exact⟨jz I2 g,m7 (by omega) I2 g ry fun w' s3 I3 vI=>⟨.int v,H2,I3,vI,cg.cV sm (bN _) k⟩⟩
 |dv ks ds=>cases e with|int j=>obtain⟨d',e5,he⟩:=map_some (show(lu (ks.zip ds) j).map R.val=some r from he);subst he;obtain⟨q,ob,vs,rfl,hq,rs,hl⟩:=px.dv sm;obtain⟨v',g1,g2⟩:=(KR.zip rs hl).get e5;rw[py.int]at ry;obtain rfl:u=Value.ref q:=rx;have g:mZ H2 q (.int j) (some v'):=.inl ⟨_,Sum.inl j,.inr ⟨ob,hq⟩,rfl,g1.symm⟩;exact⟨jz I2 g,m7 (by omega) I2 g ry fun w' s3 I3 vI=>⟨v',H2,I3,vI,cg.cV sm g2 k⟩⟩|_=>cases he
 |_=>cases he
theorem LK{x:Str}{pos' p2:Pos}(hN:X.N.Nodup)(hi:X.N[i]?=some x)(hx:Loc X.env.scope x)(hs:swapsWith (.Dict [] [] p2) (some (.Name x pos')) pos.line X.env=pure false:=by rfl)(hf:X.fn x=true\/X.env.scope.names.lookup x=some .local:=by first|exact .inl rfl|exact .inr rfl|assumption):SS X c n (.Assign [.Name x pos'] (.Dict [] [] p2) pos) (.JH i false):=by
 refine dD (uE hN hi hx wM hs hf) ?_;rintro D σ H⟨F,ρ,fl,ρ',g,e,k⟩;rw[HH.X18]at e;split at e;.rename_i q;cases e;exact fun a ha=>k F _ _ (g.newD (m:=.k []) q ha)
 .cases e
theorem Uj{x:Str}{px apos cpos:Pos}{pk pd:P}(hu:X.A.units+8<cLine)(hN:X.N[i]?=some x)(hv:xg X.env.scope x)(ha:SX X c a pk)(hb:SX X c b pd)(m:M2 X (.Name x px) "get" apos a b cpos)(hd:(x==("__debug__":Str))=false:=by decide)(hcd:(x==("__classdict__":Str))=false:=by decide):SX X c (.Call (.Attribute (.Name x px) "get" apos) [a,b] [] cpos) (.WD i pk pd):=by
 obtain⟨ta,h1,h2⟩:=ha.cC;obtain⟨tb,h3,h4⟩:=hb.cC;refine⟨dB (Ho (by omega) (fH hN hv hd hcd) h1 h3 m) ?_,fun i h=>by cases h⟩;rintro σ H Q⟨F,ρ,r,ρ',g,e,k⟩;rw[HH.E24]at e;split at e
 . rename_i m0 q;obtain⟨kd,ρ1,e1,eA⟩:=aj e;clear e;obtain⟨dd,ρ2,e2,eB⟩:=aj eA;clear eA;obtain⟨a0,o0,w1,w2,w3,w4⟩:=g.own i _ _ q rfl;refine⟨.ref a0,w1,a0,rfl,?_,?_⟩;.cases(show o0=m0.ho from w4);cases m0 with|k kvs=>exact .inl ⟨_,.inl w2⟩|t kvs=>exact .inr ⟨_,.inl w2⟩
   . refine h2 g e1 fun v F1 H1 s1 pv=>h4 s1.gs e2 fun z F2 H2 s2 pz=>?_;split at eB
     . rename_i m1 q1;obtain⟨eC,e3⟩:=aD eB;clear eB;subst e3;obtain⟨o,e4,eD⟩:=bV eC;clear eC;obtain⟨w,e5,e6⟩:=map_some eD;subst e6;obtain⟨a1,o1,y1,y2,y3,y4⟩:=s2.gs.own i _ _ q1 rfl;rw[w1]at y1;cases y1;cases(show o1=m1.ho from y4);obtain⟨j,rfl⟩:∃j,kd=.int j:=by cases m1 with|t kvs=>cases kd<;>cases e4|k kvs=>cases kd<;>first|exact⟨_,rfl⟩|cases e4
       rw[cQ e5]at pz;rw[pv.int,pz.int];refine⟨o.map V.int,Iu (.inl y2) e4,?_⟩;have:(o.map V.int).getD (V.int w)=V.int (o.getD w):=by cases o<;>rfl
       rw[this];exact k _ F2 H2 (s1.trans s2) (show Rep X.K F2 _ _ from bN _)
     .cases eB
 .cases e
theorem Kz{x:Str}{px pos':Pos}{pk:P}(hu:X.A.units+8<cLine)(hN:X.N[i]?=some x)(hv:xg X.env.scope x)(ha:SX X c a pk)(he:SX X c e p)(hs:swapsWith e (some (.Subscript (.Name x px) a pos')) pos.line X.env=pure false:=by rfl)(hd:(x==("__debug__":Str))=false:=by decide)(hcd:(x==("__classdict__":Str))=false:=by decide):SS X c n (.Assign [.Subscript (.Name x px) a pos'] e pos) (.dput i pk p):=by
 obtain⟨ta,h1,h2⟩:=ha.cC;refine dD (Ce (by omega) (fH hN hv hd hcd) h1 he.ev hs) ?_;rintro D σ H⟨F,ρ,fl,ρ',g,e,k⟩;rw[HH.X19]at e;obtain⟨r,ρ1,e1,eA⟩:=aj e;clear e;refine⟨F,ρ,r,ρ1,g,e1,fun v F1 H1 s1 rr=>?_⟩;split at eA
 . rename_i m0 q0;obtain⟨kd,ρ2,e2,eB⟩:=aj eA;clear eA;obtain⟨a0,o0,w1,w2,w3,w4⟩:=s1.gs.own i _ _ q0 rfl;refine⟨.ref a0,w1,h2 s1.gs e2 fun y F2 H2 s2 py=>?_⟩;split at eB
   . rename_i m w q;split at eB;.rename_i m' e4;cases eB;obtain⟨a1,o1,y1,y2,y3,y4⟩:=s2.gs.own i _ _ q rfl;rw[w1]at y1;cases y1;cases(show o1=m.ho from y4);cases(show v=.int w by have:Rep X.K F1 v (.int w):=rr;rwa[Rep]at this);refine⟨a0,upd H2 a0 m'.ho,rfl,?_,k F2 σ _ ((s1.trans s2).trans (s2.gs.aeO q w1))⟩;cases m with|t kvs=>cases kd<;>cases e4|k kvs=>cases kd with|int j=>obtain⟨hl,e4⟩:=bF (show(if kvs.length<lim then some (Dc.k (putD kvs j w))else none)=some m' from e4);subst e4;rw[py.int];refine .inl ⟨kvs.map rR,Sum.inl j,y2,rfl,by rw[length_map,sizeLine_eq];exact hl,?_⟩;rw[Qx];rfl|_=>cases e4
     .cases eB
   .cases eB
 .cases eA
end
end HH
end
section
namespace L2
open PySem PySem.Spec PyProof.Rows
noncomputable def Itk(a:Addr)(ob:Obj)(kvs:List (Key×V)):It:=⟨fun i H=>H a=some (.cX ob (.dK kvs))/\i<kvs.length,fun i H x H'=>H'=H/\∃p,kvs[i]?=some p/\x=kV p.1,fun i H=>H a=some (.cX ob (.dK kvs))/\kvs.length<=i⟩
theorem KV.get:∀{κ:Type}{kvs:List (κ×V)}{vs:List (κ×Value)}{i:Nat}{p:κ×V},KV kvs vs->kvs[i]?=some p->∃v,vs[i]?=some (p.1,v)|_,_,_,_,_,.nil,e=>by simp at e|_,_,_,0,_,.cons r _,e=>by simp at e;subst e;exact⟨_,by rw[List.getElem?_cons_zero,r.1]⟩|_,_,_,i+1,p,.cons _ t,e=>by obtain⟨v,h⟩:=KV.get (i:=i) (p:=p) t (by simpa using e);exact⟨v,by simpa using h⟩
theorem tH{X:Cx}{pins:List (Addr×Obj)}{σ:St}{H:Hp}{s:Shared}{a:Addr}{ob:Obj}{kvs:List (Key×V)}{es:Array DictEntry}{ep:Nat}(I:Inv X pins σ H s)(h:H a=some (.cX ob (.dK kvs)))(hd:ob.data=.dict es ep):(a==sysModules)=false/\∃vs,KV kvs vs/\s.heap.DictAt (bh X.prog X.w) a vs ep:=by obtain⟨ho,hz,hS,vs,r,dd⟩:=(show bI X.prog X.w H s.heap a (.cX ob (.dK kvs))from I.hok a _ h);obtain⟨o,es',ep',h1,h2,h3,h4⟩:=dd;rw[ho]at h1;cases h1;rw[hd]at h3;cases h3;exact⟨hS,vs,r,⟨ob,es,ho,h2,hd,h4⟩⟩
theorem Rz{P:Program}{w:World}{k:Key}{u:Value}(h:(bh P w).is k u=true):RelV (kV k) u:=by
 rcases bJ h with⟨i,t,rfl,rfl⟩|⟨x,t,rfl,rfl⟩;.exact⟨t,rfl⟩
 .exact⟨t,rfl⟩
theorem Dh{P:Program}{w:World}{K:PySem.W.Frag}{tg:Expr}(a it:Addr)(ob:Obj)(kvs:List (Key×V))(es:Array DictEntry)(ep:Nat)(hd:ob.data=.dict es ep):Turn P w K tg (Itk a ob kvs) [it] it (fun i h=>h.IsKeyIter it a i kvs.length ep)where
 mem:=by simp
 obj:=fun i h st b hb=>by
  have e:b=it:=by simpa using hb
  subst e;obtain⟨o,e,c,d⟩:=st;exact⟨o,e,fun v z=>by rw[d]at z;cases z⟩
 keep:=fun i h h' st k=>st.at fun o e=>k it (by simp) o e;item:=by intro X hP hw hK hc i pins s σ H E I hf st hg;subst hP hw hK;obtain⟨hq,hi⟩:=hg;obtain⟨hS,vs,r,dd⟩:=tH I hq hd;have hl:vs.length=kvs.length:=(Paired.length r).symm;obtain⟨v,hx⟩:=KV.get r (show kvs[i]?=some kvs[i]by simp[hi]);obtain⟨f0,f1,f2,f3,f4,f5⟩:=hf it (by simp);refine wpAny_pyNext_dict_item (by rw[hl];exact st) dd hx fun u h' hu st' sb=>?_;have I1:Inv X pins σ H {s with heap:=h'}:=I.turned (t':=s.toks) (fun b o hb e=>(sb.2 b hb).trans e) f0 f1 f3 f4 f5;rw[hl]at st';obtain⟨o,e,c,d⟩:=id st';exact⟨u,rfl,Cr (s:={s with heap:=h'}) e c d (by decide) ⟨_,H,I1,Rz hu,⟨rfl,_,by simp[hi],rfl⟩,st',fun b hb=>(hf b hb).1⟩⟩
 done:=by intro X hP hw hK hc i pins s σ H E I hf st hg;subst hP hw hK;obtain⟨hq,hi⟩:=hg;obtain⟨hS,vs,r,dd⟩:=tH I hq hd;have hl:vs.length=kvs.length:=(Paired.length r).symm;obtain⟨f0,f1,f2,f3,f4,f5⟩:=hf it (by simp);refine wpAny_pyNext_dict_end (I.ok.hd hc) (by rw[hl];exact st) dd (by simp[hl,hi]) fun h' he=>⟨rfl,?_⟩;exact I.turned (t':=s.toks) (fun b o hb e=>he b o hb e) f0 f1 f3 f4 f5
 self:=fun A i s Q E st hQ=>wpAny_pyIter_keyiter st hQ
section
variable{X:Cx}{tg:Expr}
theorem MF{l:Expr}{tl:TE}(hl:PE X l tl):PI X tg l (fun σ H R=>tl σ H fun x H1=>∃a ob kvs,x=.ref a/\H1 a=some (.cX ob (.dK kvs))/\R (Itk a ob kvs) H1):=by
 intro pins s σ H R I h;refine bR (hl pins s σ H _ I h) ?_;rintro v s1⟨x,H1,I1,r1,a,ob,kvs,e,hq,q⟩;subst e;cases r1;obtain⟨ho,hz,hS,vs,r,dd⟩:=(show bI X.prog X.w H1 s1.heap a (.cX ob (.dK kvs))from I1.hok a _ hq);obtain⟨o,es,ep,h1,h2,h3,h4⟩:=id dd;rw[ho]at h1;cases h1;have hlen:vs.length=kvs.length:=(Paired.length r).symm;refine wpAny_pyIter_dict (knd:=bh X.prog X.w) (kvs:=vs) (ep:=ep) hS ⟨ob,es,ho,h2,h3,h4⟩ ?_;refine⟨s1.heap.objs.size,[s1.heap.objs.size],_,_,H1,rfl,I1.kept (t':=s1.toks) fun b o e=>dC e,Dh a _ ob kvs es ep h3,⟨_,get?_push_size _ rfl,rfl,by rw[hlen];rfl⟩,fun b hb=>?_,q⟩;have e:b=s1.heap.objs.size:=by simpa using hb
 subst e;exact I1.yw (dh) (I1.hok.fresh (dh))
end
end L2
namespace HH
open PySem L2 PySem.Spec PyProof.Rows
section
variable{X:Cx}{c:Call}{tg e:Expr}{p:P}
theorem Ml{ks:List Int}{es:List (Key×V)}{j:Nat}{p:Key×V}{i:Int}(h:es.map (·.1)=ks.map (Sum.inl:Int->Key))(e1:es[j]?=some p)(e2:ks[j]?=some i):p.1=Sum.inl i:=by
 have:(es.map (·.1))[j]?=(ks.map (Sum.inl:Int->Key))[j]?:=by rw[h]
 rw[getElem?_map,getElem?_map,e1,e2]at this;exact Option.some.inj this
theorem qN:∀{ks:List Int}{vs:List V},ks.length=vs.length->(ent ks vs).map (·.1)=ks.map (Sum.inl:Int->Key)|[],[],_=>rfl|k::ks,v::vs,h=>by have:=qN (ks:=ks) (vs:=vs) (by simpa using h);unfold ent at this ⊢;simpa using this|[],_::_,h=>by simp at h|_::_,[],h=>by simp at h
theorem Mi(h:SX X c e p):SI X c tg e (.blt .keys [p]):=by
 unfold SI;obtain⟨ta,h1,h2⟩:=h.cC;refine kE (MF h1) ?_;rintro σ H R⟨F,ρ,ds,ρ1,g,eA,k⟩;obtain⟨r,ρ2,eB,eC⟩:=aj (show((HH.ev c (.blt .keys [p]) ρ).bind fun r ρ=>lift (items r.d) ρ)=.ok ds ρ1 from eA);obtain⟨eD,e3⟩:=aD eC;subst e3;rw[HH.E17]at eB;obtain⟨d,ρ3,e1,eE⟩:=aj eB;obtain⟨eF,e4⟩:=aD eE;subst e4;refine h2 g e1 fun v F' H' s pv=>?_;have hd:∃(ks:List Int)(es:List (Key×V))(a:Addr)(ob:Obj),ds=ks.map D.int/\v=.ref a/\H' a=some (.cX ob (.dK es))/\es.map (·.1)=ks.map (Sum.inl:Int->Key):=by cases d with
  |dU m=>cases m with|k kvs=>cases eF;cases eD;obtain⟨a,ob,rfl,hq⟩:=pv.dU s.gs.sub;exact⟨kvs.map (·.1),kvs.map rR,a,ob,by rw[map_map];rfl,rfl,hq,by rw[map_map,map_map];rfl⟩|t kvs=>cases eF
  |dv ks ds'=>cases eF;cases eD;obtain⟨a,ob,vs,rfl,hq,rs,hl⟩:=pv.dv s.gs.sub;exact⟨ks,ent ks vs,a,ob,rfl,rfl,hq,qN (by rw[rs.length];exact hl)⟩|_=>cases eF
 obtain⟨ks,es,a,ob,rfl,rfl,hq,hes⟩:=hd;have hle:es.length=ks.length:=by have:=congrArg List.length hes;simpa using this
 refine⟨a,ob,es,rfl,hq,k _ F' H' ⟨s.gs,fun n j F2 ρ2 σ2 H2 s2=>?_,fun F2 ρ2 σ2 H2 s2=>⟨s.trans s2,fun v r rr=>rr.later s⟩⟩⟩;have gm:=s.gs.more (n:=n) (τ:=replicate n none) (by simp);have hq2:=s2.keep a _ hq fun⟨j,⟨t,dt,q1,q2⟩,q3⟩=>by obtain⟨a',o',z1,z2,z3,z4⟩:=gm.own j t dt q1 q2;rw[q3]at z1;cases z1;rw[hq]at z2;cases z2;cases dt with|l ds=>obtain⟨xs,z,_⟩:=z4;cases z|d m=>cases m<;>cases z4|v kvs=>obtain⟨xs,z,_⟩:=z4;cases z
 refine⟨fun d hd=>?_,fun hj=>⟨hq2,by rw[hle];simpa using hj⟩⟩;have hj:j<ks.length:=by have:=(dI hd).1;simpa using this
 refine⟨⟨hq2,by omega⟩,fun x kh⟨e5,q,e6,e7⟩=>?_⟩;subst e5;refine⟨F2,.refl s2.gs.sub,?_⟩;rw[getElem?_map]at hd;obtain⟨i,e8,e9⟩:=map_some hd;rw[e7,Ml hes e6 e8,<-e9];exact bN _
end
end HH
end
section
namespace HH
open PySem L2 PySem.Spec PyProof.Rows PySem.Calls PySem.W
section
variable{X:Cx}{c:Call}{a:Expr}{pa:P}{pos:Pos}
theorem lO:∀{ns:List Int}{us:List Value},IntsAre us ns->Vals (ns.map V.int) us|_,_,.nil=>.nil|_,_,.cons n t r=>.cons ⟨t,rfl⟩ (lO r)
theorem tY{K:PySem.W.Frag}{F:Hp}:∀ns:List Int,aG K F (ns.map V.int) (ns.map D.int)|[]=>.nil|n::ns=>.cons (bN n) (tY ns)
end
end HH
end
section
namespace HH
open PySem L2 PySem.Spec PyProof.Rows
theorem Inv.aeB{X:Cx}{pins:List (Addr×Obj)}{σ:L2.St}{H:Hp}{s:Shared}{a:Addr}{kvs:List (List Key×V)}(I:L2.Inv X pins σ H s)(h:H a=some (.dT kvs)):∃o,L2.Inv X pins σ (upd H a (.cX o (.dT kvs))) s:=by obtain⟨z,y,xs,r,o,es,ep,h1,h2,h3,h4,h5⟩:=(show bI X.prog X.w H s.heap a (.dT kvs)from I.hok a _ h);refine⟨o,I.write (h':=s.heap) (t':=s.toks) (by rw[h];exact trivial) (.inl rfl) (fun b u _ e=>e) ⟨o,h1⟩ ⟨h1,z,y,xs,KT.keeps r fun b ys q=>?_,o,es,ep,h1,h2,h3,h4,h5⟩⟩;rw[aC (by rintro rfl;rw[h]at q;cases q)];exact q
section
variable{X:Cx}{c:Call}{n:Nat}{a b e:Expr}{p pa pb:P}{pos:Pos}{es:List Expr}{ps:List P}{x1:Nat}{tpos:Pos}
theorem qy{i:Nat}{x:Str}{px:Pos}(hN:X.N[i]?=some x)(hv:xg X.env.scope x)(hd:(x==("__debug__":Str))=false:=by decide)(hcd:(x==("__classdict__":Str))=false:=by decide):SX X c (.Name x px) (.vw i):=by
 have h:=fH (X:=X) (pos:=px) hN hv hd hcd;refine⟨?_,fun i h=>by cases h⟩;rintro pins s σ H Q I⟨F,ρ,r,ρ',g,e,k⟩;rw[HH.E25]at e;split at e
 . rename_i m q;cases e;obtain⟨a,h1,h2,h3⟩:=g.Bs q;refine bR (h pins s σ H (fun v H'=>v=.ref a/\H'=H) I ⟨.ref a,h1,rfl,rfl⟩) fun u s1⟨v,H1,I1,r1,e1,e2⟩=>?_;subst e1 e2;have zz:∃o,L2.Inv X pins σ (upd H1 a (.cX o m.ho)) s1:=by cases m with|k kvs=>exact Inv.Hw I1 h2|t kvs=>exact Inv.aeB I1 h2
   obtain⟨o,I2⟩:=zz;exact⟨.ref a,_,I2,r1,k _ _ _ (h3 o).1 (h3 o).2⟩
 .rename_i kvs q;cases e;obtain⟨a,vs,h1,h2,h3⟩:=g.Ag q;refine bR (h pins s σ H (fun v H'=>v=.ref a/\H'=H) I ⟨.ref a,h1,rfl,rfl⟩) fun u s1⟨v,H1,I1,r1,e1,e2⟩=>?_;subst e1 e2;obtain⟨o,I2⟩:=Inv.Hw I1 h2;exact⟨.ref a,_,I2,r1,k _ _ _ (h3 o).1 (h3 o).2⟩
 .rename_i b ds q;cases e;obtain⟨v,F',h1,h2,h3⟩:=g.freeze q;exact h pins s σ H Q I ⟨v,h1,k v F' H h2 h3⟩
 .rename_i b d q;cases e;obtain⟨v,h1,h2⟩:=g.val i b d q;exact h pins s σ H Q I ⟨v,h1,k v F H (.refl g) h2⟩
 .cases e
end
end HH
end
section
namespace HH
open PySem L2 PySem.Spec PyProof.Rows
section
variable{K:PySem.W.Frag}{F H F' H':Hp}{ρ ρ':List Sl}{σ σ':L2.St}
def Kp(ρ:List Sl)(σ:L2.St)(H:Hp)(a:Addr)(o:HO):Prop:=H a=some o/\¬ Own ρ σ a
theorem Kp.stp{a:Addr}{o:HO}(h:Kp ρ σ H a o)(s:aB K F ρ σ H F' ρ' σ' H'):Kp ρ' σ' H' a o:=⟨s.keep a o h.1 h.2,fun z=>(s.vN a z).elim h.2 fun e=>by rw[h.1]at e;cases e⟩
structure Wt(K:PySem.W.Frag)(F:Hp)(ρ:List Sl)(σ:L2.St)(H:Hp)(a:Addr)(ds:List D):Prop where
 ex:∃xs,Kp ρ σ H a (.lst xs)/\aG K F xs ds
 fr:F a=none
theorem Wt.stp{a:Addr}{ds:List D}(h:Wt K F ρ σ H a ds)(s:aB K F ρ σ H F' ρ' σ' H'):Wt K F' ρ' σ' H' a ds:=by obtain⟨⟨xs,h1,h2⟩,h3⟩:=h;refine⟨⟨xs,h1.stp s,h2.mono s.bO⟩,?_⟩;cases q:F' a with|none=>rfl|some o=>
   rcases s.xV a h3 (by rw[q];simp)with z|z;.exact absurd z h1.2
   .rw[h1.1]at z;cases z
end
end HH
end
section
namespace HH
open PySem L2 PySem.Spec PyProof.Rows
section
variable{X:Cx}{c:Call}{n:Nat}{e a b d elt tg:Expr}{p pa pb pe:P}{pos:Pos}{elts:List Expr}{x1:Nat}{tp:Pos}
def UG(K:PySem.W.Frag)(i:Nat)(f:Ev):TI:=fun σ H R=>∃F ρ ds ρb ρ1,GS K F ρ σ H/\Gv i f ρ=.ok (ds,ρb) ρ1/\∀J F1 H1,Walk K F ρ σ H (aW ρb (some i)) J ds F1 ρ1 H1->R J H1
theorem pQ{x:Str}{p':Pos}{i:Nat}(hx:x="zip")(hg:Gl X x)(hm:X.mg x=none)(hv:isVar pb=some i)(ha:SX X c a pa)(hb:SX X c b pb)(hs:starEach [a,b] X.env=[(false,eval a X.env),(false,eval b X.env)]:=by rfl)(hs2:starEach [b] X.env=[(false,eval b X.env)]:=by rfl):PI X (.Tuple elts x1 tp) (.Call (.Name x p') [a,b] [] pos) (UG X.K i (HH.ev c pa)):=by
 subst hx;refine kE (Hr hg hm (bK ha.ev (bK (hb.var i hv) dH hs2) (by rw[hs,hs2])) hs hs2) ?_;rintro σ H R⟨F,ρ,ds,ρb,ρ1,g,e,k⟩;obtain⟨r,ρ2,e1,e⟩:=aj e;obtain⟨es,ρ3,e2,e⟩:=aj e;have zz:=aD e2;clear e2;obtain⟨e2,e3⟩:=zz;subst e3;refine⟨F,ρ,r,ρ2,g,e1,fun u F' H' s rr=>?_⟩;obtain⟨F2,s2,_,ru⟩:=s.cX rr;obtain⟨t2,a2,ys,rfl,q2,r2⟩:=uG ru e2;split at e;.rename_i bb d' q;obtain⟨ds',ρ4,e4,e⟩:=aj e;have zz:=aD e4;clear e4;obtain⟨e4,e5⟩:=zz;subst e5;cases e;obtain⟨v',h1,rv⟩:=s2.gs.val i bb d' q;obtain⟨t1,a1,xs,rfl,q1,r1⟩:=uG rv e4;refine⟨_,h1,t2,t1,a2,a1,rfl,⟨ys,aF.sq s2.gs.sub q2⟩,⟨xs,aF.sq s2.gs.sub q1⟩,k _ _ _ ⟨s2.gs,fun n k F' ρ' σ' H' s'=>pM (aF.sq s'.gs.sub (aF.sq s'.bO q2)) (aF.sq s'.gs.sub (aF.sq s'.bO q1)) (r2.mono s'.bO) (r1.mono s'.bO) s'.gs.sub k,fun F3 ρ3 σ3 H3 s3=>?_⟩⟩;unfold aW;dsimp only;rw[q];exact⟨s2.trans s3,fun v r rr=>rr.later s2⟩
 . rename_i bb ds' q;cases e;have hi:i<ρb.length:=(dI q).1;have gl:=s2.gs.lend q;have ql:(ρb.set i (.lent ds'))[i]?=some (.lent ds'):=getElem?_set_self hi;obtain⟨a1,xs,h1,w2,w3,w4⟩:=gl.mz i _ ds' ql rfl;refine⟨_,h1,t2,false,a2,a1,rfl,⟨ys,aF.sq s2.gs.sub q2⟩,⟨xs,dX.of w2⟩,k _ _ _ ⟨gl,fun n k F' ρ' σ' H' s'=>?_,fun F3 ρ3 σ3 H3 s3=>?_⟩⟩;.obtain⟨z1,t,z2,z3⟩:=s'.lk i _ (by rw[getElem?_append_left (by simpa using hi)];exact ql) rfl;cases(show t=.lent ds' from z3);rw[getElem?_append_left (by rw[<-gl.len];simpa using hi),h1]at z1;obtain⟨a',ys',u1,u2,u3,u4⟩:=s'.gs.mz i _ ds' z2 rfl;rw[z1]at u1;cases u1;exact pM (aF.sq s'.gs.sub (aF.sq s'.bO q2)) (show Sq false X.K H' a1 ys' from dX.of u2) (r2.mono s'.bO) u4 s'.gs.sub k
   .unfold aW;dsimp only;rw[q];obtain⟨y1,y2⟩:=aB.aW s2.gs q s3;exact⟨s2.trans y1,fun v r rr=>(y2 v r rr).later s2⟩
 . rename_i ds' q;cases e;have hi:i<ρb.length:=(dI q).1;obtain⟨a1,xs,h1,w2,w3,w4⟩:=s2.gs.mz i _ ds' q rfl;refine⟨_,h1,t2,false,a2,a1,rfl,⟨ys,aF.sq s2.gs.sub q2⟩,⟨xs,dX.of w2⟩,k _ _ _ ⟨s2.gs,fun n k F' ρ' σ' H' s'=>?_,fun F3 ρ3 σ3 H3 s3=>?_⟩⟩;.obtain⟨z1,t,z2,z3⟩:=s'.lk i _ (by rw[getElem?_append_left hi];exact q) rfl;cases(show t=.lent ds' from z3);rw[getElem?_append_left (by rw[<-s2.gs.len];exact hi),h1]at z1;obtain⟨a',ys',u1,u2,u3,u4⟩:=s'.gs.mz i _ ds' z2 rfl;rw[z1]at u1;cases u1;exact pM (aF.sq s'.gs.sub (aF.sq s'.bO q2)) (show Sq false X.K H' a1 ys' from dX.of u2) (r2.mono s'.bO) u4 s'.gs.sub k
   .unfold aW;dsimp only;rw[q];exact⟨s2.trans s3,fun v r rr=>rr.later s2⟩
 .cases e
variable{scope:Scope}{N':List Str}{ifs:List Expr}{iter:Expr}
theorem wQ{g:TG}{i:Nat}{is:List Nat}{one:Bool}{t:Option P}(hc:X.calm=true)(ok:dY X scope N' n)(hi:PI X tg iter (UG X.K i (HH.ev c pb)))(hg:∀cl C s₀ H₀ ex,PG (ou X scope N' cl C s₀ H₀ ex) tg g)(hgo:kO X.K X.N.length is one g)(ht:∀cl C s₀ H₀ ex,SQ (ou X scope N' cl C s₀ H₀ ex) c ifs t)(he:∀cl C s₀ H₀ ex,SX (ou X scope N' cl C s₀ H₀ ex) c elt pe)(hs:∀x,foldedSetIterable iter X.env x=pure x:=by intro _;rfl):SX X c (.ListComp elt [⟨tg,iter,ifs,0⟩] scope pos) (.kZ i pb n is one t pe):=by
 refine⟨Hb (Ai (tt:=Ec X.K (qF c t)) (te:=vD X.K (HH.ev c pe)) hc ok hi hg ht (fun cl C s₀ H₀ ex=>(he cl C s₀ H₀ ex).ev) hs) ?_,fun i h=>by cases h⟩;rintro σ H Q hl⟨F,ρ,r,ρ',g0,e,k⟩;rw[HH.E29]at e;obtain⟨⟨ds,ρb⟩,ρ1,e1,e⟩:=aj e;dsimp only at e;split at e;.rename_i hlim;obtain⟨xs,ρ2,e2,e⟩:=aj e;cases e;exact rB hl hgo (fun R h=>⟨F,ρ,ds,ρb,ρ1,g0,e1,h⟩) hlim e2 k
 .cases e
theorem Bg{i j:Nat}{x:Str}{pos' spos:Pos}{nn:Nat}{g:TG}{is:List Nat}{one:Bool}{t:Option P}(hc:X.calm=true)(hN:X.N.Nodup)(hx0:X.N[i]?=some x)(hx:Loc X.env.scope x)(ok:dY X scope N' n)(hi:PI X tg iter (UG X.K j (HH.ev c pb)))(hg:∀cl C s₀ H₀ ex,PG (ou X scope N' cl C s₀ H₀ ex) tg g)(hgo:kO X.K X.N.length is one g)(ht:∀cl C s₀ H₀ ex,SQ (ou X scope N' cl C s₀ H₀ ex) c ifs t)(he:∀cl C s₀ H₀ ex,SX (ou X scope N' cl C s₀ H₀ ex) c elt pe)(hsw:swapsWith (.ListComp elt [⟨tg,iter,ifs,0⟩] scope pos) (some (.Name x pos')) spos.line X.env=pure true:=by rfl)(hs:∀x,foldedSetIterable iter X.env x=pure x:=by intro _;rfl)(hf:X.fn x=true\/X.env.scope.names.lookup x=some .local:=by first|exact .inl rfl|exact .inr rfl|assumption):SS X c nn (.Assign [.Name x pos'] (.ListComp elt [⟨tg,iter,ifs,0⟩] scope pos) spos) (.asg i (.kZ j pb n is one t pe)):=by
 refine Ig (vd (tt:=Ec X.K (qF c t)) (te:=vD X.K (HH.ev c pe)) hc hN hx0 hx ok hi hg ht (fun cl C s₀ H₀ ex=>(he cl C s₀ H₀ ex).ev) hsw hs hf) ?_;rintro D σ H hl⟨F,ρ,fl,ρ',g0,e,k⟩;rw[HH.X6]at e;obtain⟨r,ρ1,e1,e⟩:=aj e;obtain⟨ρ2,ρ3,e2,e⟩:=aj e;cases e;have zz:=aD e2;clear e2;obtain⟨e2,e3⟩:=zz;rw[HH.E29]at e1;obtain⟨⟨ds,ρb⟩,ρ5,e5,e⟩:=aj e1;dsimp only at e;split at e;.rename_i hlim;obtain⟨xs,ρ4,e4,e⟩:=aj e;cases e;exact rB hl hgo (fun R h=>⟨F,ρ,ds,ρb,ρ5,g0,e5,h⟩) hlim e4 fun v F1 H1 s1 rr=>k F1 _ H1 (s1.put rr e2)
 .cases e
end
end HH
end
section
namespace HH
open PySem PyProof.Rows
section
variable{M:Model}{A:Around}{E:Value->Shared->Prop}{s:Shared}{κ:SortKind}{ok:Keyed->Prop}{K:Keyed->Int}
theorem Eo(R:Rk M A E s κ ok K){st st':SortSt}{xs:Array Keyed}{lo n:Nat}{Q:Option Nat->SortSt->Prop}(h:Sx κ ok st xs st')(hn:lo+n<=xs.size)(h1:1<=n)(sg:Seg K xs lo (lo+n))(q:Q (some n) st'):wpS M A E s (countRun' lo n) Q st':=by
 have one:∀ys:Array Keyed,Seg K ys lo (lo+1):=fun ys i j i1 ij jn=>by rw[show i=j by omega];exact Int.le_refl _
 show wpS M A E s (_>>=_) Q st';refine wpS_bind (R6 (a:=1) (n:=n) R h hn (le_refl 1) h1 (one xs) fun m m1 m2 sm hor=>?_);dsimp only;have c1:m=n:=by
  by_cases c:m=n;.exact c
  .have hlt:=hor.resolve_left c;have:=sg (lo+m-1) (lo+m) (by omega) (by omega) (by omega);omega
 subst c1;rw[if_pos (by simp)];exact wpS_pure q
theorem SR.Zm{x0 ys:Array Keyed}{l:List Rn}{lo n:Nat}{st:SortSt}(h:SR κ ok K x0 ys l lo st)(h1:1<=n)(h2:lo+n<=ys.size)(hs:Seg K ys lo (lo+n)):SR κ ok K x0 ys (l++[(lo,n,0)]) (lo+n) (setPending st ((pendingOf st).push (lo,n,0))):=⟨h.kind,h.arr,h.fail,by show((pendingOf st).push (lo,n,0)).toList=_;rw[Array.toList_push,h.pend],h.perm,h.ok,vG.mpr ⟨lo,h.rns,rfl,h1,hs,rfl⟩,h2⟩
theorem sW:∀(f n r:Nat),r<=1->n<64\/n<=f->minRun' f n r<=n+r/\(64<=n->minRun' f n r<=n)
 |0,n,r,hr,h=>by have e:minRun' 0 n r=n+r:=rfl;rw[e];exact⟨dh,fun z=>by omega⟩|f+1,n,r,hr,h=>by
   rw[minRun'_succ];by_cases c:n<64;.rw[if_pos c];exact⟨dh,fun z=>by omega⟩
   .rw[if_neg c];have ih:=sW f (n/2) (max r (n%2)) (by omega) (by omega);exact⟨by omega,fun _=>by omega⟩
theorem HJ(R:Rk M A E s κ ok K){x0:Array Keyed}{Q:Unit->SortSt->Prop}{st:SortSt}(h:SR κ ok K x0 x0 [] 0 st)(sg:Seg K x0 0 x0.size)(h1:1<=x0.size)(q:∀st',arrOf st'=x0->failedOf st'=none->Q () st'):wpS M A E s sortRuns' Q st:=by
 rw[sortRuns'_eq];refine wpS_bind (wpS_get ?_);dsimp only;simp only[h.arr];have hmr:minRun' x0.size x0.size 0<=x0.size:=(sW x0.size x0.size 0 (by omega) (.inr (dh))).1;generalize minRun' x0.size x0.size 0=mr at hmr;refine wpS_bind (wpS_mono (wpS_forRange (I:=fun x c st'=>(c=(none,0)/\SR κ ok K x0 x0 [] 0 st'/\x=0)\/(c=(none,x0.size)/\SR κ ok K x0 x0 [(0,x0.size,0)] x0.size st')) (Q:=fun c st'=>c=(none,x0.size)/\SR κ ok K x0 x0 [(0,x0.size,0)] x0.size st') ?_ ?_ (.inl ⟨rfl,h,rfl⟩)) ?_)
 . rintro x c st1 _ hx(⟨rfl,hS,rfl⟩|⟨rfl,hS⟩)
   . dsimp only;rw[if_neg (by omega)];refine wpS_bind (Eo R hS.sx (lo:=0) (n:=x0.size-0) (by omega) (by omega) (by simpa using sg) ?_);dsimp only;rw[if_neg (by omega)];refine wpS_bind (wpS_get ?_);have hb:(pendingOf st1).back?=none:=by have:pendingOf st1=#[]:=Array.toList_inj.mp hS.pend;rw[this];rfl
     rw[hb];dsimp only;refine wpS_bind (wpS_modify (wpS_pure (.inr ⟨by simp,?_⟩)));have:=hS.Zm (n:=x0.size-0) (by omega) (by omega) (by simpa using sg);simpa using this
   .dsimp only;rw[if_pos (dh)];exact wpS_pure ⟨rfl,hS⟩
 . rintro c st1(⟨rfl,hS,e⟩|⟨rfl,hS⟩);.omega
   .exact⟨rfl,hS⟩
 . rintro c st1⟨rfl,hS⟩;dsimp only;refine wpS_bind (wpS_mono (wpS_forRange (I:=fun x c st'=>c=(none,())/\SR κ ok K x0 x0 [(0,x0.size,0)] x0.size st') (Q:=fun c st'=>c=(none,())/\SR κ ok K x0 x0 [(0,x0.size,0)] x0.size st') ?_ (fun _ _ h=>h) ⟨rfl,hS⟩) ?_)
   . rintro x c st2 _ hx⟨rfl,hZ⟩;refine wpS_bind (wpS_get ?_);try dsimp only
     have hp:(pendingOf st2).size<=1:=by rw[<-length_toList,hZ.pend];simp
     rw[if_pos hp];exact wpS_pure ⟨rfl,hZ⟩
   .rintro c st2⟨rfl,hZ⟩;dsimp only;exact wpS_pure (q st2 hZ.arr hZ.fail)
end
end HH
end
section
namespace HH
open PySem PySem.W PyProof.Rows PySem.Calls L2 PySem.Spec
section
variable{prog:Program}{w:World}{A:Around}{E:Value->Shared->Prop}{s:Shared}{vs:List Value}{κ:SortKind}{P:Value->D->Prop}{ds:List D}
theorem Jf{a:Addr}{n:Nat}{O:PySem.Fin->Shared->Prop}(ho:s.heap.get? a=some (seqObj "list" vs.toArray n))(so:sortable ds=true)(hz:vs.length<=16777216)(pr:Paired P vs ds)(fn:∀u d e,P u d->P u e->cR d=cR e)(asc:ds.Pairwise fun a b=>lM a b=true)(hk:∀h',(∀b o,b≠a->s.heap.get? b=some o->h'.get? b=some o)->∀C:SortKind->Shared->Prop,C κ {s with heap:=h'}->2<=vs.length->wpAny (model prog w) A (keyKind' vs.toArray) C (fun _ _=>False) {s with heap:=h'})(hl:∀h',(∀b o,b≠a->s.heap.get? b=some o->h'.get? b=some o)->∀u v d e,P u d->P v e->∀C:Bool->Shared->Prop,C (bC (cR d) (cR e)) {s with heap:=h'}->wpAny (model prog w) A (keyLt' κ u v) C (fun _ _=>False) {s with heap:=h'})(h:∀h' c p,(∀b o,b≠a->s.heap.get? b=some o->h'.get? b=some o)->p.Perm (List.range vs.length)->pick .non p ds=PL ds->h'.get? a=some (seqObj "list" (pick .none p vs).toArray c)->O (.done (.ret .none)) {s with heap:=h'}):wpAny (model prog w) A (Builtin.«list.sort» ⟨[.ref a],[]⟩) O E s:=by
 have ha:a<s.heap.objs.size:=lt_size ho;have hld:vs.length=ds.length:=Paired.length pr;obtain⟨e1,ho1⟩:∃e1,(s.heap.update a (Obj.mapSeq fun _=>(#[]:Array Value))).get? a=some (seqObj "list" #[] e1):=⟨_,get?_update_seq ho fun _=>#[]⟩;rw[list_sort_plain];refine wpAny_bind (listItems_at ho rfl ?_);refine wpAny_bind (listUpdate_at ho rfl ?_ (by rw[size_toArray,sizeLine_eq];omega) (uW));refine wpAny_bind (seqEpoch_at ho1 rfl ?_);refine wpAny_bind (wpAny_newTuple ?_ (by show vs.length<=_;rw[sizeLine_eq];omega));refine wpAny_bind (wpAny_newList ?_ (uW));refine wpAny_holding ?_;generalize hH:(((s.heap.update a (Obj.mapSeq fun _=>(#[]:Array Value))).push {cls:=.type "tuple",data:=.seq vs.toArray}).push {cls:=.type "list",data:=.seq #[]}:Heap)=H1;have ZJ:H1.get? a=some (seqObj "list" #[] e1):=by rw[<-hH];exact dC (dC ho1)
 have keep:∀b o,b≠a->s.heap.get? b=some o->H1.get? b=some o:=fun b o hb e=>by rw[<-hH];exact dC (dC ((get?_update_other _ _ (Ne.symm hb)).trans e))
 have fin:∀p:List Nat,p.Perm (List.range vs.length)->pick .non p ds=PL ds->O (.done (.ret .none)) {s with heap:=H1.update a (Obj.mapSeq fun _=>List.toArray (pick .none p vs))}:=by intro p h1 h2;obtain⟨c2,hc2⟩:∃c2,(H1.update a (Obj.mapSeq fun _=>List.toArray (pick Value.none p vs))).get? a=some (seqObj "list" (pick Value.none p vs).toArray c2):=⟨_,get?_update_seq ZJ fun _=>List.toArray (pick Value.none p vs)⟩;exact h _ c2 p (fun b o hb e=>(get?_update_other _ _ (Ne.symm hb)).trans (keep b o hb e)) h1 h2 hc2
 show wpAny (model prog w) A _ O E {s with heap:=H1};dsimp only;by_cases h2:vs.toArray.size<2
 . rw[if_pos h2,if_pos h2];refine wpAny_bind (wpAny_pure ?_);rw[StateT.run_pure];refine wpAny_bind (wpAny_pure ?_);dsimp only;have eo:(arrOf (SortSt.mk' general' (vs.toArray.zip vs.toArray) #[] 7 none)).map (·.2)=List.toArray (pick Value.none (List.range vs.length) vs):=by rw[lN];apply Array.toList_inj.mp;show((vs.toArray.zip vs.toArray).map (·.2)).toList=vs;simp[List.map_snd_zip]
   rw[eo];refine wpAny_bind (seqEpoch_at ZJ rfl ?_);refine wpAny_bind (listUpdate_at ZJ rfl ?_ (uW) (by rw[size_toArray,qK (.refl _),sizeLine_eq];omega));simp only[bne_self_eq_false,false_eq_true,if_false];refine wpAny_pure (fin _ (.refl _) ?_);rw[hld,lN];refine qP so (.refl _) ?_;match ds,(show ds.length<2 by simp at h2;omega)with|[],_=>exact .nil|[_],_=>exact List.pairwise_singleton ..|_::_::_,h2=>simp at h2;omega
 . rw[if_neg h2,if_neg h2];have h2':2<=vs.length:=by simpa using h2
   refine wpAny_bind (hk H1 keep _ ?_ h2'|>fun q=>wpAny_mono q (fun _ _ x=>x) fun _ _ x=>x.elim);have hzl:(vs.toArray.zip vs.toArray).toList=(List.range vs.length).map fun i=>(vs.getD i Value.none,vs.getD i Value.none):=by
    refine ext_getElem (by simp) fun i h1 h2=>?_;have:i<vs.length:=by simpa using h2
    simp[this]
   have okk:∀x∈(vs.toArray.zip vs.toArray).toList,∃d,d∈ds/\P x.1 d:=fun x hx=>by rw[hzl]at hx;obtain⟨i,hi,rfl⟩:=mem_map.mp hx;have:=jV pr i (mem_range.mp hi);exact⟨_,this.2,this.1⟩
   have R:Rk (model prog w) A E {s with heap:=H1} κ (fun x=>∃d,d∈ds/\P x.1 d) (rkK P ds):=⟨by rintro x y Q st⟨d,d1,d2⟩⟨e,e1,e2⟩hkd hq;rw[BX fn d1 d2,BX fn e1 e2,Gi d1]at hq;rw[lt'_eq];refine wpS_bind (wpS_get ?_);rw[hkd];refine wpS_bind (wpS_lift (wpAny_attempt (wpAny_mono (hl H1 keep x.1 y.1 d e d2 e2 (fun b s'=>s'={s with heap:=H1}/\b=bC (cR d) (cR e)) ⟨rfl,rfl⟩) ?_ fun _ _ h=>h.elim)));rintro b s'⟨rfl,rfl⟩;exact⟨rfl,wpS_pure hq⟩⟩;have at':∀k,k<vs.length->it (vs.toArray.zip vs.toArray) k=(vs.getD k .none,vs.getD k .none):=fun k hk=>by rw[LQ,hzl];simp[hk]
   have hsz:(vs.toArray.zip vs.toArray).size=vs.length:=by simp
   have sg:Seg (rkK P ds) (vs.toArray.zip vs.toArray) 0 (vs.toArray.zip vs.toArray).size:=fun i j _ ij jn=>by
    rw[hsz]at jn;rw[at' i (by omega),at' j jn];have a1:=jV pr i (by omega);have a2:=jV pr j jn;rw[BX fn a1.2 a1.1,BX fn a2.2 a2.1];by_cases e:i=j;.rw[e];exact Int.le_refl _
    . have hl2:=List.pairwise_iff_getElem.mp asc i j (by omega) (by omega) (by omega);simp only[lM,not_eq_true']at hl2;have e1:ds.getD i .non=ds[i]'(by omega):=by simp[show i<ds.length by omega]
      have e2:ds.getD j .non=ds[j]'(by omega):=by simp[show j<ds.length by omega]
      rw[<-e1,<-e2,<-Gi a2.2,decide_eq_false_iff_not]at hl2;omega
   have run:=HJ R (x0:=vs.toArray.zip vs.toArray) (st:=SortSt.mk' κ (vs.toArray.zip vs.toArray) #[] 7 none) (Q:=fun _ st'=>∃p:List Nat,p.Perm (List.range vs.length)/\pick .non p ds=PL ds/\(arrOf st').map (·.2)=(pick Value.none p vs).toArray/\failedOf st'=none) ⟨rfl,rfl,rfl,rfl,.refl _,okk,rfl,uW⟩ sg (by rw[hsz];omega) fun st' e1 e2=>by
     refine⟨List.range vs.length,.refl _,?_,?_,e2⟩;.rw[hld,lN];exact qP so (.refl _) asc
     .rw[e1,lN];apply Array.toList_inj.mp;simp[List.map_snd_zip]
   refine wpAny_bind (wpAny_mono run ?_ fun _ _ e=>e);rintro⟨⟨⟩,st'⟩s'⟨rfl,p,p1,p2,hout,hf⟩;dsimp only;rw[hout];refine wpAny_bind (seqEpoch_at ZJ rfl ?_);refine wpAny_bind (listUpdate_at ZJ rfl ?_ (uW) (by rw[size_toArray,qK p1,sizeLine_eq];omega));rw[hf];simp only[bne_self_eq_false,false_eq_true,if_false];exact wpAny_pure (fin _ p1 p2)
end
end HH
end
section
namespace HH
open PySem L2 PySem.Spec PyProof.Rows PySem.Calls PySem.W
noncomputable def yd(nw:Addr->Option HO)(H:Hp):Hp:=fun a=>match nw a with|some o=>some o|none=>H a
theorem vz{nw:Addr->Option HO}{H:Hp}{a:Addr}{o:HO}(h:nw a=some o):yd nw H a=some o:=by unfold yd;rw[h]
theorem gM{nw:Addr->Option HO}{H:Hp}{a:Addr}(h:nw a=none):yd nw H a=H a:=by unfold yd;rw[h]
theorem Zg{X:Cx}{pins:List (Addr×Obj)}{σ:L2.St}{H:Hp}{s:Shared}{h':Heap}{t':Nat}{nw:Addr->Option HO}(I:L2.Inv X pins σ H s)(k:∀b u,s.heap.get? b=some u->h'.get? b=some u)(hp:∀a o,nw a=some o->s.heap.objs.size<=a)(new:∀a o,nw a=some o->bI X.prog X.w (yd nw H) h' a o):L2.Inv X pins σ (yd nw H) {s with heap:=h',toks:=t'}:=by
 have no:∀a,a<s.heap.objs.size->nw a=none:=fun a ha=>by cases q:nw a with|none=>rfl|some o=>exact absurd (hp a o q) (Nat.not_le_of_lt ha)
 have old:∀a o,H a=some o->yd nw H a=some o:=fun a o e=>by rw[gM (no a (I.hok.lt e))];exact e
 refine I.un ⟨fun b u q _ _ _=>k b u q,fun b u q _ _ _=>⟨u.slots,k b u q⟩,fun b u q n _=>?_,fun b u q _=>⟨u,k b u q⟩,fun b xs q=>old b _ q,fun b u xs q=>old b _ q,fun b ps q=>⟨#[],by rw[old b _ q];simp⟩⟩ fun b u e=>?_;.rw[gM (no b (lt_size q))];exact n
 .cases q:nw b with|some o=>rw[vz q]at e;cases e;exact new b _ q|none=>rw[gM q]at e;exact(I.hok b u e).stay (fun c v _ z=>k c v z) (fun c z=>old c _ z) fun c xs z=>old c _ z
def iv(l d:Addr):Heap->Prop:=fun h=>h.IsItemsView l d
def Hl:V->List V->Hp->VK->Prop:=fun x xs H Q=>∃q ob kvs,x=.ref q/\xs=[]/\H q=some (.cX ob (.dK (map rR kvs)))/\∀l,H l=none->Q (.ref l) (upd H l (.ext (iv l q)))
def rIt(X:Cx):List V->Hp->VK->Prop:=fun xs H Q=>∃l q ob kvs,xs=[.ref l]/\H l=some (.ext (iv l q))/\H q=some (.cX ob (.dK (map rR kvs)))/\(kvs.length<=16777216/\kvs.Pairwise (fun a b=>a.1<b.1))/\∃F,aF F H/\∀v F' H',Ext F H F' H'->cg X.K F' H' H v (.own (kvs.map jG))->Q v H'
theorem vR{P:Program}{w:World}{h:Heap}:∀{kvs:List (Int×Int)}{vs:List (Key×Value)}{as:List Addr},KV (kvs.map rR) vs->as.length=vs.length->(∀(j:Nat)(a:Addr),as[j]?=some a->∃key k x,vs[j]?=some (k,x)/\(bh P w).is k key=true/\h.get? a=some {cls:=.type "tuple",data:=.seq #[key,x]})->∀(j:Nat)(a:Addr),as[j]?=some a->∃p,kvs[j]?=some p/\∃t u,h.get? a=some {cls:=.type "tuple",data:=.seq #[Value.int p.1 t,Value.int p.2 u]}
 |[],_,as,.nil,hl,_,j,a,e=>by cases as with|nil=>cases e|cons _ _=>simp at hl
 |p::kvs,_,as,.cons (b:=q) r t,hl,hk,j,a,e=>by cases as with|nil=>cases e|cons b as=>cases j with
     |zero=>
       obtain⟨key,k,x,e1,e2,e3⟩:=hk 0 a e;simp at e1;have e4:k=Sum.inl p.1:=by have z:=r.1;rw[e1]at z;exact z.symm
       have e5:∃u,x=Value.int p.2 u:=by have z:=r.2;rw[e1]at z;exact z
       subst e4;obtain⟨u,rfl⟩:=e5;obtain⟨i,tk,e6,rfl⟩|⟨_,_,e6,_⟩:=bJ (show oh (Sum.inl p.1) key=true from e2);.cases e6;exact⟨p,rfl,tk,u,e3⟩
       .cases e6|succ j=>exact vR t (by simpa using hl) (fun i c z=>by simpa using hk (i+1) c (by simpa using z)) j a (by simpa using e)
noncomputable def tpV(p:Int×Int):HO:=.tup [.int p.1,.int p.2]
noncomputable def pI:List Addr->List (Int×Int)->Addr->Option HO|a::as,p::ps,b=>if b=a then some (tpV p)else pI as ps b|_,_,_=>none
theorem pU:∀{as:List Addr}{ps:List (Int×Int)}{b:Addr}{o:HO},pI as ps b=some o->∃(j:Nat)(p:Int×Int),as[j]?=some b/\ps[j]?=some p/\o=tpV p
 |a::as,p::ps,b,o,h=>by
   unfold pI at h;split at h;.rename_i e;cases h;subst e;exact⟨0,p,rfl,rfl,rfl⟩
   .obtain⟨j,q,h1,h2,h3⟩:=pU h;exact⟨j+1,q,by simpa using h1,by simpa using h2,h3⟩|[],_,_,_,h=>by simp[pI]at h|_::_,[],_,_,h=>by simp[pI]at h
theorem BV:∀{as:List Addr}{ps:List (Int×Int)},as.Pairwise (·<·)->∀{j:Nat}{b:Addr}{p:Int×Int},as[j]?=some b->ps[j]?=some p->pI as ps b=some (tpV p)|[],_,_,_,_,_,h,_=>by simp at h|_::_,[],_,_,_,_,_,h=>by simp at h|a::as,q::ps,hp,j,b,p,h1,h2=>by unfold pI;cases j with|zero=>cases h1;cases h2;rw[if_pos rfl]|succ j=>
     have h1:as[j]?=some b:=by simpa using h1
     have:=(List.pairwise_cons.mp hp).1 b (mem_of_getElem? h1);rw[if_neg (fun e=>by rw[e]at this;exact lt_irrefl _ this)];exact BV (List.pairwise_cons.mp hp).2 h1 (by simpa using h2)
theorem qg:∀as:List Addr,Vals (as.map V.ref) (as.map Value.ref)|[]=>.nil|_::as=>.cons rfl (qg as)
theorem Bx{K:PySem.W.Frag}{F:Hp}:∀{as:List Addr}{ps:List (Int×Int)},as.length=ps.length->(∀(j:Nat)(b:Addr)(p:Int×Int),as[j]?=some b->ps[j]?=some p->F b=some (tpV p))->aG K F (as.map V.ref) (ps.map jG)|[],[],_,_=>.nil|a::as,p::ps,hl,h=>.cons (by have:=h 0 a p rfl rfl;rw[show jG p=.tup [.int p.1,.int p.2]from rfl,Rep];refine⟨a,_,rfl,.inl (.inl this),.cons (by rw[Rep]) (.cons (by rw[Rep]) .nil)⟩) (Bx (by simpa using hl) fun j b q h1 h2=>h (j+1) b q (by simpa using h1) (by simpa using h2))|[],_::_,hl,_=>by simp at hl|_::_,[],hl,_=>by simp at hl
theorem Ao{h:Heap}:∀{as:List Addr}{ps:List (Int×Int)},as.length=ps.length->(∀(j:Nat)(b:Addr),as[j]?=some b->∃p,ps[j]?=some p/\∃t u,h.get? b=some {cls:=.type "tuple",data:=.seq #[Value.int p.1 t,Value.int p.2 u]})->Paired (o8 h) (as.map Value.ref) (ps.map jG)|[],[],_,_=>.nil|a::as,p::ps,hl,h=>.cons (by obtain⟨q,e,t,u,g⟩:=h 0 a rfl;cases e;exact⟨a,[Value.int p.1 t,Value.int p.2 u],[p.1,p.2],rfl,⟨_,g,rfl,0,rfl⟩,.cons _ _ (.cons _ _ .nil),by simp,rfl⟩) (Ao (by simpa using hl) fun j b h1=>by simpa using h (j+1) b (by simpa using h1))|[],_::_,hl,_=>by simp at hl|_::_,[],hl,_=>by simp at hl
theorem xF{prog:Program}{w:World}{A:Around}{E:Value->Shared->Prop}{s:Shared}{v d:Addr}{kvs:List (Key×Value)}{ep:Nat}{Q:List Value->Shared->Prop}(hh:A.handled=none)(hv:s.heap.IsItemsView v d)(hm:s.heap.DictAt (bh prog w) d kvs ep)(hn:kvs.length<=sizeLine)(hQ:∀(h':Heap)(tk:Nat)(as:List Addr),(∀b o,s.heap.get? b=some o->h'.get? b=some o)->s.heap.objs.size<h'.objs.size->as.length=kvs.length->KdxG (bh prog w) kvs s.heap.objs.size h' as->Q (as.map Value.ref) {s with heap:=h',toks:=tk}):wpAny (model prog w) A (collect (.ref v)) Q E s:=by
 have hvl:v<s.heap.objs.size:=let⟨_,h1,_⟩:=hv;lt_size h1;have hdl:d<s.heap.objs.size:=hm.lt_size;unfold collect;refine wpAny_bind (wpAny_runValue (codeAny_builtin F.entry_proto_collect ?_));rw[Around.under_plainId F.plain_proto_collect _];show wpAny _ A.in1 (newList []>>=fun l=>again (.builtin "list.__iadd__" ⟨[l,.ref v],[]⟩)) _ _ s;refine wpAny_bind (wpAny_newObj_type (wpAny_pure ⟨plainId_quiet F.plain_list_iadd _,codeAny_builtin F.entry_list_iadd ?_⟩));rw[Around.under_plainId F.plain_list_iadd _];show wpAny _ A.in1 (listExtendWith (.ref s.heap.objs.size) (.ref v) (.ref s.heap.objs.size)) _ _ _;refine kdx_extend (A:=A) (R:=fun r s'=>match r with
  |.ok (.ret v)=>wpAny (model prog w) A (match v with
   |.ref a=>do let o<-load a match o.data with|.seq xs _=>pure xs.toList|_=>unsupported "internal:collect"
   |_=>unsupported "internal:collect") Q E s'|.ok _=>False|.error e=>E e s') (s:={s with heap:=s.heap.push {cls:=.type "list",data:=.seq #[]}}) hh (let⟨o,h1,q⟩:=hv;⟨o,dC h1,q⟩) (hm.at' fun o e=>dC e) s.heap.objs.size (ne_of_gt hvl) (ne_of_lt hdl) _ 0 (get?_push_size _ rfl) (fun h' tk acc c' as hk hS hl hG hacc=>?_) hn;refine wpAny_bind (wpAny_load hS (wpAny_pure ?_));rw[hacc];exact hQ h' tk as (fun b o e=>hk b o (ne_of_lt (lt_size e)) (dC e)) (lt_size hS) hl (hG.low (by rw[size_push'];exact le_succ _))
section
variable{X:Cx}{c:Call}{a:Expr}{pa:P}{pos:Pos}
theorem Gn:MtR X "dict.items" Hl:=by rintro pins s σ H x xs v us Q I rx rv⟨q,ob,kvs,rfl,rfl,hq,k⟩;cases rx;cases rv;obtain⟨ho,hz,hS,vs,r,dd⟩:=(show bI X.prog X.w H s.heap q (.cX ob (.dK (kvs.map rR)))from I.hok q _ hq);refine call_meetsIn PySem.F.slot_dict_items dd.typeIs PySem.F.entry_dict_items (PySem.F.args_dict_items_1 _) (meets_dict_items _ q hS) ⟨⟨vs,dd⟩,?_⟩;have hn:(s.heap.push {cls:=.type "dict_items",data:=.fields #[.ref q]}).IsItemsView s.heap.objs.size q:=⟨_,get?_push_size _ rfl,rfl,rfl⟩;refine⟨.ref s.heap.objs.size,_,I.laid (t':=s.toks) (o:=.ext (iv s.heap.objs.size q)) (fun b o e=>dC e) (dh) ⟨hn,⟨_,get?_push_size _ rfl⟩,fun h1 h2 z k=>?_⟩,rfl,k _ (I.hok.fresh (dh))⟩;obtain⟨o,z1,z2⟩:=z;exact⟨o,k o z1,z2⟩
theorem RK(hc:X.calm=true):dz X (.builtin "sorted") (rIt X):=by
 rintro pins s σ H xs us Q I r⟨l,q,ob,kvs,hx,hl,hq,⟨h64,afm⟩,F,sm,k⟩;subst hx;have so:sortable (kvs.map jG)=true:=by
  have:(kvs.map jG).all wW=true:=by rw[all_eq_true];intro x hx;obtain⟨p,_,rfl⟩:=mem_map.mp hx;rfl
  simp only[sortable,length_map,this,Bool.or_true,Bool.and_true,decide_eq_true_eq];omega
 have asc:(kvs.map jG).Pairwise fun a b=>lM a b=true:=by rw[List.pairwise_map];refine afm.imp fun{a b}h=>?_;show(!bC [b.1,b.2] [a.1,a.2])=true;simp[bC];omega
 have afn:PL (kvs.map jG)=kvs.map jG:=(qP so (.refl _) asc).symm;rw[<-afn]at k;obtain⟨u,rfl,rx⟩:=r.one;cases rx;obtain⟨ZK,_,_⟩:=(show bI X.prog X.w H s.heap l (.ext (iv l q))from I.hok l _ hl);obtain⟨ho,hz,hS,vs,rv,dd⟩:=(show bI X.prog X.w H s.heap q (.cX ob (.dK (kvs.map rR)))from I.hok q _ hq);have hvl:vs.length=kvs.length:=by rw[<-Paired.length rv,length_map]
 obtain⟨o',es,ep,d1,d2,d3,d4⟩:=dd;have dat:s.heap.DictAt (bh X.prog X.w) q vs ep:=⟨o',es,d1,d2,d3,d4⟩;refine Calls.call_function_entry kind_sorted plain_sorted entry_sorted (args_sorted1 _) ?_;unfold Builtin.«sorted»;refine wpAny_bind (m:=checkCount "sorted" 1 1 _) (wpAny_pure ?_);refine wpAny_bind (xF (A:=X.A.in1) (I.ok.hd hc) ZK dat (by rw[hvl,sizeLine_eq];omega) fun h1 tk as kp hsz hla hG=>?_);have hsz:=le_of_lt hsz;have hlk:as.length=kvs.length:=hla.trans hvl;have pr:=vR rv hla hG.pairs;have tt:Paired (o8 h1) (as.map Value.ref) (kvs.map jG):=Ao hlk pr;have hfr:∀a o,pI as kvs a=some o->s.heap.objs.size<=a:=fun a o e=>by obtain⟨j,p,e1,_,_⟩:=pU e;exact le_of_lt (hG.above a (mem_of_getElem? e1))
 have hno:∀a o,pI as kvs a=some o->H a=none:=fun a o e=>I.hok.fresh (hfr a o e);have hsm:aF H (yd (pI as kvs) H):=fun b o e=>by cases z:pI as kvs b with|none=>rw[gM z];exact e|some o'=>rw[hno b o' z]at e;cases e
 have e0:Ext F H (yd (pI as kvs) F) (yd (pI as kvs) H):=by
  refine⟨hsm,fun b o e=>?_,fun b o e=>?_,fun b n n'=>?_⟩;.cases z:pI as kvs b with|none=>rw[gM z];exact e|some o'=>have n0:=hno b o' z;rw[sm b o e]at n0;cases n0
  .cases z:pI as kvs b with|none=>rw[gM z]at e ⊢;exact sm b o e|some o'=>rw[vz z]at e ⊢;exact e
  .cases z:pI as kvs b with|none=>rw[gM z]at n';exact absurd n n'|some o'=>rw[hno b o' z];rfl
 have rs:aG X.K (yd (pI as kvs) F) (as.map V.ref) (kvs.map jG):=Bx hlk fun j b p h1 h2=>vz (BV hG.rise h1 h2);have vv:=qg as;have hlt:∀b∈as,b<h1.objs.size:=fun b hb=>hG.there hb;have ZL:(as.map Value.ref).length=kvs.length:=by rw[length_map];exact hlk
 refine wpAny_bind (wpAny_newList ?_ (by rw[ZL,sizeLine_eq];omega));generalize hG2:(h1.push {cls:=.type "list",data:=.seq (as.map Value.ref).toArray}:Heap)=H2;have ho2:H2.get? h1.objs.size=some (seqObj "list" (as.map Value.ref).toArray 0):=by rw[<-hG2];exact get?_push_size _ rfl
 have JP:∀b o,h1.get? b=some o->H2.get? b=some o:=fun b o e=>by rw[<-hG2];exact dC e
 have hne:∀b o,h1.get? b=some o->b≠h1.objs.size:=fun b o e=>ne_of_lt (lt_size e);show wpAny _ _ _ _ _ {s with heap:=H2,toks:=tk};refine wpAny_bind (wpAny_holding (wpAny_call_entry slot_list_sort ⟨_,ho2,rfl⟩ entry_list_sort ?body (args_list_sort _)));case body=>
  refine Jf (s:={s with heap:=H2,toks:=tk}) (κ:=tuples' (Value.type "int"!=Value.type "tuple")) ho2 so (by omega) tt Nq asc (fun h' k' C hC h2=>?_) (fun h' k' u v d e hd he C hC=>?_) fun h' cc p k' p1 p2 e=>?_;.exact Ef (s:={s with heap:=h',toks:=tk}) (tK (fun b o z=>k' b o (hne b o z) (JP b o z)) tt) h2 hC
  .have kk:∀b o,h1.get? b=some o->h'.get? b=some o:=fun b o z=>k' b o (hne b o z) (JP b o z);exact Mg (s:={s with heap:=h',toks:=tk}) (mW kk hd) (mW kk he) hC
  . refine⟨_,rfl,wpAny_pure ⟨_,rfl,?_⟩⟩;have kk:∀b o,h1.get? b=some o->h'.get? b=some o:=fun b o z=>k' b o (hne b o z) (JP b o z);have hL:pI as kvs h1.objs.size=none:=by cases z:pI as kvs h1.objs.size with|none=>rfl|some o=>obtain⟨j,p,e1,_,_⟩:=pU z;exact absurd (hlt _ (mem_of_getElem? e1)) (lt_irrefl _)
    have heq:upd (yd (pI as kvs) H) h1.objs.size (.lst (pick .non p (as.map V.ref)))=yd (fun b=>if b=h1.objs.size then some (.lst (pick .non p (as.map V.ref)))else pI as kvs b) H:=by
     funext b;unfold upd yd;by_cases z:b=h1.objs.size;.rw[if_pos z];simp only[if_pos z]
     .rw[if_neg z];simp only[if_neg z]
    have I':=Zg (t':=tk) (h':=h') (nw:=fun b=>if b=h1.objs.size then some (.lst (pick .non p (as.map V.ref)))else pI as kvs b) I (fun b o z=>kk b o (kp b o z)) (fun a o z=>by
     by_cases y:a=h1.objs.size;.rw[y];exact hsz
     .simp only[if_neg y]at z;exact hfr a o z) (fun a o z=>by
     by_cases y:a=h1.objs.size;.simp only[if_pos y]at z;cases z;subst y;exact⟨by rw[qK p1,ZL,sizeLine_eq];omega,pick .none p (as.map Value.ref),cc,G6 vv,e⟩
     .simp only[if_neg y]at z;obtain⟨j,p',e1,e2,rfl⟩:=pU z;obtain⟨p'',e3,t,u,e4⟩:=pr j a e1;rw[e2]at e3;cases e3;exact⟨by rw[sizeLine_eq];simp,[Value.int p'.1 t,Value.int p'.2 u],.cons ⟨t,rfl⟩ (.cons ⟨u,rfl⟩ .nil),⟨_,kk _ _ e4,rfl,0,rfl⟩⟩);rw[<-heq]at I';refine⟨.ref h1.objs.size,_,I',rfl,?_⟩;have rs2:aG X.K (yd (pI as kvs) F) (pick .non p (as.map V.ref)) (PL (kvs.map jG)):=by rw[<-p2];exact HS rs
    refine yq e0.sub rs2 (by rw[gM hL];exact I.hok.fresh hsz) fun v F2 H2 x rn=>k v F2 H2 ⟨e0.hs.trans x.hs,e0.fs.trans x.fs,x.sub,fun c n n'=>?_⟩ ?_
    . by_cases e:yd (pI as kvs) F c=none;.have:=x.gr c e n';cases z:H c with|none=>rfl|some o=>rw[hsm c o z]at this;exact this
      .exact e0.gr c n e
    obtain⟨b,xs,q1,q2,q3,q4,q5⟩:=rn;refine⟨b,xs,q1,q2,q3,q4,?_⟩;cases z:H b with|none=>rfl|some o=>rw[hsm b o z]at q5;cases q5
theorem Jw{o:Expr}{to:TE}{apos cpos:Pos}(ho:PE X o to)(hbase:attributeBase o "items" X.env (eval o X.env)=eval o X.env:=by rfl)(hline:(apos.endLine==cpos.line)=true:=by rfl):PE X (.Call (.Attribute o "items" apos) [] [] cpos) (fun σ H Q=>to σ H fun x H1=>Hl x [] H1 Q):=by intro pins s σ H Q I h;refine wpAny_Call_method0_late hbase hline (bR (ho pins s σ H _ I h) fun v s1⟨x,H1,I1,r1,q1⟩=>?_);obtain⟨q,ob,kvs,rfl,_,hq,k⟩:=id q1;cases r1;obtain⟨ho,hz,hS,vs,r,o',es,ep,g1,g2,g3⟩:=(show bI X.prog X.w H1 s1.heap q (.cX ob (.dK (kvs.map rR)))from I1.hok q _ hq);refine⟨"dict","dict.items",PySem.F.plainAttrs_dict,PySem.F.slot_dict_items,PySem.F.type_dict_items,⟨o',g1,g2.1⟩,fun b e=>?_,Calls.callWith_builtin rfl (PySem.evalArgs_none (Gn pins s1 σ H1 (.ref q) [] _ [] Q I1 rfl .nil q1))⟩;cases e;exact⟨o',g1,g2.2.1⟩
theorem Ke{x:Str}{p' apos cpos:Pos}{o:Expr}(hx:x="sorted")(hc:X.calm=true)(hg:Gl X x)(hm:X.mg x=none)(hline:(apos.endLine==cpos.line)=true)(ha:SX X c o pa)(hbase:attributeBase o "items" X.env (eval o X.env)=eval o X.env:=by rfl):SX X c (.Call (.Name x p') [.Call (.Attribute o "items" apos) [] [] cpos] [] pos) (.blt .JF [pa]):=by
 subst hx;obtain⟨ta,h1,h3⟩:=ha.cC;refine⟨dB (dJ (RK hc) hg hm boot_sorted (bK (Jw h1 hbase hline) dH)) ?_,fun i h=>by cases h⟩;rintro σ H Q⟨F,ρ,r,ρ',g,e,k⟩;have e:((cC (isVar pa) (HH.ev c pa) ρ).bind fun x ρ=>lift (blt .JF [x]) ρ)=.ok r ρ':=e;obtain⟨d,ρ1,e1,e2⟩:=aj e;have zz:=aD e2;clear e2;obtain⟨e2,e3⟩:=zz;subst e3;refine h3 g e1 fun v F' H' st pv=>?_;obtain⟨kvs,rfl⟩:∃kvs,d=.dU (.k kvs):=by cases d with
  |dU m=>cases m with|k kvs=>exact⟨kvs,rfl⟩|t kvs=>cases e2
  |_=>cases e2
 obtain⟨so,he⟩:=bF (show(if kvs.length<=16777216/\kvs.Pairwise (fun a b=>a.1<b.1)then some (R.own (kvs.map jG))else none)=some r from e2);subst he;obtain⟨q,ob,rfl,hq⟩:=pv.dU st.gs.sub;refine⟨q,ob,kvs,rfl,rfl,hq,fun l hl=>⟨l,q,ob,kvs,rfl,aM,aF.bW hl q _ hq,so,F',fun b o e=>aF.bW hl b o (st.gs.sub b o e),fun w F2 H2 x2 rn=>?_⟩⟩;have sm:aF H' (upd H' l (.ext (iv l q))):=aF.bW hl;have x3:Ext F' H' F2 H2:=⟨sm.trans x2.hs,x2.fs,x2.sub,fun b n n'=>by
  have:=x2.gr b n n';by_cases eb:b=l;.subst eb;rw[hl];rfl
  .rw[aC eb]at this;exact this⟩;have rn2:cg X.K F2 H2 H' w (.own (kvs.map jG)):=by obtain⟨b,xs,q1,q2,q3,q4,q5⟩:=rn;refine⟨b,xs,q1,q2,q3,q4,?_⟩;cases z:H' b with|none=>rfl|some o=>rw[sm b o z]at q5;cases q5
 exact k w F2 H2 (st.trans (x3.stp st.gs)) (.later st (rn2.pq st.gs))
end
end HH
end
section
namespace HH
open PySem L2 PySem.Spec PyProof.Rows
variable{o:Option V}{rows:List (List D)}
section
variable{K:PySem.W.Frag}{F F' F1 H H' H1 F0 H0:Hp}{ρ ρ' ρ1 ρ0:List Sl}{σ σ' σ1 σ0:L2.St}{x:Nat}{q:Addr}{as:List Addr}{rows oU:List (List D)}
noncomputable def HF:Sl->Bool|.aO=>true|.hold _=>true|_=>false
theorem gf{s:Sl}{i:Nat}{b:Addr}(hm:HF s=true)(h:aZ (ρ.set x s) (σ.set x o) i b):aZ ρ σ i b/\i≠x:=by
 obtain⟨⟨t,ds,e,e'⟩,e1⟩:=h;by_cases c:x=i
 . subst c;rw[getElem?_set]at e;rw[if_pos rfl]at e;split at e;.cases e;cases s<;>first|(cases e';done)|(cases hm;done)
   .cases e
 .rw[getElem?_set_ne c]at e e1;exact⟨⟨⟨t,ds,e,e'⟩,e1⟩,fun z=>c z.symm⟩
theorem GS.Bo{s:Sl}(hm:HF s=true)(g:GS K F ρ σ H):GS K F (ρ.set x s) (σ.set x o) H:=by
 refine⟨g.sub,by simp[g.len],fun i b d e=>?_,fun i t ds e e'=>?_,fun i j a h1 h2=>g.dis i j a (gf hm h1).1 (gf hm h2).1⟩
 . by_cases c:x=i
   . subst c;rw[getElem?_set,if_pos rfl]at e;split at e;.cases e;cases hm
     .cases e
   .rw[getElem?_set_ne c]at e ⊢;exact g.val i b d e
 . by_cases c:x=i
   . subst c;rw[getElem?_set,if_pos rfl]at e;split at e;.cases e;cases s<;>first|(cases e';done)|(cases hm;done)
     .cases e
   .rw[getElem?_set_ne c]at e ⊢;exact g.own i t ds e e'
theorem aB.Bo{s:Sl}{o:Option V}(hm:HF s=true)(t:aB K F ρ σ H F1 ρ1 σ1 H1)(hf:∀s0,ρ[x]?=some s0->sI s0=false):aB K F ρ σ H F1 (ρ1.set x s) (σ1.set x o) H1:=by
 refine⟨t.gs.Bo hm,t.bO,t.xV,t.keep,fun b⟨i,h⟩=>t.vN b ⟨i,(gf hm h).1⟩,by simp[t.len],fun i s' e l=>?_⟩;have c:x≠i:=by rintro rfl;rw[hf _ e]at l;cases l
 obtain⟨z1,s2,z2,z3⟩:=t.lk i s' e l;exact⟨by rw[getElem?_set_ne c];exact z1,s2,by rw[getElem?_set_ne c];exact z2,z3⟩
theorem aB.free{i:Nat}{s1:Sl}(t:aB K F ρ σ H F1 ρ1 σ1 H1)(h:ρ1[i]?=some s1)(hl:sI s1=false):∀s0,ρ[i]?=some s0->sI s0=false:=fun s0 e=>by cases z:sI s0 with|false=>rfl|true=>obtain⟨_,s2,z2,z3⟩:=t.lk i s0 e z;rw[h]at z2;cases z2;rw[z3.sI z]at hl;cases hl
structure RQ(F:Hp)(ρ:List Sl)(σ:L2.St)(H:Hp)(a:Addr)(xs:List V):Prop where kp:Kp ρ σ H a (.lst xs)fr:F a=none
theorem RQ.stp{a:Addr}{xs:List V}(h:RQ F ρ σ H a xs)(s:aB K F ρ σ H F' ρ' σ' H'):RQ F' ρ' σ' H' a xs:=by refine⟨h.kp.stp s,?_⟩;cases z:F' a with|none=>rfl|some o=>
   rcases s.xV a h.fr (by rw[z];simp)with y|y;.exact absurd y h.kp.2
   .rw[h.kp.1]at y;cases y
structure Nw(K:PySem.W.Frag)(x:Nat)(q:Addr)(as:List Addr)(F:Hp)(ρ:List Sl)(σ:L2.St)(H:Hp)(rows:List (List D)):Prop where
 slot:ρ[x]?=some (.hold rows)val:σ[x]?=some (some (.ref q))out:RQ F ρ σ H q (as.map V.ref)nd:(q::as).Nodup
 len:as.length=rows.length
 row:∀(k:Nat)(a:Addr)(ds:List D),as[k]?=some a->rows[k]?=some ds->Wt K F ρ σ H a ds
theorem Nw.stp(w:Nw K x q as F ρ σ H rows)(s:aB K F ρ σ H F' ρ' σ' H'):Nw K x q as F' ρ' σ' H' rows:=by obtain⟨z1,s2,z2,z3⟩:=s.lk x _ w.slot rfl;cases(show s2=.hold rows from z3);exact⟨z2,z1.trans w.val,w.out.stp s,w.nd,w.len,fun k a ds h1 h2=>(w.row k a ds h1 h2).stp s⟩
structure NB(K:PySem.W.Frag)(x:Nat)(q:Addr)(as:List Addr)(F0:Hp)(ρ0:List Sl)(σ0:L2.St)(H0:Hp)(F:Hp)(ρ:List Sl)(σ:L2.St)(H:Hp)(rows:List (List D)):Prop where
 stp:aB K F0 ρ0 σ0 H0 F ρ σ H
 fresh:∀b,b∈q::as->Own ρ0 σ0 b\/H0 b=none
 free:∀s0,ρ0[x]?=some s0->sI s0=false
 nw:Nw K x q as F ρ σ H rows
theorem NB.step(b:NB K x q as F0 ρ0 σ0 H0 F ρ σ H rows)(s:aB K F ρ σ H F' ρ' σ' H'):NB K x q as F0 ρ0 σ0 H0 F' ρ' σ' H' rows:=⟨b.stp.trans s,b.fresh,b.free,b.nw.stp s⟩
theorem Ad{s:Sl}{a:Addr}{ob:HO}(hm:HF s=true)(h:Kp ρ σ H a ob):Kp (ρ.set x s) (σ.set x o) H a ob:=⟨h.1,fun⟨i,z⟩=>h.2 ⟨i,(gf hm z).1⟩⟩
theorem Ln{s:Sl}{a:Addr}{ds:List D}(hm:HF s=true)(h:Wt K F ρ σ H a ds):Wt K F (ρ.set x s) (σ.set x o) H a ds:=by obtain⟨⟨xs,h1,h2⟩,h3⟩:=h;exact⟨⟨xs,Ad hm h1,h2⟩,h3⟩
theorem aB.aeI{Da:Addr}{o:HO}(s:aB K F ρ σ H F1 ρ1 σ1 H1)(h:Own ρ σ Da\/H Da=none)(hf:F1 Da=none)(ho:¬ Own ρ1 σ1 Da):aB K F ρ σ H F1 ρ1 σ1 (upd H1 Da o):=by
 refine⟨⟨fun b u e=>?_,s.gs.len,s.gs.val,fun i t ds e e'=>?_,s.gs.dis⟩,s.bO,s.xV,fun b u e n=>?_,s.vN,s.len,s.lk⟩
 . have:b≠Da:=by rintro rfl;rw[hf]at e;cases e
   rw[aC this];exact s.gs.sub b u e
 . obtain⟨a,xs,q1,q2,q3,q4⟩:=s.gs.own i t ds e e';have:a≠Da:=by rintro rfl;exact ho ⟨i,⟨t,ds,e,e'⟩,q1⟩
   exact⟨a,xs,q1,by rw[aC this];exact q2,q3,q4⟩
 . have:b≠Da:=by
    rintro rfl;rcases h with h|h;.exact n h
    .rw[h]at e;cases e
   rw[aC this];exact s.keep b u e n
theorem NB.mut{r:Nat}{a:Addr}{row km:List D}{ys:List V}(b:NB K x q as F0 ρ0 σ0 H0 F ρ σ H rows)(ha:as[r]?=some a)(hr:rows[r]?=some row)(rp:aG K F ys km):NB K x q as F0 ρ0 σ0 H0 F (ρ.set x (.hold (rows.set r km))) σ (upd H a (.lst ys)) (rows.set r km):=by
 have w:=b.nw.row r a row ha hr;obtain⟨⟨xs,k1,r1⟩,f1⟩:=w;have hx:x<ρ.length:=(dI b.nw.slot).1;have sx:σ.set x (some (.ref q))=σ:=by have:=b.nw.val;obtain⟨h1,h2⟩:=dI this;rw[<-h2];simp
 have mem:a∈q::as:=mem_cons_of_mem _ (mem_of_getElem? ha);have s1:=(b.stp.aeI (o:=.lst ys) (b.fresh a mem) f1 k1.2).Bo (x:=x) (s:=.hold (rows.set r km)) (o:=some (.ref q)) rfl b.free;rw[sx]at s1;have nq:q≠a:=by have:=(nodup_cons.mp b.nw.nd).1;rintro rfl;exact this (mem_of_getElem? ha)
 have own:∀{c:Addr},¬ Own ρ σ c->¬ Own (ρ.set x (.hold (rows.set r km))) σ c:=fun{c}h⟨i,z⟩=>h ⟨i,by have:=gf (x:=x) (s:=.hold (rows.set r km)) (o:=some (.ref q)) (σ:=σ) (ρ:=ρ) rfl (b:=c) (i:=i) (by rw[sx];exact z);exact this.1⟩;refine⟨s1,b.fresh,b.free,⟨getElem?_set_self hx,b.nw.val,⟨⟨by rw[aC nq];exact b.nw.out.kp.1,own b.nw.out.kp.2⟩,b.nw.out.fr⟩,b.nw.nd,by simp[b.nw.len],fun k c ds h1 h2=>?_⟩⟩;by_cases hk:k=r;.subst hk;rw[ha]at h1;cases h1;have hl:k<rows.length:=(dI hr).1;rw[getElem?_set_self hl]at h2;cases h2;exact⟨⟨ys,⟨aM,own k1.2⟩,rp⟩,f1⟩
 . rw[getElem?_set_ne (fun z=>hk z.symm)]at h2;obtain⟨⟨zs,k2,r2⟩,f2⟩:=b.nw.row k c ds h1 h2;have nc:c≠a:=by rintro rfl;have nd:=(nodup_cons.mp b.nw.nd).2;obtain⟨l1,e1⟩:=dI h1;obtain⟨l2,e2⟩:=dI ha;exact hk ((List.getElem_inj nd).mp (e1.trans e2.symm))
   exact⟨⟨zs,⟨by rw[aC nc];exact k2.1,own k2.2⟩,r2⟩,f2⟩
noncomputable def Fz(F H:Hp)(bs:List Addr):Hp:=fun b=>if b∈bs then H b else F b
theorem tR{G:Hp}:∀{as:List Addr}{rows:List (List D)},as.length=rows.length->(∀(k:Nat)(a:Addr)(ds:List D),as[k]?=some a->rows[k]?=some ds->Rep K G (.ref a) (.lst ds))->aG K G (as.map V.ref) (rows.map D.lst)|[],[],_,_=>.nil|a::as,ds::rows,h,k=>.cons (k 0 a ds rfl rfl) (tR (by simpa using h) fun j b es h1 h2=>k (j+1) b es (by simpa using h1) (by simpa using h2))|[],_::_,h,_=>by simp at h|_::_,[],h,_=>by simp at h
theorem Nw.Pb(w:Nw K x q as F ρ σ H rows){b:Addr}(hb:b∈q::as):F b=none/\¬ Own ρ σ b:=by
 rcases mem_cons.mp hb with rfl|hb;.exact⟨w.out.fr,w.out.kp.2⟩
 . obtain⟨k,hk⟩:=List.getElem?_of_mem hb;have hl:k<rows.length:=by rw[<-w.len];exact(dI hk).1
   obtain⟨⟨xs,k1,_⟩,f1⟩:=w.row k b rows[k] hk (by simp[hl]);exact⟨f1,k1.2⟩
theorem Nw.fz(w:Nw K x q as F ρ σ H rows)(sm:aF F H):aF F (Fz F H (q::as))/\aF (Fz F H (q::as)) H/\Rep K (Fz F H (q::as)) (.ref q) (.lst (rows.map D.lst)):=by
 have s1:aF F (Fz F H (q::as)):=fun b o e=>by unfold Fz;rw[if_neg fun hb=>by rw[(w.Pb hb).1]at e;cases e];exact e
 refine⟨s1,fun b o e=>?_,?_⟩
 . unfold Fz at e;split at e;.exact e
   .exact sm b o e
 .rw[Rep];refine⟨q,as.map V.ref,rfl,dX.of (by unfold Fz;rw[if_pos mem_cons_self];exact w.out.kp.1),tR w.len fun k a ds h1 h2=>?_⟩;obtain⟨⟨xs,k1,r1⟩,f1⟩:=w.row k a ds h1 h2;rw[Rep];exact⟨a,xs,rfl,dX.of (by unfold Fz;rw[if_pos (mem_cons_of_mem _ (mem_of_getElem? h1))];exact k1.1),r1.mono s1⟩
theorem NB.cX(b:NB K x q as F0 ρ0 σ0 H0 F ρ σ H rows):aB K F0 ρ0 σ0 H0 (Fz F H (q::as)) (ρ.set x (.val false (.lst (rows.map D.lst)))) σ H:=by
 obtain⟨s1,s2,rp⟩:=b.nw.fz b.stp.gs.sub;have g:=b.stp.gs;have hx:x<ρ.length:=(dI b.nw.slot).1;have old:∀{j:Nat}{c:Addr},aZ (ρ.set x (.val false (.lst (rows.map D.lst)))) σ j c->aZ ρ σ j c/\x≠j:=fun{j c}⟨⟨t,ds,e,e'⟩,e1⟩=>by
  by_cases hj:x=j;.subst hj;rw[getElem?_set_self hx]at e;cases e;cases e'
  .rw[getElem?_set_ne hj]at e;exact⟨⟨⟨t,ds,e,e'⟩,e1⟩,hj⟩
 refine⟨⟨s2,by simp[g.len],fun i bb d e=>?_,fun i t ds e e'=>?_,fun i j c h1 h2=>g.dis i j c (old h1).1 (old h2).1⟩,b.stp.bO.trans s1,fun c n n'=>?_,b.stp.keep,fun c⟨j,h⟩=>b.stp.vN c ⟨j,(old h).1⟩,by simp[b.stp.len],fun i t e l=>?_⟩
 . by_cases hj:x=i;.subst hj;rw[getElem?_set_self hx]at e;cases e;exact⟨_,b.nw.val,rp⟩
   .rw[getElem?_set_ne hj]at e;obtain⟨v,h1,h2⟩:=g.val i bb d e;exact⟨v,h1,h2.mono s1⟩
 . by_cases hj:x=i;.subst hj;rw[getElem?_set_self hx]at e;cases e;cases e'
   .rw[getElem?_set_ne hj]at e;obtain⟨a,o,h1,h2,h3,h4⟩:=g.own i t ds e e';refine⟨a,o,h1,h2,?_,h4.mono s1⟩;unfold Fz;rw[if_neg fun hb=>(b.nw.Pb hb).2 ⟨i,⟨t,ds,e,e'⟩,h1⟩];exact h3
 . by_cases hc:c∈q::as;.exact(b.fresh c hc).imp id jU
   . have:Fz F H (q::as) c=F c:=by unfold Fz;rw[if_neg hc]
     rw[this]at n';exact b.stp.xV c n n'
 . have c:x≠i:=by rintro rfl;rw[b.free _ e]at l;cases l
   obtain⟨z1,s3,z2,z3⟩:=b.stp.lk i t e l;exact⟨z1,s3,by rw[getElem?_set_ne c];exact z2,z3⟩
end
inductive QK(K:PySem.W.Frag)(x:Nat)(f:List Sl->Res Fl)(E:Ends)(σ:L2.St)(H:Hp):Prop where|mk(F0:Hp)(ρ0:List Sl)(σ0:L2.St)(H0 F:Hp)(ρ:List Sl)(q:Addr)(as:List Addr)(rows:List (List D))(fl:Fl)(ρ':List Sl)(b:NB K x q as F0 ρ0 σ0 H0 F ρ σ H rows)(e:f ρ=.ok fl ρ')(k:∀F' σ' H',aB K F0 ρ0 σ0 H0 F' ρ' σ' H'->aF F F'->((∀r,fl≠.ret r)->∃oU,NB K x q as F0 ρ0 σ0 H0 F' ρ' σ' H' oU)->GP K E F' ρ' σ' H' ρ0 σ0 H0 fl)
inductive YG(K:PySem.W.Frag)(x:Nat)(f:List Sl->Res Fl)(E:Ends)(σ:L2.St)(H:Hp):Prop where|mk(F0:Hp)(ρ0:List Sl)(σ0:L2.St)(H0 F:Hp)(ρ:List Sl)(q:Addr)(as:List Addr)(rows:List (List D))(fl:Fl)(ρ':List Sl)(b:NB K x q as F0 ρ0 σ0 H0 F ρ σ H rows)(e:f ρ=.ok fl ρ')(k:∀F' σ' H',aB K F0 ρ0 σ0 H0 F' ρ' σ' H'->GP K E F' ρ' σ' H' ρ0 σ0 H0 fl)
structure Xe(X:Cx)(c:Call)(n x:Nat)(st:Stmt)(s:S):Prop where p:PS X st (QK X.K x (ex c n s))
structure V0(X:Cx)(c:Call)(n x:Nat)(st:List Stmt)(s:List S):Prop where p:wI X st (QK X.K x (ik c n s))
structure SBT(X:Cx)(c:Call)(n x:Nat)(st:List Stmt)(s:List S):Prop where p:wI X st (YG X.K x (ik c n s))
section
variable{X:Cx}{c:Call}{n x:Nat}{e a b d tg iter:Expr}{p pa pb pd:P}{pos:Pos}{body:List Stmt}{ss:List S}{st:Stmt}{s:S}{sts:List Stmt}
theorem pD:V0 X c n x [] []:=⟨nT An fun D σ H⟨F0,ρ0,σ0,H0,F,ρ,q,as,rows,fl,ρ',nb,e,k⟩=>by rw[xs0]at e;cases e;exact k F σ H nb.stp (.refl _) fun _=>⟨rows,nb⟩⟩
theorem qI(h1:Xe X c n x st s)(h2:V0 X c n x sts ss):V0 X c n x (st::sts) (s::ss):=by refine⟨nT (mL h1.p h2.p) ?_⟩;rintro D σ H⟨F0,ρ0,σ0,H0,F,ρ,q,as,rows,fl,ρ',nb,e,k⟩;rw[Tw]at e;obtain⟨f1,ρ1,e1,e⟩:=aj e;cases f1 with|next=>refine⟨F0,ρ0,σ0,H0,F,ρ,q,as,rows,.next,ρ1,nb,e1,fun F1 σ1 H1 s1 sm nn=>?_⟩;obtain⟨JQ,Qi⟩:=nn (fun r z=>by cases z);exact⟨F0,ρ0,σ0,H0,F1,ρ1,q,as,JQ,fl,ρ',Qi,e,fun F2 σ2 H2 s2 U5 nn2=>k F2 σ2 H2 s2 (sm.trans U5) nn2⟩|brk=>cases e;exact⟨F0,ρ0,σ0,H0,F,ρ,q,as,rows,.brk,_,nb,e1,k⟩|cont=>cases e;exact⟨F0,ρ0,σ0,H0,F,ρ,q,as,rows,.cont,_,nb,e1,k⟩|ret r=>cases e;exact⟨F0,ρ0,σ0,H0,F,ρ,q,as,rows,.ret r,_,nb,e1,k⟩
theorem Jr(h1:Xe X c n x st s)(h2:SBT X c n x sts ss):SBT X c n x (st::sts) (s::ss):=by refine⟨nT (mL h1.p h2.p) ?_⟩;rintro D σ H⟨F0,ρ0,σ0,H0,F,ρ,q,as,rows,fl,ρ',nb,e,k⟩;rw[Tw]at e;obtain⟨f1,ρ1,e1,e⟩:=aj e;cases f1 with|next=>refine⟨F0,ρ0,σ0,H0,F,ρ,q,as,rows,.next,ρ1,nb,e1,fun F1 σ1 H1 s1 sm nn=>?_⟩;obtain⟨JQ,Qi⟩:=nn (fun r z=>by cases z);exact⟨F0,ρ0,σ0,H0,F1,ρ1,q,as,JQ,fl,ρ',Qi,e,k⟩|brk=>cases e;exact⟨F0,ρ0,σ0,H0,F,ρ,q,as,rows,.brk,_,nb,e1,fun F1 σ1 H1 s1 _ _=>k F1 σ1 H1 s1⟩|cont=>cases e;exact⟨F0,ρ0,σ0,H0,F,ρ,q,as,rows,.cont,_,nb,e1,fun F1 σ1 H1 s1 _ _=>k F1 σ1 H1 s1⟩|ret r=>cases e;exact⟨F0,ρ0,σ0,H0,F,ρ,q,as,rows,.ret r,_,nb,e1,fun F1 σ1 H1 s1 _ _=>k F1 σ1 H1 s1⟩
theorem Mh(h:SB X c n sts ss):SBT X c n x sts (.cX x::ss):=by refine⟨nT h ?_⟩;rintro D σ H⟨F0,ρ0,σ0,H0,F,ρ,q,as,rows,fl,ρ',nb,e,k⟩;rw[Tw]at e;obtain⟨f1,ρ1,e1,e⟩:=aj e;rw[HH.X23,nb.nw.slot]at e1;cases e1;have t:=nb.cX;refine⟨_,_,fl,ρ',t.gs,e,fun F' σ' H' s=>?_⟩;have z:=k F' σ' H' (t.trans s);cases fl with|next=>exact z|brk=>exact z|cont=>exact z|ret r=>exact fun v rr=>z v (rr.later t)
theorem Qm{sa sb:List Stmt}{ta tb:List S}(hc:ST X c e p)(ha:V0 X c n x sa ta)(hb:V0 X c n x sb tb):Xe X c n x (.If e sa sb pos) (.ifs p ta tb):=by refine⟨dD (N7 hc ha.p hb.p) ?_⟩;rintro D σ H⟨F0,ρ0,σ0,H0,F,ρ,q,as,rows,fl,ρ',nb,e,k⟩;rw[HH.X13]at e;obtain⟨t,ρ1,e1,e⟩:=aj e;refine⟨F,ρ,t,ρ1,nb.stp.gs,e1,fun F1 H1 s1=>?_⟩;have go:∀{f:List Sl->Res Fl},f ρ1=.ok fl ρ'->QK X.K x f D σ H1:=fun{f}h=>⟨F0,ρ0,σ0,H0,F1,ρ1,q,as,rows,fl,ρ',nb.step s1,h,fun F2 σ2 H2 s2 sm nn=>k F2 σ2 H2 s2 (s1.bO.trans sm) nn⟩;cases t with|true=>rw[if_pos rfl]at e;exact go e|false=>rw[if_neg Bool.false_ne_true]at e;exact go e
theorem Hh{ρ:List Sl}(h:jf ρ x=some rows):ρ[x]?=some (.hold rows):=by
 unfold jf at h;split at h;.rename_i z;cases h;exact z
 .cases h
def WalkN(K:PySem.W.Frag)(J:It)(ds:List D)(F1:Hp):Prop:=∀(k:Nat)(F' H':Hp),aF F1 F'->aF F' H'->(∀d,ds[k]?=some d->J.go k H'/\∀x kh,J.JC k H' x kh->∃F'',Ext F' H' F'' kh/\Rep K F'' x d)/\(ds.length<=k->J.stop k H')
inductive ac6(K:PySem.W.Frag)(f:Ev)(σ:L2.St)(H:Hp)(R:It->Hp->Prop):Prop where|mk(F:Hp)(ρ:List Sl)(r:HH.R)(ρ1:List Sl)(ds:List D)(g:GS K F ρ σ H)(e:f ρ=.ok r ρ1)(e2:items r.d=some ds)(k:∀J F1 H1,aB K F ρ σ H F1 ρ1 σ H1->WalkN K J ds F1->R J H1)
structure SIN(X:Cx)(c:Call)(tg e:Expr)(p:P):Prop where p:PI X tg e (ac6 X.K (HH.ev c p))
theorem KC(h:SX X c e p):SIN X c tg e p:=by refine⟨kE (yC h.ev) ?_⟩;rintro σ H R⟨F,ρ,r,ρ1,ds,g,e,e2,k⟩;refine⟨F,ρ,r,ρ1,g,e,fun v F' H' s rr=>?_⟩;obtain⟨F2,s2,_,rp⟩:=s.cX rr;cases hd:r.d with|tup es=>rw[hd]at rp e2;cases e2;rw[Rep]at rp;obtain⟨a,xs,rfl,h1,h2⟩:=rp;exact⟨a,rfl,.inr ⟨⟨xs,aF.gn s2.gs.sub h1⟩,k _ _ _ s2 fun k F3 H3 ZM U5=>Cy (aF.gn U5 (aF.gn ZM h1)) (h2.mono ZM) U5 k⟩⟩|lst es=>rw[hd]at rp e2;cases e2;rw[Rep]at rp;obtain⟨a,xs,rfl,h1,h2⟩:=rp;exact⟨a,rfl,.inl ⟨⟨xs,s2.gs.sub.seq h1⟩,k _ _ _ s2 fun k F3 H3 ZM U5=>qZ (U5.seq (ZM.seq h1)) (h2.mono ZM) U5 k⟩⟩|_=>rw[hd]at e2;cases e2
theorem Es{K:PySem.W.Frag}{F1:Hp}(i j:Int):WalkN K (Vb i (j-i).toNat) ((List.range (j-i).toNat).map fun(k:Nat)=>D.int (i+(k:Int))) F1:=by
 refine fun k F' H' _ sm=>⟨fun d hd=>?_,fun h=>?_⟩;.rw[getElem?_map]at hd;obtain⟨m,e1,e2⟩:=map_some hd;obtain⟨h1,h2⟩:=dI e1;rw[List.getElem_range]at h2;subst h2;subst e2;rw[length_range]at h1;refine⟨h1,?_⟩;rintro x kh⟨q1,q2⟩;subst q1;subst q2;exact⟨F',.refl sm,bN _⟩
 .rw[length_map,length_range]at h;exact h
theorem Gy{x:Str}{p':Pos}(hx:x="range")(hg:Gl X x)(hm:X.mg x=none)(ha:SX X c a pa)(hs:starEach [a] X.env=[(false,eval a X.env)]:=by rfl):SIN X c tg (.Call (.Name x p') [a] [] pos) (.sy (.con (.int 0)) pa):=by
 subst hx;obtain⟨ta,h1,h2⟩:=ha.cC;refine⟨kE (ue hg hm (bK h1 dH hs) hs) ?_⟩;rintro σ H R⟨F,ρ,r,ρ1,ds,g,e1,e2,k⟩;rw[HH.E21]at e1;obtain⟨xy,ρ3,e4,e5⟩:=aj e1;have zz:=aD e5;clear e5;obtain⟨e5,e6⟩:=zz;subst e6;obtain⟨y0,ρ5,e9,e10⟩:=aj e4;cases e10;obtain⟨i,f1,e5⟩:=bV e5;obtain⟨j,f2,e5⟩:=bV e5;obtain⟨⟨b1,b2,b3,b4⟩,e5⟩:=bF e5;have f1:i=0:=by cases f1;rfl
 subst f1;subst e5;cases e2;cases cQ f2;refine h2 g e9 fun v F' H' s pv=>⟨j,by rw[pv.int],by omega,by omega,?_⟩;have:=Es (K:=X.K) (F1:=F') 0 j;rw[sub_zero]at this;refine k _ F' H' s ?_;rw[sub_zero];exact this
theorem Cq{g:TG}{is:List Nat}{one:Bool}(hp:PassesOwn (model X.prog X.w) X.A X.env X.xe)(hc:X.calm=true)(hi:SIN X c tg iter p)(hg:PG X tg g)(hgo:GX X.K (fun ρ d=>cN ρ is one d) g)(hb:V0 X c n x body ss)(hs:∀x,foldedSetIterable iter X.env x=pure x:=by intro _;rfl):Xe X c n x (.For tg iter body [] pos) (.Ex p is one ss):=by
 refine⟨dD (Hf hp hc hi.p hg hb.p hs) ?_⟩;rintro D σ H⟨F0,ρ0,σ0,H0,F,ρ,q,as,rows,fl,ρ',nb,e,k⟩;rw[HH.X22]at e;obtain⟨r,ρ1,e1,e⟩:=aj e;obtain⟨ds,ρ9,e9,e2⟩:=aj e;have zz:=aD e9;clear e9;obtain⟨e9,e91⟩:=zz;subst e91;refine⟨F,ρ,r,ρ1,ds,nb.stp.gs,e1,e9,fun J F1 H1 s1 w=>?_⟩;refine⟨fun i m σi Hi=>∃Fi ρi um,NB X.K x q as F0 ρ0 σ0 H0 Fi ρi σi Hi um/\aF F1 Fi/\m=ds.length-i/\i<=ds.length/\iy is one (ik c n ss) (ds.drop i) ρi=.ok fl ρ',⟨_,F1,ρ1,rows,nb.step s1,.refl _,rfl,uW,e2⟩,?_⟩;rintro i m σi Hi⟨Fi,ρi,um,ZP,smi,rfl,hle,ei⟩;obtain⟨w1,w2⟩:=w i Fi Hi smi ZP.stp.gs.sub;by_cases hlt:i<ds.length
 . right;have hd:ds[i]?=some ds[i]:=by simp[hlt]
   obtain⟨go,step⟩:=w1 _ hd;refine⟨go,fun σ' H'=>∃m',m'<ds.length-i/\∃Fi ρi um,NB X.K x q as F0 ρ0 σ0 H0 Fi ρi σ' H' um/\aF F1 Fi/\m'=ds.length-(i+1)/\i+1<=ds.length/\iy is one (ik c n ss) (ds.drop (i+1)) ρi=.ok fl ρ',fun σ' H' z=>z,fun y H' yy=>?_⟩;obtain⟨F2,ext,rx⟩:=step y H' yy;have t2:=ext.stp ZP.stp.gs;rw[drop_eq_getElem_cons hlt,iy]at ei;cases hbd:cN ρi is one ds[i]with|none=>rw[hbd]at ei;cases ei|some ρb=>rw[hbd]at ei;obtain⟨flb,ρc,eb,ei⟩:=aj ei;refine hgo y _ F2 ρi ρb σi H' _ t2.gs rx hbd fun σ2 sb=>?_;have t3:=t2.trans sb;refine⟨F0,ρ0,σ0,H0,F2,ρb,q,as,um,flb,ρc,ZP.step t3,eb,fun F4 σ4 H4 s4 sm4 nn4=>?_⟩;have sm5:aF F1 F4:=smi.trans (ext.fs.trans sm4);cases flb with|next=>obtain⟨JR,nb4⟩:=nn4 (fun r z=>by cases z);exact⟨_,by omega,F4,ρc,JR,nb4,sm5,rfl,hlt,ei⟩|cont=>obtain⟨JR,nb4⟩:=nn4 (fun r z=>by cases z);exact⟨_,by omega,F4,ρc,JR,nb4,sm5,rfl,hlt,ei⟩|brk=>cases ei;exact k F4 σ4 H4 s4 (s1.bO.trans sm5) fun _=>nn4 (fun r z=>by cases z)|ret r=>cases ei;exact fun v rr=>k F4 σ4 H4 s4 (s1.bO.trans sm5) (fun h=>(h r rfl).elim) v rr
 . left;have hdr:ds.drop i=[]:=by rw[drop_eq_nil_iff];omega
   rw[hdr,iy]at ei;cases ei;exact⟨w2 (by omega),k Fi σi Hi ZP.stp (s1.bO.trans smi) fun _=>⟨um,ZP⟩⟩
end
section
variable{X:Cx}{c:Call}{n:Nat}{e a b d i j:Expr}{p pa pb pd pi pj:P}{pos:Pos}
theorem Ko{ρ ρ':List Sl}{x:Nat}{o:Option (List (List D))}{fl:Fl}(h:Du ρ x o=.ok fl ρ'):∃rows,o=some rows/\fl=.next/\ρ'=ρ.set x (.hold rows):=by cases o with|none=>cases h|some rows=>cases h;exact⟨rows,rfl,rfl,rfl⟩
section
variable{K:PySem.W.Frag}{F H F0 H0:Hp}{ρ ρ0:List Sl}{σ σ0:L2.St}{x:Nat}{q:Addr}{as:List Addr}{rows oU:List (List D)}
theorem NB.hold(nb:NB K x q as F0 ρ0 σ0 H0 F ρ σ H rows)(h:jf ρ x=some oU):oU=rows:=by have:=Hh h;rw[nb.nw.slot]at this;cases this;rfl
theorem NB.at{k:Int}{r:Nat}{row:List D}(nb:NB K x q as F0 ρ0 σ0 H0 F ρ σ H rows)(h1:HH.jC rows.length k=some r)(h2:rows[r]?=some row):∃a ys,as[r]?=some a/\Jd (as.map V.ref) k=some (.ref a)/\H a=some (.lst ys)/\aG K F ys row:=by
 have hl:r<as.length:=by rw[nb.nw.len];exact(dI h2).1
 obtain⟨⟨ys,k1,r1⟩,_⟩:=nb.nw.row r as[r] row (by simp[hl]) h2;refine⟨as[r],ys,by simp[hl],?_,k1.1,r1⟩;unfold Jd;rw[length_map,nb.nw.len];rw[show L2.jC rows.length k=some r from h1];simp[hl]
theorem NB.vy{dk:D}{row:List D}(nb:NB K x q as F0 ρ0 σ0 H0 F ρ σ H rows)(h:HH.vy ρ x dk=some row):∃k a,(∃r:Nat,as[r]?=some a)/\Jd (as.map V.ref) k=some (.ref a)/\dk=.int k/\∃ys,H a=some (.lst ys)/\aG K F ys row:=by unfold HH.vy at h;obtain⟨rows0,h1,h⟩:=bV h;cases nb.hold h1;obtain⟨k,h2,h⟩:=bV h;obtain⟨r,h3,h4⟩:=bV h;obtain⟨a,ys,g1,g2,g3,g4⟩:=nb.at h3 h4;exact⟨k,a,⟨r,g1⟩,g2,cQ h2,ys,g3,g4⟩
end
theorem Ek{oU:List (List D)}{k:Int}{f:List D->Option (List D)}(h:jJ rows k f=some oU):∃r row km,HH.jC rows.length k=some r/\rows[r]?=some row/\f row=some km/\oU=rows.set r km:=by unfold jJ at h;obtain⟨r,h1,h⟩:=bV h;obtain⟨row,h2,h⟩:=bV h;obtain⟨km,h3,h⟩:=map_some h;exact⟨r,row,km,h1,h2,h3,h.symm⟩
theorem Im{x:Str}{k:Nat}{px ipos apos cpos:Pos}(hN:X.N[k]?=some x)(hv:xg X.env.scope x)(hi:SX X c i pi)(he:SX X c e p)(hpx:uV i:=by intro _ _;rfl)(hline:(apos.endLine==cpos.line)=true:=by rfl)(hs:starEach [e] X.env=(false,eval e X.env)::starEach [] X.env:=by rfl)(hbase:attributeBase (.Subscript (.Name x px) i ipos) "append" X.env (eval (.Subscript (.Name x px) i ipos) X.env)=eval (.Subscript (.Name x px) i ipos) X.env:=by rfl)(hfew:((backTo cpos (starEach [e] X.env)).all (fun x=>!x.1)&&(backToKw cpos (keywordEach [] X.env)).all (fun x=>x.1.isSome)&&decide ([e].length+([]:List Keyword).length+(if([]:List Keyword).isEmpty then 0 else 1)<30))=true:=by rfl)(hsw:swapsWith (.Call (.Attribute (.Subscript (.Name x px) i ipos) "append" apos) [e] [] cpos) none pos.line X.env=pure false:=by rfl)(hd:(x==("__debug__":Str))=false:=by decide)(hcd:(x==("__classdict__":Str))=false:=by decide):Xe X c n k (.Expr (.Call (.Attribute (.Subscript (.Name x px) i ipos) "append" apos) [e] [] cpos) pos) (.JL k pi p):=by obtain⟨ti,hi1,hi2⟩:=hi.cC;refine⟨dD (uI (Oz PySem.F.plainAttrs_list PySem.F.slot_list_append PySem.F.type_list_append m6 (Pn CG (fH hN hv hd hcd) hi1 hpx) (bK he.ev dH hs) hbase hfew hline hs) hsw) ?_⟩;rintro E σ H⟨F0,ρ0,σ0,H0,F,ρ,q,as,rows,fl,ρ',nb,e,kk⟩;rw[HH.X21]at e;obtain⟨dk,ρ2,e2,e⟩:=aj e;obtain⟨row0,ρ2',e8,e⟩:=aj e;have zz:=aD e8;clear e8;obtain⟨e8,e81⟩:=zz;subst e81;obtain⟨r,ρ3,e3,e⟩:=aj e;obtain⟨rs,e4,rfl,rfl⟩:=Ko e;refine⟨.ref q,nb.nw.val,hi2 nb.stp.gs e2 fun vi F1 H1 s1 pi=>?_⟩;have Qi:=nb.step s1;obtain⟨k0,a,g1,g2,g0,ys,g3,g4⟩:=Qi.vy e8;rw[g0]at pi;refine⟨q,_,k0,_,rfl,pi.int,dX.of Qi.nw.out.kp.1,g2,.inl ⟨rfl,ys,dX.of g3⟩,F1,ρ2,r,ρ3,Qi.stp.gs,e3,fun v F2 H2 s2 rr=>?_⟩;obtain⟨F3,s3,_,rp⟩:=s2.cX rr;have nb3:=Qi.step s3;obtain⟨rows0,e5,e4⟩:=bV e4;cases nb3.hold e5;obtain⟨k1,e6,e4⟩:=bV e4;obtain⟨m,row,km,f1,f2,f3,rfl⟩:=Ek e4;obtain⟨hlt,rfl⟩:=bF f3;have:=cQ e6;rw[g0]at this;cases this;obtain⟨a',ys',g1',g2',g3',g4'⟩:=nb3.at f1 f2;rw[g2]at g2';cases g2';have nb5:=nb3.mut g1' f2 (g4'.append (.cons rp .nil));exact⟨a,ys',v,rfl,rfl,g3',by rw[g4'.length];exact hlt,kk F3 σ _ nb5.stp (s1.bO.trans s3.bO) fun _=>⟨_,nb5⟩⟩
end
section
variable{K:PySem.W.Frag}{F H F1 H1:Hp}{ρ ρ1:List Sl}{σ σ1:L2.St}
theorem aB.since{b:Addr}(s:aB K F ρ σ H F1 ρ1 σ1 H1)(h:H1 b=none):Own ρ σ b\/H b=none:=by
 by_cases ho:Own ρ σ b;.exact .inl ho
 .right;cases e:H b with|none=>rfl|some o=>rw[s.keep b o e ho]at h;cases h
theorem NB.mk'{x:Nat}{q:Addr}{as:List Addr}{s1:Sl}(s:aB K F ρ σ H F1 ρ1 σ1 H1)(hx:ρ1[x]?=some s1)(hl:sI s1=false)(hq:RQ F1 ρ1 σ1 H1 q (as.map V.ref))(nd:(q::as).Nodup)(len:as.length=rows.length)(row:∀(k:Nat)(a:Addr)(ds:List D),as[k]?=some a->rows[k]?=some ds->Wt K F1 ρ1 σ1 H1 a ds)(fr:∀b,b∈q::as->Own ρ σ b\/H b=none):NB K x q as F ρ σ H F1 (ρ1.set x (.hold rows)) (σ1.set x (some (.ref q))) H1 rows:=by
 have hi:x<ρ1.length:=(dI hx).1;have hi':x<σ1.length:=by rw[<-s.gs.len];exact hi
 exact⟨s.Bo rfl (s.free hx hl),fr,s.free hx hl,⟨getElem?_set_self hi,getElem?_set_self hi',⟨Ad rfl hq.kp,hq.fr⟩,nd,len,fun k a ds h1 h2=>Ln rfl (row k a ds h1 h2)⟩⟩
end
theorem Jv{K:PySem.W.Frag}{F H:Hp}{ρ ρ1 ρ2:List Sl}{σ:L2.St}{ul:List Sl->List Sl}{ti:TI}{is:List Nat}{one:Bool}{c:Call}{el:Ev}{g:TG}{Q:VK}{ds:List D}{m n:Nat}(hm:σ.length=m)(hgo:kO K m is one g)(hti:∀R:It->Hp->Prop,(∀J F1 H1,Walk K F ρ σ H ul J ds F1 ρ1 H1->R J H1)->ti σ H R)(hlim:ds.length<=lim)(e2:fG is one el ds [] (ρ1++replicate n .aO)=.ok rows ρ2)(k:∀ q as F' H',aB K F ρ σ H F' (ul (ρ2.take ρ1.length)) σ H'->RQ F' (ul (ρ2.take ρ1.length)) σ H' q (as.map V.ref)->(q::as).Nodup->as.length=rows.length->(∀(k:Nat)(a:Addr)(ds:List D),as[k]?=some a->rows[k]?=some ds->Wt K F' (ul (ρ2.take ρ1.length)) σ H' a ds)->(∀b,b∈q::as->Own ρ σ b\/H b=none)->Q (.ref q) H'):ud n ti g (Ec K (qF c none)) (vD K el) σ H Q:=by
 refine hti _ fun J F1 H1 w Da CQ=>?_;have hl1:ρ1.length=σ.length:=w.gs.len;have gm:=w.gs.more (n:=n) (τ:=replicate n none) (by simp);have fD:F1 Da=none:=by cases q:F1 Da with|none=>rfl|some o=>rw[w.gs.sub Da o q]at CQ;cases CQ
 have nO:¬ Own (ρ1++replicate n .aO) (σ++replicate n none) Da:=fun⟨i,⟨t,dt,q1,q2⟩,q3⟩=>by obtain⟨a,ys,z1,z2,_⟩:=gm.own i t dt q1 q2;rw[q3]at z1;cases z1;rw[CQ]at z2;cases z2
 refine⟨fun i mm ys σi Hi=>∃Fi ρi acc as,aB K F1 (ρ1++replicate n .aO) (σ++replicate n none) H1 Fi ρi σi Hi/\σi.take m=σ/\ys=as.map V.ref/\Hi Da=some (.lst ys)/\Fi Da=none/\¬ Own ρi σi Da/\(Da::as).Nodup/\as.length=acc.length/\(∀(k:Nat)(a:Addr)(ds:List D),as[k]?=some a->acc[k]?=some ds->Wt K Fi ρi σi Hi a ds/\(Own (ρ1++replicate n .aO) (σ++replicate n none) a\/H1 a=none))/\acc.length<=i/\mm=ds.length-i/\i<=ds.length/\fG is one el (ds.drop i) acc ρi=.ok rows ρ2,⟨_,F1,_,[],[],(aB.refl gm).G7 CQ fD nO,by rw[List.take_append_of_le_length (by omega),List.take_of_length_le (by omega)],rfl,aM,fD,nO,by simp,rfl,fun k a ds h=>by simp at h,uW,rfl,uW,e2⟩,?_⟩;rintro i mm ys σi Hi⟨Fi,ρi,acc,as,si,hσ,hys,hD,hF,hO,hnd,hlen,hrow,hacc,rfl,hle,ei⟩;refine⟨hD,?_⟩;have stay:∀{F2 H2:Hp}{ρ3:List Sl}{σ2:L2.St},aB K Fi ρi σi Hi F2 ρ3 σ2 H2->H2 Da=some (.lst ys)/\F2 Da=none/\¬ Own ρ3 σ2 Da:=fun{F2 H2 ρ3 σ2}s=>by have:=(RQ.stp (xs:=ys) ⟨⟨hD,hO⟩,hF⟩ s);exact⟨this.kp.1,this.fr,this.kp.2⟩
 obtain⟨s1,s2⟩:=w.src n i Fi ρi σi Hi si;by_cases hlt:i<ds.length
 . right;have hd:ds[i]?=some ds[i]:=by simp[hlt]
   obtain⟨go,step⟩:=s1 _ hd;refine⟨go,fun x H2 y=>?_⟩;obtain⟨F2,ext,rx⟩:=step x H2 y;have t2:=ext.stp si.gs;rw[drop_eq_getElem_cons hlt,fG]at ei;cases hbd:cN ρi is one ds[i]with|none=>rw[hbd]at ei;cases ei|some ρb=>rw[hbd]at ei;obtain⟨re,ρe,ee,ei⟩:=aj ei;cases re with|val _=>cases ei|own rw0=>
     replace ei:fG is one el (ds.drop (i+1)) (acc++[rw0]) ρe=.ok rows ρ2:=ei;refine hgo x _ F2 ρi ρb σi H2 _ t2.gs rx hbd fun σ2 sb htk=>?_;have t3:=t2.trans sb;refine⟨F2,ρb,true,ρb,t3.gs,by rw[qF],fun F4 H4 s4=>?_⟩;have t4:=t3.trans s4;refine(show vD K el σ2 H4 _ from⟨F4,ρb,.own rw0,ρe,t4.gs,ee,fun v F5 H5 s5 rr=>?_⟩);have t6:=t4.trans s5;obtain⟨y1,y2,y3⟩:=stay t6;obtain⟨z1,z2,z3⟩:=stay t4;have hlen2:ys.length<sizeLine:=by have h2:lim=sizeLine:=rfl;rw[hys,length_map];omega
     obtain⟨A,xs,rfl,a1,a2,a3,a4,a5⟩:=rr;have nDA:A≠Da:=by
      rintro rfl;rcases a5 with z|z;.exact z3 z
      .rw[z1]at z;cases z
     have nA:A∉as:=fun hA=>by
      obtain⟨k0,hk0⟩:=List.getElem?_of_mem hA;have hl0:k0<acc.length:=by rw[<-hlen];exact(dI hk0).1
      obtain⟨⟨zs,k1,_⟩,_⟩:=(hrow k0 A acc[k0] hk0 (by simp[hl0])).1.stp t4;rcases a5 with z|z;.exact k1.2 z
      .rw[k1.1]at z;cases z
     have fA:Own (ρ1++replicate n .aO) (σ++replicate n none) A\/H1 A=none:=by
      have t:=si.trans t4;rcases a5 with z|z;.exact t.vN A z
      .exact t.since z
     refine⟨y1,hlen2,_,by omega,F5,ρe,acc++[rw0],as++[A],(si.trans t6).G7 CQ y2 y3,htk.trans hσ,by rw[hys];simp,aM,y2,y3,?_,by simp[hlen],fun k0 a0 ds0 h1 h2=>?_,by simp;omega,rfl,hlt,ei⟩
     . rw[<-cons_append,nodup_append];refine⟨hnd,by simp,fun p hp r hr=>?_⟩;simp at hr;subst hr;rcases mem_cons.mp hp with rfl|hp;.exact fun z=>nDA z.symm
       .rintro rfl;exact nA hp
     . by_cases hk0:k0<as.length
       . rw[getElem?_append_left hk0]at h1;rw[getElem?_append_left (by omega)]at h2;obtain⟨w0,f0⟩:=hrow k0 a0 ds0 h1 h2;obtain⟨⟨zs,k1,r1⟩,g1⟩:=w0.stp t6;have na:a0≠Da:=by rintro rfl;exact(nodup_cons.mp hnd).1 (mem_of_getElem? h1)
         exact⟨⟨⟨zs,⟨by rw[aC na];exact k1.1,k1.2⟩,r1⟩,g1⟩,f0⟩
       . rw[getElem?_append_right (by omega)]at h1;rw[getElem?_append_right (by omega)]at h2;have:k0-as.length=0:=by have:=(dI h1).1;simp at this;exact this
         rw[this]at h1;rw[<-hlen,this]at h2;cases h1;cases h2;exact⟨⟨⟨xs,⟨by rw[aC nDA];exact a1,a4⟩,a3⟩,a2⟩,fA⟩
 . left;have hdr:ds.drop i=[]:=by rw[drop_eq_nil_iff];omega
   rw[hdr,fG]at ei;cases ei;refine⟨s2 (by omega),?_⟩;have hst:σi.take ρ1.length=σ:=by rw[hl1,hm];exact hσ
   obtain⟨l1,l2⟩:=aB.less (m:=ρ1.length) rfl w.gs (by simp) si;rw[hst]at l1;obtain⟨z1,z2⟩:=w.fin _ _ _ _ l1--the outer list:with nothing in it,it is like any new one
   have si':=si.G7 (o:=.lst []) CQ hF hO;obtain⟨l1',WK⟩:=aB.less (m:=ρ1.length) rfl w.gs (by simp) si';rw[hst]at l1';obtain⟨z1',z2'⟩:=w.fin _ _ _ _ l1';have rr:cM K Fi ρ2 σi (upd Hi Da (.lst [])) (ρ1++replicate n .aO) (σ++replicate n none) H1 (.ref Da) (.own []):=⟨Da,[],rfl,aM,hF,.nil,hO,.inr CQ⟩;have Qh:=WK _ _ rr;rw[hst]at Qh;obtain⟨_,_,q0,_,q3,_,q5,q6⟩:=z2' _ _ Qh;cases q0;have rws:∀(k:Nat)(a:Addr)(ds:List D),as[k]?=some a->rows[k]?=some ds->Wt K Fi (ul (ρ2.take ρ1.length)) σ Hi a ds/\(Own ρ σ a\/H a=none):=fun k a ds h1 h2=>by obtain⟨⟨⟨xs,k1,r1⟩,f1⟩,f2⟩:=hrow k a ds h1 h2;have rr:cM K Fi ρ2 σi Hi (ρ1++replicate n .aO) (σ++replicate n none) H1 (.ref a) (.own ds):=⟨a,xs,rfl,k1.1,f1,r1,k1.2,f2⟩;have Qh:=l2 _ _ rr;rw[hst]at Qh;obtain⟨a',xs',q0,q2,q3,q4,q5,q6⟩:=z2 _ _ Qh;cases q0;exact⟨⟨⟨xs',⟨q2,q5⟩,q4⟩,q3⟩,q6⟩
   refine k Da as Fi Hi z1 ⟨⟨by rw[hD,hys],q5⟩,q3⟩ hnd hlen (fun k a ds h1 h2=>(rws k a ds h1 h2).1) fun b hb=>?_;rcases mem_cons.mp hb with rfl|hb;.exact q6
   . obtain⟨k0,hk0⟩:=List.getElem?_of_mem hb;have hl0:k0<rows.length:=by rw[<-hlen];exact(dI hk0).1
     exact(rws k0 b rows[k0] hk0 (by simp[hl0])).2
section
variable{X:Cx}{c:Call}{nn n:Nat}{tg iter elt:Expr}{ps pe:P}{pos:Pos}{sts:List Stmt}{ss:List S}{scope:Scope}{N':List Str}
theorem K5{i:Nat}{x:Str}{pos' spos:Pos}{g:TG}{is:List Nat}{one:Bool}(hc:X.calm=true)(hN:X.N.Nodup)(hx0:X.N[i]?=some x)(hx:Loc X.env.scope x)(ok:dY X scope N' n)(hi:SI X c tg iter ps)(hg:∀cl C s₀ H₀ ex,PG (ou X scope N' cl C s₀ H₀ ex) tg g)(hgo:kO X.K X.N.length is one g)(ht:∀cl C s₀ H₀ ex,SQ (ou X scope N' cl C s₀ H₀ ex) c [] none)(he:∀cl C s₀ H₀ ex,SX (ou X scope N' cl C s₀ H₀ ex) c elt pe)(hT:SBT X c nn i sts ss)(hsw:swapsWith (.ListComp elt [⟨tg,iter,[],0⟩] scope pos) (some (.Name x pos')) spos.line X.env=pure true:=by rfl)(hs:∀x,foldedSetIterable iter X.env x=pure x:=by intro _;rfl)(hf:X.fn x=true\/X.env.scope.names.lookup x=some .local:=by first|exact .inl rfl|exact .inr rfl|assumption):SB X c nn (.Assign [.Name x pos'] (.ListComp elt [⟨tg,iter,[],0⟩] scope pos) spos::sts) (.JK i ps n is one pe::ss):=by
 have h0:=vd (tt:=Ec X.K (qF c none)) (te:=vD X.K (HH.ev c pe)) hc hN hx0 hx ok hi hg ht (fun cl C s₀ H₀ ex=>(he cl C s₀ H₀ ex).ev) hsw hs hf;refine fun pins s σ H D I q=>mL h0 hT.p pins s σ H D I ?_;have hl:σ.length=X.N.length:=I.len;obtain⟨F,ρ,fl,ρ',g0,e,kk⟩:=q;rw[Tw]at e;obtain⟨f1,ρ9,e1,e⟩:=aj e;rw[HH.X20]at e1;obtain⟨ds,ρ1,e2,e1⟩:=aj e1;split at e1;.rename_i hlim;obtain⟨rows,ρ2,e3,e1⟩:=aj e1;obtain⟨ρ3,ρ3',e4,e1⟩:=aj e1;cases e1;have zz:=aD e4;clear e4;obtain⟨e4,_⟩:=zz;obtain⟨s1,h1,h2,rfl⟩:=uC e4;refine(show ud n (tIt X.K (isVar ps) (HH.ev c ps)) g (Ec X.K (qF c none)) (vD X.K (HH.ev c pe)) σ H (fun v H1=>jl i v σ H1 (YG X.K i (ik c nn ss) D))from Jv (c:=c) (ul:=aW ρ (isVar ps)) hl hgo (fun R h=>⟨F,ρ,ds,ρ1,g0,e2,h⟩) hlim e3 fun q as F' H' s wq nd len row fr=>?_);exact⟨F,ρ,σ,H,F',_,q,as,rows,fl,ρ',NB.mk' s h1 h2 wq nd len row fr,e,fun F2 σ2 H2 s2=>kk F2 σ2 H2 s2⟩
 .cases e1
end
end HH
end
section
namespace HH
open PySem L2 PySem.Spec PyProof.Rows PySem.Calls PySem.W
variable{i:Nat}{x:Str}
section
variable{K:PySem.W.Frag}{F F1 H H1:Hp}{ρ ρ1 ρ2:List Sl}{σ σ1:L2.St}
theorem GS.acA{x:Nat}{kvs kvs':List (Int×D)}{a:Addr}{o':HO}(g:GS K F ρ σ H)(e:ρ[x]?=some (.cF kvs))(hx:σ[x]?=some (some (.ref a)))(r:kI K F o' (.v kvs')):aB K F ρ σ H F (ρ.set x (.cF kvs')) σ (upd H a o'):=by
 have hi:x<ρ.length:=(dI e).1;have oa:aZ ρ σ x a:=⟨⟨_,_,e,rfl⟩,hx⟩;obtain⟨a',o0,h1,h2,h3,h4⟩:=g.own x _ _ e rfl;rw[hx]at h1;cases h1;have old:∀{j:Nat}{c:Addr},aZ (ρ.set x (.cF kvs')) σ j c->aZ ρ σ j c:=fun{j c}⟨⟨t,dt,q1,q2⟩,q3⟩=>by
  by_cases hj:j=x;.subst hj;exact⟨⟨_,_,e,rfl⟩,q3⟩
  .rw[eV hj]at q1;exact⟨⟨t,dt,q1,q2⟩,q3⟩
 refine⟨⟨fun c o q=>?_,by simp[g.len],fun j b' d q=>?_,fun j t dt q q'=>?_,fun j k c q1 q2=>g.dis j k c (old q1) (old q2)⟩,.refl _,fun c n n'=>absurd n n',fun c o q n=>?_,fun c⟨j,q⟩=>.inl ⟨j,old q⟩,by simp,fun j t q l=>⟨rfl,?_⟩⟩
 . have:c≠a:=by rintro rfl;rw[h3]at q;cases q
   rw[aC this];exact g.sub c o q
 . by_cases hj:j=x;.subst hj;rw[getElem?_set_self hi]at q;cases q
   .rw[eV hj]at q;exact g.val j b' d q
 . by_cases hj:j=x;.subst hj;rw[getElem?_set_self hi]at q;cases q;cases q';exact⟨a,_,hx,aM,h3,r⟩
   . rw[eV hj]at q;obtain⟨c,zs,w1,w2,w3,w4⟩:=g.own j t dt q q';have:c≠a:=by rintro rfl;exact hj (g.dis j x c ⟨⟨t,dt,q,q'⟩,w1⟩ oa)
     exact⟨c,zs,w1,by rw[aC this];exact w2,w3,w4⟩
 . have:c≠a:=by rintro rfl;exact n ⟨x,oa⟩
   rw[aC this];exact q
 . by_cases hj:j=x;.subst hj;rw[e]at q;cases q;cases l
   .exact⟨t,by rw[eV hj];exact q,.refl t⟩
theorem GS.newV{kvs:List (Int×D)}{a:Addr}{o':HO}{s0:Sl}(g:GS K F ρ σ H)(e:ρ[i]?=some s0)(hl0:sI s0=false)(r:kI K F o' (.v kvs))(ha:H a=none):aB K F ρ σ H F (ρ.set i (.cF kvs)) (σ.set i (some (.ref a))) (upd H a o'):=by
 have hi:i<ρ.length:=(dI e).1;have hi':i<σ.length:=by rw[<-g.len];exact hi
 have fa:F a=none:=by cases q:F a with|none=>rfl|some o=>rw[g.sub a o q]at ha;cases ha
 have old:∀{j:Nat}{c:Addr},j≠i->aZ (ρ.set i (.cF kvs)) (σ.set i (some (.ref a))) j c->aZ ρ σ j c:=fun{j c}hj⟨⟨t,ds,e1,e2⟩,e3⟩=>by rw[eV hj]at e1 e3;exact⟨⟨t,ds,e1,e2⟩,e3⟩
 have new:∀{c:Addr},aZ (ρ.set i (.cF kvs)) (σ.set i (some (.ref a))) i c->c=a:=fun{c}⟨_,e3⟩=>by rw[getElem?_set_self hi']at e3;cases e3;rfl
 have no:∀{j:Nat},¬ aZ ρ σ j a:=fun{j}⟨⟨t,ds,e1,e2⟩,e3⟩=>by obtain⟨c,o,q1,q2,_⟩:=g.own j t ds e1 e2;rw[e3]at q1;cases q1;rw[ha]at q2;cases q2
 refine⟨⟨fun c o q=>?_,by simp[g.len],fun j b' d q=>?_,fun j t dt q q'=>?_,fun j k c q1 q2=>?_⟩,.refl _,fun c n n'=>absurd n n',fun c o q n=>?_,fun c⟨j,q⟩=>?_,by simp,fun j t q l=>?_⟩
 . have:c≠a:=by rintro rfl;rw[fa]at q;cases q
   rw[aC this];exact g.sub c o q
 . by_cases hj:j=i;.subst hj;rw[getElem?_set_self hi]at q;cases q
   .rw[eV hj]at q ⊢;exact g.val j b' d q
 . by_cases hj:j=i;.subst hj;rw[getElem?_set_self hi]at q;cases q;cases q';exact⟨a,_,getElem?_set_self hi',aM,fa,r⟩
   . rw[eV hj]at q ⊢;obtain⟨c,o,w1,w2,w3,w4⟩:=g.own j t dt q q';have:c≠a:=by rintro rfl;rw[ha]at w2;cases w2
     exact⟨c,o,w1,by rw[aC this];exact w2,w3,w4⟩
 . by_cases hj:j=i
   . by_cases hk:k=i;.rw[hj,hk]
     .subst hj;rw[new q1]at q2;exact absurd (old hk q2) no
   . by_cases hk:k=i;.subst hk;rw[new q2]at q1;exact absurd (old hj q1) no
     .exact g.dis j k c (old hj q1) (old hk q2)
 . have:c≠a:=by rintro rfl;rw[ha]at q;cases q
   rw[aC this];exact q
 . by_cases hj:j=i;.subst hj;rw[new q];exact .inr ha
   .exact .inl ⟨j,old hj q⟩
 . have hj:j≠i:=by rintro rfl;rw[e]at q;cases q;rw[hl0]at l;cases l
   exact⟨by rw[eV hj],t,by rw[eV hj];exact q,.refl t⟩
end
section
variable{X:Cx}{c:Call}{n:Nat}{a b e:Expr}{pa pb p:P}{pos:Pos}
theorem Bm{pos' p2:Pos}(hN:X.N.Nodup)(hi:X.N[i]?=some x)(hx:Loc X.env.scope x)(hs:swapsWith (.Dict [] [] p2) (some (.Name x pos')) pos.line X.env=pure false:=by rfl)(hf:X.fn x=true\/X.env.scope.names.lookup x=some .local:=by first|exact .inl rfl|exact .inr rfl|assumption):SS X c n (.Assign [.Name x pos'] (.Dict [] [] p2) pos) (.Ey i):=by
 refine dD (uE hN hi hx wM hs hf) ?_;rintro D σ H⟨F,ρ,fl,ρ',g,e,k⟩;rw[HH.X24]at e;have go:∀s0,ρ[i]?=some s0->sI s0=false->fl=.next->ρ'=ρ.set i (.cF [])->∀a,H a=none->D.nx (σ.set i (some (.ref a))) (upd H a (.dK [])):=fun s0 q hl hfl hρ a ha=>by subst hfl hρ;exact k F _ _ (g.newV (kvs:=[]) q hl (KR.oc .nil) ha)
 split at e;.rename_i q;cases e;exact go _ q rfl rfl rfl
 .rename_i q;cases e;exact go _ q rfl rfl rfl
 .rename_i q;cases e;exact go _ q rfl rfl rfl
 .cases e
theorem pK{px pos':Pos}{pk:P}(hu:X.A.units+8<cLine)(hN:X.N[i]?=some x)(hv:xg X.env.scope x)(ha:SX X c a pk)(he:SX X c e p)(hs:swapsWith e (some (.Subscript (.Name x px) a pos')) pos.line X.env=pure false:=by rfl)(hd:(x==("__debug__":Str))=false:=by decide)(hcd:(x==("__classdict__":Str))=false:=by decide):SS X c n (.Assign [.Subscript (.Name x px) a pos'] e pos) (.fM i pk p):=by
 obtain⟨ta,h1,h2⟩:=ha.cC;refine dD (Ce (by omega) (fH hN hv hd hcd) h1 he.ev hs) ?_;rintro D σ H⟨F,ρ,fl,ρ',g,e,k⟩;rw[HH.X26]at e;obtain⟨r,ρ1,e1,eA⟩:=aj e;clear e;refine⟨F,ρ,r,ρ1,g,e1,fun v F1 H1 s1 rr=>?_⟩;obtain⟨F2,s2,_,rp⟩:=s1.cX rr;split at eA
 . rename_i aft q0;obtain⟨kd,ρ2,e2,eB⟩:=aj eA;clear eA;obtain⟨a0,o0,w1,w2,w3,w4⟩:=s2.gs.own i _ _ q0 rfl;refine⟨.ref a0,w1,h2 s2.gs e2 fun y F3 H3 s3 py=>?_⟩;split at eB
   . rename_i kvs j q;split at eB;.rename_i hl;cases eB;obtain⟨a1,o1,y1,y2,y3,y4⟩:=s3.gs.own i _ _ q rfl;rw[w1]at y1;cases y1;obtain⟨es,rfl,kr⟩:=KR.Uk y4;have kr2:=kr.put (k:=j) (rp.mono s3.bO);refine⟨a0,upd H3 a0 (.dK (putK es (Sum.inl j:Key) v)),rfl,?_,k F3 σ _ ((s2.trans s3).trans (s3.gs.acA q w1 kr2.oc))⟩;rw[py.int];exact .inl ⟨es,Sum.inl j,y2,rfl,by rw[kr.len,sizeLine_eq];exact hl,rfl⟩
     .cases eB
   .cases eB
 .cases eA
theorem zF{px:Pos}{pk:P}(hu:X.A.units+8<cLine)(hN:X.N[i]?=some x)(hv:xg X.env.scope x)(ha:SX X c a pk)(hs:Lk a)(hd:(x==("__debug__":Str))=false:=by decide)(hcd:(x==("__classdict__":Str))=false:=by decide):SX X c (.Subscript (.Name x px) a pos) (.Qd i pk):=by
 obtain⟨ta,h1,h2⟩:=ha.cC;refine⟨dB (K4 (by omega) (fH hN hv hd hcd) h1 hs) ?_,fun i h=>by cases h⟩;rintro σ H Q⟨F,ρ,r,ρ',g,e,k⟩;rw[HH.E26]at e;split at e
 . rename_i aft q;obtain⟨kd,ρ1,e1,eA⟩:=aj e;clear e;obtain⟨a0,o0,w1,w2,w3,w4⟩:=g.own i _ _ q rfl;refine⟨.ref a0,w1,h2 g e1 fun v F1 H1 s1 pv=>?_⟩;split at eA;.rename_i kvs q1;obtain⟨eC,e3⟩:=aD eA;clear eA;subst e3;obtain⟨j,e4,eD⟩:=bV eC;clear eC;obtain⟨d,e5,e6⟩:=map_some eD;subst e6;rw[cQ e4]at pv;obtain⟨a1,o1,y1,y2,y3,y4⟩:=s1.gs.own i _ _ q1 rfl;rw[w1]at y1;cases y1;obtain⟨es,rfl,kr⟩:=KR.Uk y4;obtain⟨v',g1,g2⟩:=kr.get e5;rw[pv.int];exact⟨a0,v',rfl,.inl ⟨es,Sum.inl j,.inl y2,rfl,g1.symm⟩,k v' F1 H1 s1 (show Rep X.K F1 _ _ from g2)⟩
   .cases eA
 .cases e
theorem Q6{px:Pos}{pk:P}{neg:Bool}{op:CmpOp}(hop:(op=.In/\neg=false)\/(op=.NotIn/\neg=true))(hu:X.A.units+8<cLine)(hN:X.N[i]?=some x)(hv:xg X.env.scope x)(ha:SX X c a pk)(hd:(x==("__debug__":Str))=false:=by decide)(hcd:(x==("__classdict__":Str))=false:=by decide):PC X op a (.Name x px) (vD X.K (HH.ev c (.Qe i pk neg))):=by
 obtain⟨ta,h1,h2⟩:=ha.cC;have main:∀{σ:L2.St}{H:Hp}{Q:VK},vD X.K (HH.ev c (.Qe i pk neg)) σ H Q->ta σ H fun y H1=>Td i σ H1 fun x H2=>∃a o,x=.ref a/\mZ H2 a y o/\Q (.bl (if neg then !o.isSome else o.isSome)) H2:=fun{σ H Q}⟨F,ρ,r,ρ',g,e,k⟩=>by
  rw[HH.E27]at e;obtain⟨kd,ρ1,e1,eA⟩:=aj e;clear e;refine h2 g e1 fun v F1 H1 s1 pv=>?_;split at eA;.rename_i kvs q1;obtain⟨eC,e3⟩:=aD eA;clear eA;subst e3;obtain⟨j,e4,e5⟩:=map_some eC;subst e5;rw[cQ e4]at pv;obtain⟨a1,o1,y1,y2,y3,y4⟩:=s1.gs.own i _ _ q1 rfl;obtain⟨es,rfl,kr⟩:=KR.Uk y4;rw[pv.int];refine⟨.ref a1,y1,a1,_,rfl,.inl ⟨es,Sum.inl j,.inl y2,rfl,rfl⟩,?_⟩;rw[kr.has j];exact k _ F1 H1 s1 (show Rep X.K F1 _ _ from fL _)
  .cases eA
 rcases hop with⟨rfl,rfl⟩|⟨rfl,rfl⟩;.exact fun pins s σ H Q I h=>R9 (by omega) h1 (fH hN hv hd hcd) pins s σ H Q I (main h)
 .exact fun pins s σ H Q I h=>Dq (by omega) h1 (fH hN hv hd hcd) pins s σ H Q I (main h)
end
theorem oM{P:Program}{w:World}:∀{ks:List Int}{es:List (Key×V)}{vs:List (Key×Value)}{acc:List Value},es.map (·.1)=ks.map (Sum.inl:Int->Key)->KV es vs->acc.length=vs.length->(∀(j:Nat)(v:Value),acc[j]?=some v->∃(k:Key)(x:Value),vs[j]?=some (k,x)/\(bh P w).is k v=true)->IntsAre acc ks
 |[],es,_,acc,he,r,h,_=>by cases es with
   |nil=>cases r;cases acc with|nil=>exact .nil|cons _ _=>simp at h
   |cons _ _=>simp at he
 |i::ks,es,_,acc,he,r,h,k=>by cases es with|nil=>simp at he|cons p es=>cases r with|@cons _ q _ _ r t=>rw[map_cons,map_cons]at he;cases acc with|nil=>simp at h|cons v acc=>
         obtain⟨k',x,e1,e2⟩:=k 0 v rfl;simp at e1;have e3:k'=Sum.inl i:=by have z:=r.1;rw[e1]at z;rw[<-(List.cons.inj he).1];exact z.symm
         subst e3;obtain⟨i',tk,e4,rfl⟩|⟨_,_,e4,_⟩:=bJ (show oh (Sum.inl i) v=true from e2);.cases e4;exact .cons _ tk (oM (List.cons.inj he).2 t (by simpa using h) fun j v e=>k (j+1) v (by simpa using e))
         .cases e4
section
variable{X:Cx}{c:Call}{n:Nat}{a b e:Expr}{pa pb p:P}{pos:Pos}
theorem Yv(hc:X.calm=true):dz X (.type "list") (Lh X.K fun x=>blt .Wz [x]):=by rintro pins s σ H xs us Q I r⟨x,hx,F,d,r',sm,px,he,k⟩;cases d with|dv ks ds=>
   obtain⟨hle,he⟩:=bF (show(if ks.length<=16777216 then some (R.own (ks.map D.int))else none)=some r' from he);subst he;obtain⟨q,ob,vs0,rfl,hq,rs,hl⟩:=px.dv sm;subst hx;obtain⟨u,rfl,rx⟩:=r.one;cases rx;obtain⟨ho,hz,hS,vs,rv,dd⟩:=(show bI X.prog X.w H s.heap q (.cX ob (.dK (ent ks vs0)))from I.hok q _ hq);obtain⟨ep,dd⟩:=dd.dictAt;have hk:=qN (ks:=ks) (vs:=vs0) (by rw[rs.length];exact hl);have hlv:vs.length=ks.length:=by rw[<-Paired.length rv];have:=congrArg List.length hk;simpa using this
   refine kdl_call (kdl_dict (knd:=bh X.prog X.w) (kvs:=vs) (ep:=ep) hS) (I.ok.hd hc) dd (by rw[hlv,sizeLine_eq];omega) fun h' tk acc c' kp hD hacc=>?_;have ia:IntsAre acc.toList ks:=oM (P:=X.prog) (w:=X.w) hk rv (by rw[length_toList];exact hacc.1) fun j v e=>hacc.2 j v (by rw[<-Array.getElem?_toList];exact e);refine⟨.ref s.heap.objs.size,_,I.laid (t':=tk) (o:=.lst (ks.map V.int)) (h':=h') kp (dh) ⟨by rw[length_map,sizeLine_eq];omega,acc.toList,c',lO ia,by rw[Array.toArray_toList];exact hD⟩,rfl,?_⟩;exact yq sm (tY ks) (I.hok.fresh (dh)) k|_=>cases he
theorem GJ{p':Pos}(hx:x="list")(hc:X.calm=true)(hg:Gl X x)(hm:X.mg x=none)(ha:SX X c a pa)(hs:starEach [a] X.env=(false,eval a X.env)::starEach [] X.env:=by rfl):SX X c (.Call (.Name x p') [a] [] pos) (.blt .Wz [pa]):=by subst hx;exact oF (fun h=>mX (Yv hc) hg hm (by decide+kernel) h (he:=hs)) ha (fun ρ=>rfl) rfl hs
theorem M3{neg:Bool}{op:CmpOp}(hop:(op=.In/\neg=false)\/(op=.NotIn/\neg=true))(hu:X.A.units+8<cLine):fU X (compareOp op) (rD X.K (wK neg)):=by rintro pins s σ H x y v u Q I rx ry⟨F,d,e,r,sm,px,py,he,k⟩;cases d with
 |int j=>cases e with|dv ks ds=>
     cases he;obtain⟨q,ob,vs,rfl,hq,rs,hl⟩:=py.dv sm;have kr:=KR.zip rs hl;rw[px.int]at rx;obtain rfl:u=Value.ref q:=ry;have g:mZ H q (.int j) (jh (ent ks vs) (Sum.inl j:Key)):=.inl ⟨_,Sum.inl j,.inr ⟨ob,hq⟩,rfl,rfl⟩;have hh:(jh (ent ks vs) (Sum.inl j:Key)).isSome=ks.contains j:=by rw[kr.has j];congr 1;rw[List.map_fst_zip (by omega)]
     rcases hop with⟨rfl,rfl⟩|⟨rfl,rfl⟩;.refine Y7 (by omega) I g rx fun s3 I3=>⟨.bl (jh (ent ks vs) (Sum.inl j:Key)).isSome,H,I3,rfl,?_⟩;rw[hh];exact cg.cV sm (fL _) k
     .refine Cg (by omega) I g rx fun s3 I3=>⟨.bl (!(jh (ent ks vs) (Sum.inl j:Key)).isSome),H,I3,rfl,?_⟩;rw[hh];exact cg.cV sm (fL _) k|_=>cases he
 |_=>cases he
end
end HH
end
section
namespace PySem
section
variable{prog:Program}{w:World}{A:Around}{E:Value->Shared->Prop}{s:Shared}
theorem uQ{Q:List Value->Shared->Prop}{I l:Addr}{items:Array Value}(hh:A.handled=none)(hit:s.heap.IsRevIter I l ((items.size:Int)-1))(hl:s.heap.IsList l items)(hne:l≠I)(hlen:items.size<=2^24)(hQ:∀h' tk acc,(∀b o,b≠I->s.heap.get? b=some o->h'.get? b=some o)->s.heap.objs.size<h'.objs.size->ItemsOf (fun i v=>items[items.size-1-i]?=some v) acc items.size->Q acc.toList {s with heap:=h',toks:=tk}):
 wpAny (model prog w) A (collect (.ref I)) Q E s:=by have hIlt:I<s.heap.objs.size:=let⟨_,ho,_⟩:=hit;lt_size ho;have afu:l<s.heap.objs.size:=let⟨_,ho,_⟩:=hl;lt_size ho;unfold collect;refine wpAny_bind (wpAny_runValue (codeAny_builtin F.entry_proto_collect ?_));rw[Around.under_plainId F.plain_proto_collect _];show wpAny _ A.in1 (newList []>>=fun l=>again (.builtin "list.__iadd__" ⟨[l,.ref I],[]⟩)) _ _ s;refine wpAny_bind (wpAny_newObj_type ?_);refine wpAny_pure ⟨plainId_quiet F.plain_list_iadd _,codeAny_builtin F.entry_list_iadd ?_⟩;rw[Around.under_plainId F.plain_list_iadd _];show wpAny _ A.in1 (listExtendWith (.ref s.heap.objs.size) (.ref I) (.ref s.heap.objs.size)) _ _ _;refine lQ (A:=A) (R:=fun r s'=>match r with
  |.ok (.ret v)=>wpAny (model prog w) A (match v with
   |.ref a=>do let o<-load a match o.data with|.seq xs _=>pure xs.toList|_=>unsupported "internal:collect"
   |_=>unsupported "internal:collect") Q E s'|.ok _=>False|.error e=>E e s') (s:={s with heap:=s.heap.push {cls:=.type "list",data:=.seq #[]}}) hh (hit.at fun o e=>dC e) (hl.at fun o e=>dC e) hne hlen s.heap.objs.size (Ne.symm (ne_of_lt hIlt)) (Ne.symm (ne_of_lt afu)) _ 0 (get?_push_size _ rfl) fun h' tk acc c' hk hS hacc=>?_;refine wpAny_bind (wpAny_load hS ?_);exact wpAny_pure (hQ h' tk acc (fun b o hb e=>hk b o (ne_of_lt (lt_size e)) hb (dC e)) (lt_size hS) hacc)
end
theorem jL(I l:Addr)(items:Array Value)(hne:l≠I)(hsz:items.size<=2^24):Meets (Builtin.«tuple.__new__» ⟨[.type "tuple",.ref I],[]⟩) (fun A R s=>A.handled=none/\s.heap.IsRevIter I l ((items.size:Int)-1)/\s.heap.IsList l items/\∀(h':Heap)(tk:Nat),(∀b o,b≠I->s.heap.get? b=some o->h'.get? b=some o)->s.heap.objs.size<h'.objs.size->∀acc:Array Value,acc=items.reverse->R (.ok (.ret (.ref h'.objs.size))) {s with heap:=h'.push {cls:=.type "tuple",data:=.seq acc},toks:=tk}):=.of_wp fun prog w A R s h=>by
  obtain⟨hh,hit,hl,h⟩:=h;have hsub:=sub_tuple_self;have hinit:=init_tuple_lookup;have hmh:=madeHere_tuple;have hT:Shared.TypeIs s (.ref I) "list_reverseiterator":=hit.typeIs;obtain⟨o,ho,hc,hd⟩:=id hit;obtain⟨hp,g,d,tk,os⟩:=s;wp_walk using AutoSeq1.wpAny_loadPart' ho,wpAny_typeOf hT,uQ (A:=A.in1) hh hit hl hne hsz;intro h' tk' acc hk hlt hacc;show wpAny _ _ (tupleExact acc.toList.toArray>>=fun v=>ret v) _ _ _;have e:acc.toList.toArray=acc:=by simp
  have er:acc=items.reverse:=by refine Array.ext (by rw[hacc.1,Array.size_reverse]) fun j h1 h2=>?_;have:=hacc.2 j _ (Array.getElem?_eq_getElem h1);rw[Array.getElem_reverse];have h3:=Array.getElem?_eq_some_iff.mp this;exact h3.2.symm
  rw[e];unfold tupleExact;refine wpAny_bind (wpAny_newObj_type ?_ (by show acc.size<=sizeLine;rw[hacc.1,sizeLine_eq];omega));exact wpAny_pure ⟨_,rfl,h h' tk' hk hlt acc er⟩
section
variable{prog:Program}{w:World}{A:Around}{E:Value->Shared->Prop}{s:Shared}
theorem o4{I l:Addr}{items:Array Value}{Q:Value->Shared->Prop}(hh:A.handled=none)(hit:s.heap.IsRevIter I l ((items.size:Int)-1))(hl:s.heap.IsList l items)(hne:l≠I)(hsz:items.size<=2^24)(h:∀(h':Heap)(tk:Nat),(∀b o,b≠I->s.heap.get? b=some o->h'.get? b=some o)->s.heap.objs.size<h'.objs.size->Q (.ref h'.objs.size) {s with heap:=h'.push {cls:=.type "tuple",data:=.seq items.reverse},toks:=tk}):wpAny (model prog w) A (call (.type "tuple") [.ref I]) Q E s:=callType_new F.called_tuple (by decide) (F.typeCall_tuple_1 _) (F.newCall_tuple_1 _) (fun obj=>F.args_object_init_2 obj _) F.entry_tuple_new (jL I l items hne hsz) ⟨hh,hit,hl,fun h' tk hk hlt acc e=>by subst e;exact⟨⟨_,get?_push_size _ rfl,rfl⟩,h h' tk hk hlt⟩⟩
end
end PySem
namespace L2
open PySem PySem.Spec PyProof.Rows
section
variable{X:Cx}{pins:List (Addr×Obj)}{σ:St}{H:Hp}{s:Shared}{E:Value->Shared->Prop}
theorem yP{a:Expr}{ta:TE}{p pos p2 pos2:Pos}(hc:X.calm=true)(hgL:Gl X "tuple")(hmL:X.mg "tuple"=none)(hg:Gl X "reversed")(hm:X.mg "reversed"=none)(ha:PE X a ta)(hs:starEach [a] X.env=[(false,eval a X.env)]:=by rfl)(hs2:starEach [.Call (.Name "reversed" p) [a] [] pos] X.env=[(false,eval (.Call (.Name "reversed" p) [a] [] pos) X.env)]:=by rfl):PE X (.Call (.Name "tuple" p2) [.Call (.Name "reversed" p) [a] [] pos] [] pos2) (fun σ H Q=>ta σ H fun x H1=>∃ad xs,x=.ref ad/\dX X.K H1 ad xs/\∀l,H1 l=none->Q (.ref l) (upd H1 l (.tup xs.reverse))):=by
 intro pins s σ H Q I h;refine Call_ (iM I hgL hmL wF (PyProof.Rows.callWith_type1 ?_ hs2 rfl));rw[hs2];show wpAny _ _ (spliced ((false,eval (.Call (.Name "reversed" p) [a] [] pos) X.env)::[])) _ _ _;refine Calls.spliced_cons (Call_ (iM I hg hm pX (PyProof.Rows.callWith_type1 (bR ((bK ha dH hs) pos pins s σ H (fun vs H1=>match vs with|[x]=>∃ad xs,x=.ref ad/\dX X.K H1 ad xs/\∀l,H1 l=none->Q (.ref l) (upd H1 l (.tup xs.reverse))|_=>False) I h) ?_) hs rfl)));rintro us s1⟨vs,H1,I1,r1,q1⟩;obtain⟨ad,xs,hq,q,vs1⟩:∃ad xs,dX X.K H1 ad xs/\(∀l,H1 l=none->Q (.ref l) (upd H1 l (.tup xs.reverse)))/\vs=[.ref ad]:=by cases vs with|nil=>cases q1|cons x r=>cases r with|nil=>obtain⟨ad,xs,rfl,q,q'⟩:=q1;exact⟨ad,xs,q,q',rfl⟩|cons _ _=>cases q1
 subst vs1;obtain⟨u,rfl,ru⟩:=r1.one;cases ru;obtain⟨its,rv,pl,hz⟩:=I1.list hq;have hsz:its.toArray.size=xs.length:=by rw[size_toArray,<-rv.length]
 refine call_reversed_list pl.isList (Calls.spliced_nil ?_);have hne:ad≠s1.heap.objs.size:=ne_of_lt (let⟨_,ho,_⟩:=pl.isList;lt_size ho);have hl2:(s1.heap.push (revObj ad ((its.toArray.size:Int)-1))).IsList ad its.toArray:=pl.isList.at fun o e=>dC e;refine o4 (I1.ok.hd hc) (I:=s1.heap.objs.size) (l:=ad) (items:=its.toArray) ⟨_,get?_push_size _ rfl,rfl,rfl⟩ hl2 hne (by rw[hsz];exact le_trans hz (by decide)) fun h' tk hk hlt=>?_;have hsz2:(s1.heap.push (revObj ad ((its.toArray.size:Int)-1))).objs.size=s1.heap.objs.size+1:=size_push ..;dsimp only at hk hlt ⊢;rw[hsz2]at hlt;have er:its.toArray.reverse=its.reverse.toArray:=by simp
 rw[er];refine⟨.ref h'.objs.size,_,I1.laid (t':=tk) (o:=.tup xs.reverse) (h':=h'.push {cls:=.type "tuple",data:=.seq its.reverse.toArray}) (fun b o e=>dC (hk b o (ne_of_lt (lt_size e)) (dC e))) (by omega) ?_,rfl,q _ (I1.hok.fresh (by omega))⟩;exact⟨by rw[List.length_reverse];exact hz,_,rv.reverse,IsTup.new _ _⟩
end
end L2
namespace HH
open PySem L2 PySem.Spec PyProof.Rows
section
variable{X:Cx}{c:Call}{a:Expr}{pa:P}{pos:Pos}
theorem yV{x y:Str}{p' q' pos':Pos}(hy:y="tuple")(hx:x="reversed")(hc:X.calm=true)(hgL:Gl X y)(hmL:X.mg y=none)(hg:Gl X x)(hm:X.mg x=none)(ha:SX X c a pa)(hs:starEach [a] X.env=[(false,eval a X.env)]:=by rfl)(hs2:starEach [.Call (.Name x p') [a] [] pos] X.env=[(false,eval (.Call (.Name x p') [a] [] pos) X.env)]:=by rfl):SX X c (.Call (.Name y q') [.Call (.Name x p') [a] [] pos] [] pos') (.blt .rvT [pa]):=by subst hx hy;obtain⟨ta,h1,h2⟩:=ha.cC;refine⟨dB (yP hc hgL hmL hg hm h1 hs hs2) ?_,fun i h=>by cases h⟩;rintro σ H Q⟨F,ρ,r,ρ',g,e,k⟩;rw[HH.E17]at e;obtain⟨d,ρ2,e1,e2⟩:=aj e;have zz:=aD e2;clear e2;obtain⟨e2,e3⟩:=zz;subst e3;cases d with|lst ds=>cases e2;refine h2 g e1 ?_;rintro v F' H' s pv;obtain⟨ad,xs,rfl,hq,rs⟩:=pv.lst s.gs.sub;exact⟨ad,xs,rfl,hq,fun l hl=>yW s.gs.sub (aG.rev rs) hl fun v F2 H2 xt rn=>k v F2 H2 (s.trans (xt.stp s.gs)) (.later s (rn.pq s.gs))⟩|_=>cases e2
end
end HH
end
section
namespace L2
open PySem PySem.Spec PyProof.Rows PySem.Calls
section
variable{X:Cx}
theorem Hd:WW X (Yt X.K):=by
 intro pins s σ H x y v u Q I rx ry h;obtain⟨p,xs,i,z,rfl,rfl,hq,he,q⟩:=h;cases rx;obtain⟨t,rfl⟩:=ry;obtain⟨its,r,pl,hz⟩:=I.list hq;obtain⟨j,h1,h2,h3,h4,h5⟩:=uK he;obtain⟨w,ew,vI⟩:=r.get h2;have hl:=r.length;have hn:=qX;have fin:EP X pins σ Q w s:=⟨z,H,I,vI,q⟩;by_cases h0:0<=i
 . have hj:i.toNat=j:=by rw[seqIndex_of h0 h5]at h1;exact Option.some.inj h1
   exact wpAny_getItem_list pl.isList h0 (by omega) (by rw[hj];simpa using ew) fin
 . have hj:(i+(its.toArray.size:Int)).toNat=j:=by rw[seqIndex_neg (by omega) h4]at h1;rw[size_toArray,<-hl];exact Option.some.inj h1
   exact wpAny_getItem_list_neg pl.isList (by omega) (by rw[size_toArray]<;>omega) (by omega) (by rw[hj];simpa using ew) fin
end
end L2
namespace HH
open PySem L2 PySem.Spec PyProof.Rows PySem.Calls PySem.W
section
variable{X:Cx}{c:Call}{n:Nat}{a b e:Expr}{pa pb p:P}{pos:Pos}
set_option maxHeartbeats 800000 in
theorem Bu{k e:Int}{t1 t2 p1 p2 p3}:SX X c (.Dict [some (.Constant (.int k) t1 p1)] [.Constant (.int e) t2 p2] p3) (.zR k e):=by
 refine⟨?_,fun i h=>by cases h⟩;intro pins s σ H Q I h;obtain⟨F,ρ,r,ρ',g,e',kk⟩:=h;rw[HH.E28]at e';cases e';have em:nC [] [((Sum.inl k:Key),V.int e)]=ent [k] [.int e]:=rfl;have pe:=Cz (X:=X) (pos:=p3) (xu (qO (i:=k) (j:=t1) (pos:=p1)) (qO (i:=e) (j:=t2) (pos:=p2)) Br) rfl rfl (by simp) (by simp);refine bR (pe pins s σ H (fun v H'=>∃q,v=.ref q/\H q=none/\H'=upd H q (Bf [k] [.int e])) I ?_) fun u s1⟨v,H1,I1,r1,q,e1,hn,e2⟩=>?_;.intro q hq;refine⟨aM,[(Sum.inl k,.int e)],rfl,by simp,q,rfl,hq,?_⟩;rw[uF,em];rfl
 subst e1 e2;obtain⟨o,I2⟩:=Inv.Hw I1 (a:=q) (kvs:=ent [k] [.int e]) aM;rw[uF]at I2;have fp:F q=none:=by cases z:F q with|none=>rfl|some o=>rw[g.sub q o z]at hn;cases hn
 have sm:aF F (upd F q (.cX o (Bf [k] [.int e]))):=aF.bW fp;refine⟨.ref q,_,I2,r1,kk _ (upd F q (.cX o (Bf [k] [.int e]))) _ (Ext.stp g ⟨aF.bW hn,sm,fun b o e=>?_,fun b n n'=>?_⟩) ?_⟩
 . by_cases hb:b=q;.subst hb;rw[aM]at e ⊢;exact e
   .rw[aC hb]at e ⊢;exact g.sub b o e
 . by_cases hb:b=q;.subst hb;exact jU hn
   .rw[aC hb]at n';exact absurd n n'
 .show Rep X.K _ _ (.dv [k] [.int e]);rw[Rep];exact⟨q,o,[.int e],rfl,aM,.cons (bN _) .nil,rfl⟩
theorem MN{x:Str}{k:Nat}{px tpos:Pos}{op:Operator}{sub:Bool}(ho:Pr X op (Wa fun i j=>if sub then i-j else i+j))(hN:X.N[k]?=some x)(hv:xg X.env.scope x)(hi:SX X c b pb)(he:SX X c e p)(ha:∀ov iv new,augStore b ov iv new=(do holding [new,ov,iv] (setItem ov iv new);release [new,ov,iv] [];pure .next):=by intros;rfl)(hd:(x==("__debug__":Str))=false:=by decide)(hcd:(x==("__classdict__":Str))=false:=by decide):SS X c n (.AugAssign (.Subscript (.Name x px) b tpos) op e pos) (.JG k pb sub p):=by
 obtain⟨ti,hi1,hi2⟩:=hi.cC;obtain⟨te,he1,he2⟩:=he.cC;refine dD (M9 (fH hN hv hd hcd) hi1 Hd he1 ho set_list ha) ?_;rintro D σ H⟨F,ρ,fl,ρ',g,e,kk⟩;rw[HH.X17]at e;obtain⟨x0,ρ0,e0',eA⟩:=aj e;clear e;obtain⟨e0,Ez⟩:=aD e0';clear e0';subst Ez;obtain⟨dk,ρ1,e1,eB⟩:=aj eA;clear eA;obtain⟨l,ρ2,e2',eC⟩:=aj eB;clear eB;obtain⟨e2,e21⟩:=aD e2';clear e2';subst e21;obtain⟨ra,ρ3,e3',eD⟩:=aj eC;clear eC;obtain⟨e3,e31⟩:=aD e3';clear e3';subst e31;obtain⟨db,ρ4,e4,eE⟩:=aj eD;clear eD;obtain⟨o1,Tw,ho1,_⟩:=By g e0;refine⟨.ref o1,ho1,hi2 g e1 fun vi F1 H1 s1 pi=>?_⟩;split at eE
 . rename_i u v bb ds kz q;split at eE
   . rename_i j hj;cases eE;obtain⟨i0,f3,f5⟩:=bV e3;have hi0:i0=kz:=by cases f3;rfl
     subst hi0;have e2':pk ρ1 k=some (.lst l):=by
      unfold Fg at e2;split at e2;.rename_i z;cases e2;exact z
      .cases e2
     obtain⟨o',ho2,po⟩:=s1.gs.pk e2';rw[ho1]at ho2;cases ho2;obtain⟨ad,xs,hr,hL,rs⟩:=po.lst s1.gs.sub;cases hr;obtain⟨j0,h1,h2⟩:=Jc f5;obtain⟨w,h3,h4⟩:=rs.get h2;have hat:Jd xs i0=some w:=by unfold Jd;rw[rs.length,h1];exact h3
     have hw:w=.int u:=by rw[Rep]at h4;exact h4
     subst hw;refine⟨o1,xs,i0,.int u,rfl,pi.int,hL,hat,he2 s1.gs e4 fun vb F2 H2 s2 pb=>⟨u,v,rfl,pb.int,?_⟩⟩;obtain⟨ad2,zs,z1,z2,z3,z4⟩:=s2.gs.mz k _ ds q rfl;rw[ho1]at z1;cases z1;refine⟨o1,zs,i0,j,rfl,pi.int,z2,by rw[z4.length];exact hj,?_⟩;exact kk F2 σ _ ((s1.trans s2).trans (s2.gs.mut q ho1 (z4.set (bN _) j)))
   .cases eE
 .cases eE
end
section
variable{X:Cx}{c:Call}{n:Nat}{a b e:Expr}{pa pb p:P}{pos:Pos}
theorem MJ{neg:Bool}{o:Op}{op:CmpOp}(hop:(op=.In/\neg=false)\/(op=.NotIn/\neg=true))(hq:rT o=wK neg)(hu:X.A.units+8<cLine)(ha:SX X c a pa)(hb:SX X c b pb)(hm:behindInMarks op b=false):ST X c (.Compare a [op] [b] pos) (.bin o pa pb):=by obtain⟨ta,tb,h1,h2,h3⟩:=ha.iw hb;refine wJ (Bl (M3 hop hu) h1 h2 hm) fun σ H Q q=>nQ (t:=QS (rD X.K (wK neg)) ta tb) (fun Q z=>?_) q;obtain⟨F,ρ,r,ρ',g,e,k⟩:=z;rw[HH.E4]at e;obtain⟨xy,ρ1,e1,e2⟩:=aj e;have zz:=aD e2;clear e2;obtain⟨e2,e3⟩:=zz;subst e3;rw[hq]at e2;refine h3 g e1 fun v u F' H' s pv pu=>⟨F',xy.1,xy.2,r,s.gs.sub,pv,pu,e2,fun w F2 H2 x rn=>?_⟩;exact k w F2 H2 (s.trans (x.stp s.gs)) (.later s (rn.pq s.gs))
theorem QG(hu:X.A.units+8<cLine)(ha:SX X c a pa)(hb:SX X c b pb)(hm:behindInMarks .In b=false):ST X c (.Compare a [.In] [b] pos) (.bin .din pa pb):=MJ (.inl ⟨rfl,rfl⟩) rfl hu ha hb hm
theorem Ss{i:Nat}{x:Str}{px:Pos}{pk:P}{neg:Bool}{op:CmpOp}(hop:(op=.In/\neg=false)\/(op=.NotIn/\neg=true))(hu:X.A.units+8<cLine)(hN:X.N[i]?=some x)(hv:xg X.env.scope x)(ha:SX X c a pk)(hb:behindInMarks op (.Name x px)=false)(hd:(x==("__debug__":Str))=false:=by decide)(hcd:(x==("__classdict__":Str))=false:=by decide):ST X c (.Compare a [op] [.Name x px] pos) (.Qe i pk neg):=wJ (RW (Q6 hop hu hN hv ha hd hcd) hb) fun σ H Q q=>nQ (fun _ z=>z) q
end
end HH
end
section
namespace HH
open PySem L2 PySem.Spec PyProof.Rows
section
variable{X:Cx}{c:Call}{n:Nat}{pos:Pos}
def aed(k e:Int):TE:=fun _ H Q=>∀p,H p=none->Q (.ref p) (upd H p (.dK [(Sum.inl k,.int e)]))
theorem TX{k e:Int}{t1 t2 p1 p2 p3}:PE X (.Dict [some (.Constant (.int k) t1 p1)] [.Constant (.int e) t2 p2] p3) (aed k e):=by refine dB (Cz (X:=X) (pos:=p3) (xu (qO (i:=k) (j:=t1) (pos:=p1)) (qO (i:=e) (j:=t2) (pos:=p2)) Br) rfl rfl (by simp) (by simp)) ?_;intro σ H Q h q hq;refine⟨aM,[(Sum.inl k,.int e)],rfl,by simp,?_⟩;rw[uF];exact h q hq
set_option maxHeartbeats 1000000 in
theorem Mr{i:Nat}{x:Str}{k e:Int}{t1 t2 p1 p2 p3}{pos':Pos}(hN:X.N.Nodup)(hi:X.N[i]?=some x)(hx:Loc X.env.scope x)(hs:swapsWith (.Dict [some (.Constant (.int k) t1 p1)] [.Constant (.int e) t2 p2] p3) (some (.Name x pos')) pos.line X.env=pure false:=by rfl)(hf:X.fn x=true\/X.env.scope.names.lookup x=some .local:=by first|exact .inl rfl|exact .inr rfl|assumption):SS X c n (.Assign [.Name x pos'] (.Dict [some (.Constant (.int k) t1 p1)] [.Constant (.int e) t2 p2] p3) pos) (.JM i k e):=by
 have h0:=uE hN hi hx (TX (X:=X) (k:=k) (e:=e) (t1:=t1) (t2:=t2) (p1:=p1) (p2:=p2) (p3:=p3)) hs hf;show PS X _ _;refine dD h0 ?_;rintro D σ H⟨F,ρ,fl,ρ',g,e',kk⟩;rw[HH.X25]at e';have go:∀s0,ρ[i]?=some s0->sI s0=false->fl=.next->ρ'=ρ.set i (.cF [(k,.int e)])->∀a,H a=none->D.nx (σ.set i (some (.ref a))) (upd H a (.dK [(Sum.inl k,.int e)])):=fun s0 q hl hfl hρ a ha=>by subst hfl hρ;exact kk F _ _ (g.newV (kvs:=[(k,.int e)]) q hl (KR.oc (.cons (bN _) .nil)) ha)
 split at e';.rename_i q;cases e';exact go _ q rfl rfl rfl
 .rename_i q;cases e';exact go _ q rfl rfl rfl
 .rename_i q;cases e';exact go _ q rfl rfl rfl
 .cases e'
end
end HH
end
noncomputable section
set_option maxHeartbeats 4000000
namespace T
open PySem L2 PySem.Spec PyProof.Rows HH
local macro_rules|`(term|⇑$n)=>`(P.con (.int $n))
local macro_rules|`(term|↑$n)=>`(P.var $n)
local macro_rules|`(tactic|ac_rfl)=>`(tactic|first|exact Or.inl rfl|exact Or.inr (Or.inl rfl))
set_option hygiene false
local macro_rules|`(term|↥($a,$b,$d))=>`(m5 Pg w K mg base Ft (k+1) f fd $a (Mm K $b (fun args=>enter c n $d args)))
local macro_rules|`(term|↥($a,$b,$d,0))=>`(aQ Pg w K mg base k c $a $b $d)
set_option hygiene true
local macro_rules|`(term|⇑($x))=>`(fun _ _ _ _ _=>$x)
local macro_rules|`(term|nofun)=>`(⟨rfl,rfl,rfl,by decide+kernel,rfl,by decide+kernel,by decide+kernel⟩)
local macro_rules|`(tactic|exists$e)=>`(tactic|with_reducible refine$e)
local macro_rules|`(tactic|lia)=>`(tactic|with_reducible refine aL ?_ ?_)
set_option hygiene false
local macro_rules|`(tactic|exists$i,$e)=>`(tactic|((with_reducible refine nD (i:=$i) ?_ ?_ ?_ ?_ ?_ ?_);exact nd;exact rfl;exact oi;rotate_left;rfl;exact oi;exact$e))
local macro_rules|`(tactic|exists$i,$e,0)=>`(tactic|((with_reducible refine Li (i:=$i) ?_ ?_ ?_ ?_ ?_ ?_ ?_ ?_ ?_);exact PassesOwn.never;exact hc;exact nd;exact rfl;exact oi;exact$e;rotate_left;(· intro _;rfl);exact oi))
local macro_rules|`(tactic|exists$a,$b,0,0)=>`(tactic|(refine Zb $a $b rfl rfl fun cdv A outer s H E hr=>?_;have nd:=($b).nd))
local macro_rules|`(tactic|exists(),$e)=>`(tactic|((with_reducible refine SN ?_);exact$e))
set_option hygiene true
local macro_rules|`(term|‹$l›)=>`((show(($l):List Str).Nodup by decide+kernel))
theorem hc:true=true:=rfl
theorem oi{α:Type}{a:α}{p:Prop}:a=a\/p:=.inl rfl
theorem aR{X:Cx}{c:Call}{a:Expr}{es:List Expr}{pa:P}{ps:List P}(ha:SX X c a pa)(hr:SG X c es ps)(h:nst a=true):SG X c (a::es) (pa::ps):=Mt ha hr (iT h)
theorem dR{X:Cx}{c:Call}{a:Expr}{es:List Expr}{pa:P}{ps:List P}(ha:SX X c a pa)(hr:SA X c es ps)(h:nst a=true):SA X c (a::es) (pa::ps):=pB ha hr (iT h)
variable{Pg:Program}{w:World}{K:PySem.W.Frag}{mg:Str->Option Value}{base:Heap}{f:Addr}{fd:FuncData}{k n:Nat}{c:Call}{cl:Nat->Addr}
noncomputable def top(i:Nat):Stmt:=PySem.Challenge.pw_hourhaul_k86_best_forth_told.main.body.getD i (.Pass ⟨0,0,0,0⟩)
abbrev s0:Stmt:=top 6
noncomputable def b0:List S:=[.asg 2 (.idx (.idx ↑0 ⇑1) (.idx ↑1 ⇑0)),.ret (.Qc (.idx ↑1 ⇑1) (.tup [.idx ↑2 ⇑0,.idx ↑2 ⇑1]) (.tup [.idx ↑2 ⇑1,.idx ↑2 ⇑0]))]
def f0:Fd:=⟨2,3,b0⟩
theorem sc0:aH ["net","step","way"] ["net","step"] (az s0):=nofun
include cl in
theorem d0(Fu:fX K "step_places" "step_places" s0 f fd):↥(["net","step"],2,f0):=by
 exists Fu,sc0,0,0;refine aL ?_ ?_;.exists 2,ao (ao (sv 0) aa) (ao (sv 1) aa)
 lia;.exists(),uO (gw (ao (sv 1) aa)) (cJ (dR (ao (sv 2) aa) (dR (ao (sv 2) aa) aX rfl) rfl)) (cJ (dR (ao (sv 2) aa) (dR (ao (sv 2) aa) aX rfl) rfl))
 exact aq
abbrev s1:Stmt:=top 7
noncomputable def b1:List S:=[.asg 2 (.idx (.idx (.idx ↑0 ⇑1) (.idx ↑1 ⇑0)) ⇑3),.ret (.Qc (.idx ↑1 ⇑1) ↑2 (.neg ↑2))]
def f1:Fd:=⟨2,3,b1⟩
theorem sc1:aH ["net","step","hours"] ["net","step"] (az s1):=nofun
include cl in
theorem d1(Fu:fX K "step_hours" "step_hours" s1 f fd):↥(["net","step"],2,f1):=by
 exists Fu,sc1,0,0;refine aL ?_ ?_;.exists 2,ao (ao (ao (sv 0) aa) (ao (sv 1) aa)) aa
 lia;.exists(),uO (gw (ao (sv 1) aa)) (sv 2) (Fy (sv 2))
 exact aq
abbrev s2:Stmt:=top 8
noncomputable def b2:List S:=[.asg 3 (.idx ↑1 (.idx ↑2 ⇑0)),.ret (.Qc (.idx ↑2 ⇑1) (.bin .sub (.idx (.idx (.idx ↑0 ⇑1) (.idx ↑2 ⇑0)) ⇑2) ↑3) ↑3)]
def f2:Fd:=⟨3,4,b2⟩
theorem sc2:aH ["net","stream","step","loads"] ["net","stream","step"] (az s2):=nofun
include cl in
theorem d2(Fu:fX K "step_room" "step_room" s2 f fd):↥(["net","stream","step"],3,f2):=by
 exists Fu,sc2,0,0;refine aL ?_ ?_;.exists 3,ao (sv 1) (ao (sv 2) aa)
 lia;.exists(),uO (gw (ao (sv 2) aa)) (au dm (ao (ao (ao (sv 0) aa) (ao (sv 2) aa)) aa) (sv 3)) (sv 3)
 exact aq
abbrev s3:Stmt:=top 9
noncomputable def b3:List S:=[.ret (.blt .sum [.comp ↑1 1 [2] true none (.call 1 [↑0,↑2])])]
def f3:Fd:=⟨2,2,b3⟩
theorem sc3:aH ["net","steps"] ["net","steps"] (az s3):=nofun
include cl in
theorem d3(Fu:fX K "steps_hours" "steps_hours" s3 f fd)(jg:mg "sum"=none)(iZ:↥(1,"step_hours",2,0)):↥(["net","steps"],2,f3):=by
 exists Fu,sc3,0,0;refine aL ?_ ?_;.exists(),uH rfl hc (by rfl) jg (fc (N':=["net","steps","step"]) hc (uD rfl (by rfl)) (dG (sv 1)) ⇑(aJ (i:=2) ‹["net","steps","step"]› rfl (Or.inl rfl) (Or.inr rfl)) (cP (dh)) ⇑(cj) ⇑((cU iZ hr (aR (sv 0) (aR (sv 2) aA rfl) rfl))))
 exact aq
abbrev s4:Stmt:=top 10
noncomputable def b4:List S:=[.JK 2 (.sy ⇑0 (.idx ↑0 ⇑0)) 1 [5] true (.lst []),.Ex (.sy ⇑0 (.blt .len [.idx ↑0 ⇑1])) [3] true [.Ex (.tup [.tup [↑3,.con (.bl true)],.tup [↑3,.con (.bl false)]]) [4] true [.ifs (.cmp .gt (.call 2 [↑0,↑1,↑4]) ⇑0) [.JL 2 (.idx (.call 0 [↑0,↑4]) ⇑0) ↑4] []]],.cX 2,.ret ↑2]
def f4:Fd:=⟨2,5,b4⟩
theorem sc4:aH ["net","stream","steps","number","step"] ["net","stream"] (az s4):=nofun
include cl in
theorem d4(Fu:fX K "open_steps" "open_steps" s4 f fd)(aY:mg "len"=none)(bz:mg "range"=none)(dM:↥(0,"step_places",2,0))(jN:↥(2,"step_room",3,0)):↥(["net","stream"],2,f4):=by exists Fu,sc4,0,0;exact(by(refine K5 (i:=2) (N':=["net","stream","steps","number","step","place"]) (g:=jl 5) ?_ ?_ ?_ ?_ ?_ ?_ ?_ ?_ ?_ ?_ ?_ ?_ ?_ ?_);exact hc;exact nd;exact rfl;exact oi;exact uD rfl (by rfl);exact fP rfl (by rfl) bz (ao (sv 0) aa);exact ⇑(aJ (i:=5) ‹["net","stream","steps","number","step","place"]› rfl (Or.inl rfl) (Or.inr rfl));exact cP (dh);exact ⇑(cj);exact ⇑((eU aX));(· exists Jr ?_ ?_;(· exists Cq (g:=jl 3) ?_ ?_ ?_ ?_ ?_ ?_ ?_;exact PassesOwn.never;exact hc;(· exists Gy ?_ ?_ ?_ ?_ ?_;exact rfl;rfl;exact bz;exact cI rfl (by rfl) aY (ao (sv 0) aa);rfl);exact aJ (i:=3) nd rfl oi oi;(· rw[nG];exact ur 3);(· exists qI ?_ ?_;(· exists Cq (g:=jl 4) ?_ ?_ ?_ ?_ ?_ ?_ ?_;exact PassesOwn.never;exact hc;exact KC (cJ (dR (cJ (dR (sv 3) (dR mq aX rfl) rfl)) (dR (cJ (dR (sv 3) (dR mq aX rfl) rfl)) aX rfl) rfl));exact aJ (i:=4) nd rfl oi oi;(· rw[nG];exact ur 4);(· exists qI ?_ ?_;(· exists Qm ?_ ?_ ?_;exact cB lq (cU jN hr (aR (sv 0) (aR (sv 1) (aR (sv 4) aA rfl) rfl) rfl)) aa (bM _);(· exists qI ?_ ?_;(· exists Im (k:=2) ?_ ?_ ?_ ?_ ?_ ?_ ?_ ?_ ?_ ?_ ?_ ?_;exact rfl;(· first|exact Or.inl rfl|exact Or.inr (Or.inl rfl));exact ao (cU dM hr (aR (sv 0) (aR (sv 4) aA rfl) rfl)) aa;exact sv 4;(· intro _ _;rfl);rfl;rfl;rfl;rfl;rfl;rfl;rfl);exact pD);exact pD);exact pD);(· intro _;rfl));exact pD);(· intro _;rfl));(· exists Mh ?_;(· lia;(· exists(),sv 2);exact aq)));rfl;(· intro _;rfl);exact oi)
abbrev s5:Stmt:=top 11
noncomputable def b5:List S:=[.asg 3 (.call 4 [↑0,↑1]),.Ey 4,.iY (.blt .keys [↑2]) [5] true [.fM 4 ↑5 (.tup [.bin .zQ ↑2 ↑5,⇑0,.con .non])],.asg 6 (.blt .Wz [↑2]),.whl (.cmp .gt (.blt .len [↑6]) ⇑0) [.Ey 7,.iY ↑6 [5] true [.iY (.idx ↑3 ↑5) [8] true [.asg 9 (.idx (.call 0 [↑0,↑8]) ⇑1),.asg 10 (.tup [.bin .add (.idx (.Qd 4 ↑5) ⇑0) (.call 1 [↑0,↑8]),.bin .add (.idx (.Qd 4 ↑5) ⇑1) ⇑1]),.ifs (.or (.Qe 4 ↑9 true) (.cmp .lt ↑10 (.slice (.Qd 4 ↑9) (.con .non) ⇑2))) [.fM 4 ↑9 (.bin .add ↑10 (.tup [↑8])),.fM 7 ↑9 (.con (.bl true))] []]],.asg 6 (.blt .Wz [.vw 7])],.ret ↑4]
def f5:Fd:=⟨3,11,b5⟩
theorem sc5:aH ["net","stream","begun","steps","come","place","row","changed","step","to","found"] ["net","stream","begun"] (az s5):=nofun
include cl in
theorem d5(Fu:fX K "shortest_come" "shortest_come" s5 f fd)(aY:mg "len"=none)(gY:mg "list"=none)(vJ:↥(4,"open_steps",2,0))(iZ:↥(1,"step_hours",2,0))(dM:↥(0,"step_places",2,0)):↥(["net","stream","begun"],3,f5):=by
 exists Fu,sc5,0,0;refine aL ?_ ?_;.exists 3,cU vJ hr (aR (sv 0) (aR (sv 1) aA rfl) rfl)
 lia;.exact(Bm (i:=4) nd rfl oi (by rfl) (Or.inl rfl))
 lia;.exists 5,Mi (sv 2),0;(· lia;exact pK (i:=4) (bG hr) rfl (by ac_rfl) (sv 5) (cJ (dR (pJ (bG hr) (sv 2) (sv 5) (fun _ _=>rfl)) (dR aa (dR Il aX rfl) rfl) rfl)) (by rfl);exact aq)
 lia;.exists 6,GJ rfl hc (by rfl) gY (sv 2)
 lia;.exact(yj PassesOwn.never (cB lq (cI rfl (by rfl) aY (sv 6)) aa (bM _)) (by lia;exact Bm (i:=7) nd rfl oi (by rfl) (Or.inl rfl);(· lia;(· exists 5,dG (sv 6),0;(· lia;(· exists 8,dG (ao (sv 3) (sv 5)),0;(· lia;(· exists 9,ao (cU dM hr (aR (sv 0) (aR (sv 8) aA rfl) rfl)) aa);(· lia;(· exists 10,cJ (dR (au aN (ao (zF (i:=4) (bG hr) rfl (by ac_rfl) (sv 5) (fun _ _=>rfl)) aa) (cU iZ hr (aR (sv 0) (aR (sv 8) aA rfl) rfl))) (dR (au aN (ao (zF (i:=4) (bG hr) rfl (by ac_rfl) (sv 5) (fun _ _=>rfl)) aa) aa) aX rfl) rfl));(· lia;(· exists fj ?_ ?_ ?_;exact SW.st (tE (Ss (i:=4) (Or.inr ⟨rfl,rfl⟩) (bG hr) rfl (by ac_rfl) (sv 9) (by with_unfolding_all rfl)) (rF (cB (yS (bG hr)) (sv 10) (mH (zF (i:=4) (bG hr) rfl (by ac_rfl) (sv 9) (fun _ _=>rfl)) pN (pC aa)) (bM _))));(· lia;exact pK (i:=4) (bG hr) rfl (by ac_rfl) (sv 9) (au aN (sv 10) (cJ (dR (sv 8) aX rfl))) (by rfl);(· lia;exact pK (i:=7) (bG hr) rfl (by ac_rfl) (sv 9) mq (by rfl);exact aq));exact aq);exact aq))));exact aq));(· lia;(· exists 6,GJ rfl hc (by rfl) gY (qy (i:=7) rfl (by ac_rfl)));exact aq))))
 lia;.exists(),sv 4
 exact aq
abbrev s6:Stmt:=top 12
noncomputable def b6:List S:=[.asg 3 (.lst []),.asg 4 ↑2,.whl (.cmp .Nv (.idx (.bin .zQ ↑1 ↑4) ⇑2) (.con .non)) [.asg 5 (.idx (.bin .zQ ↑1 ↑4) ⇑2),.app 3 ↑5,.asg 4 (.idx (.call 0 [↑0,↑5]) ⇑0)],.ret (.blt .rvT [↑3])]
def f6:Fd:=⟨3,6,b6⟩
theorem sc6:aH ["net","come","place","steps","here","step"] ["net","come","place"] (az s6):=nofun
include cl in
theorem d6(Fu:fX K "steps_to" "steps_to" s6 f fd)(lF:mg "reversed"=none)(bj:mg "tuple"=none)(dM:↥(0,"step_places",2,0)):↥(["net","come","place"],3,f6):=by
 exists Fu,sc6,0,0;refine aL ?_ ?_;.exists 3,eU aX
 lia;.exists 4,sv 2
 lia;.exact(yj PassesOwn.never (cB MT (ao (pJ (bG hr) (sv 1) (sv 4) (fun _ _=>rfl)) aa) Il (bM _)) (by lia;(· exists 5,ao (pJ (bG hr) (sv 1) (sv 4) (fun _ _=>rfl)) aa);(· lia;exact dg (k:=3) rfl (by ac_rfl) (sv 5);(· lia;(· exists 4,ao (cU dM hr (aR (sv 0) (aR (sv 5) aA rfl) rfl)) aa);exact aq))))
 lia;.exists(),yV rfl rfl hc (by rfl) bj (by rfl) lF (sv 3)
 exact aq
abbrev s7:Stmt:=top 13
noncomputable def b7:List S:=[.asg 3 (.blt .list [↑0]),.iY ↑1 [4,5] false [.JG 3 ↑4 false (.Qc ↑5 ↑2 (.neg ↑2))],.ret ↑3]
def f7:Fd:=⟨3,6,b7⟩
theorem sc7:aH ["stream","steps","loads","changed","number","forth"] ["stream","steps","loads"] (az s7):=nofun
include cl in
theorem d7(Fu:fX K "stream_with" "stream_with" s7 f fd)(gY:mg "list"=none):↥(["stream","steps","loads"],3,f7):=by
 exists Fu,sc7,0,0;refine aL ?_ ?_;.exists 3,LR rfl (by rfl) gY (sv 0)
 lia;.exact(nP PassesOwn.never hc (dG (sv 1)) (eY hc (aU (aJ (i:=4) nd rfl oi oi) (aU (aJ (i:=5) nd rfl oi oi) di))) (nR rfl (cW _ _ (cW _ _ jZ 5) 4)) (by lia;exact MN (k:=3) (sub:=false) Kd rfl (by ac_rfl) (sv 4) (uO (gw (sv 5)) (sv 2) (Fy (sv 2)));exact aq))
 lia;.exists(),sv 3
 exact aq
abbrev s8:Stmt:=top 14
noncomputable def b8:List S:=[.asg 1 (.bin .sub (.idx ↑0 ⇑0) ⇑1),.asg 2 (.bin .mul (.lst [⇑0]) (.blt .len [.idx ↑0 ⇑1])),.asg 3 (.lst []),.asg 4 (.call 5 [↑0,↑2,.zR 0 0]),.whl (.bin .din ↑1 ↑4) [.asg 5 (.call 6 [↑0,↑4,↑1]),.asg 6 (.blt .JD [.comp ↑5 1 [7] true none (.call 2 [↑0,↑2,↑7])]),.app 3 (.tup [↑5,↑6]),.asg 2 (.call 7 [↑2,↑5,↑6]),.asg 4 (.call 5 [↑0,↑2,.zR 0 0])],.ret ↑3]
def f8:Fd:=⟨1,7,b8⟩
theorem sc8:aH ["net","end","stream","chains","come","steps","loads"] ["net"] (az s8):=nofun
include cl in
theorem d8(Fu:fX K "chains_to_end" "chains_to_end" s8 f fd)(aY:mg "len"=none)(mQ:mg "min"=none)(dO:↥(5,"shortest_come",3,0))(jN:↥(2,"step_room",3,0))(zX:↥(6,"steps_to",3,0))(gZ:↥(7,"stream_with",3,0)):↥(["net"],1,f8):=by
 exists Fu,sc8,0,0;refine aL ?_ ?_;.exists 1,au dm (ao (sv 0) aa) aa
 lia;.exists nD (i:=2) ?_ ?_ ?_ ?_ ?_ ?_;exact nd;exact rfl;exact Or.inr rfl;rotate_left;rfl;exact oi;exact au dj (eU (dR aa aX rfl)) (cI rfl (by rfl) aY (ao (sv 0) aa))
 lia;.exists 3,eU aX
 lia;.exists 4,cU dO hr (aR (sv 0) (aR (sv 2) (aR Bu aA rfl) rfl) rfl)
 lia;.exact(yj PassesOwn.never (QG (bG hr) (sv 1) (sv 4) (by with_unfolding_all rfl)) (by lia;(· exists 5,cU zX hr (aR (sv 0) (aR (sv 4) (aR (sv 1) aA rfl) rfl) rfl));(· lia;(· exists 6,Ms rfl hc (by rfl) mQ (fc (N':=["net","end","stream","chains","come","steps","loads","step"]) hc (uD rfl (by rfl)) (dG (sv 5)) ⇑(aJ (i:=7) ‹["net","end","stream","chains","come","steps","loads","step"]› rfl (Or.inl rfl) (Or.inr rfl)) (cP (dh)) ⇑(cj) ⇑((cU jN hr (aR (sv 0) (aR (sv 2) (aR (sv 7) aA rfl) rfl) rfl)))));(· lia;exact dg (k:=3) rfl (by ac_rfl) (cJ (dR (sv 5) (dR (sv 6) aX rfl) rfl));(· lia;(· exists nD (i:=2) ?_ ?_ ?_ ?_ ?_ ?_;exact nd;exact rfl;exact Or.inr rfl;rotate_left;rfl;exact oi;exact cU gZ hr (aR (sv 2) (aR (sv 5) (aR (sv 6) aA rfl) rfl) rfl));(· lia;(· exists 4,cU dO hr (aR (sv 0) (aR (sv 2) (aR Bu aA rfl) rfl) rfl));exact aq))))))
 lia;.exists(),sv 3
 exact aq
abbrev s9:Stmt:=top 15
noncomputable def b9:List S:=[.asg 2 (.lst []),.asg 3 ↑1,.iY ↑0 [4,5] false [.asg 6 (.blt .min2 [↑3,↑5]),.app 2 (.tup [↑4,↑6]),.aug 3 true ↑6],.ifs (.cmp .gt ↑3 ⇑0) [.bad] [],.ret ↑2]
def f9:Fd:=⟨2,7,b9⟩
theorem sc9:aH ["pairs","rate","cut","left","first","loads","taken"] ["pairs","rate"] (az s9):=nofun
include cl in
theorem d9(Fu:fX K "cut_to_rate" "cut_to_rate" s9 f fd)(mQ:mg "min"=none):↥(["pairs","rate"],2,f9):=by
 exists Fu,sc9,0,0;refine aL ?_ ?_;.exists 2,eU aX
 lia;.exists 3,sv 1
 lia;.exact(nP PassesOwn.never hc (dG (sv 0)) (eY hc (aU (aJ (i:=4) nd rfl oi oi) (aU (aJ (i:=5) nd rfl oi oi) di))) (nR rfl (cW _ _ (cW _ _ jZ 5) 4)) (by lia;(· exists 6,BK rfl hc (by rfl) mQ (dR (sv 3) (dR (sv 5) aX rfl) rfl));(· lia;exact dg (k:=2) rfl (by ac_rfl) (cJ (dR (sv 4) (dR (sv 6) aX rfl) rfl));(· lia;exact Ra (i:=3) (sub:=true) Ky nd rfl oi (sv 6) (Or.inl rfl);exact aq))))
 lia;.exists fj ?_ ?_ ?_;exact cB lq (sv 3) aa (bM _);(· lia;exact m9;exact aq);exact aq
 lia;.exists(),sv 2
 exact aq
abbrev ni:Stmt:=top 17
noncomputable def b10:List S:=[.JH 1 false,.iY (.call 8 [↑0]) [2,3] false [.asg 4 (.call 3 [↑0,↑2]),.dput 1 ↑4 (.bin .add (.WD 1 ↑4 ⇑0) ↑3)],.ret (.blt .JF [.vw 1])]
def f10:Fd:=⟨1,5,b10⟩
theorem ad7:aH ["net","bends","steps","loads","length"] ["net"] (az ni):=nofun
include cl in
theorem d10(Fu:fX K "bends_of" "bends_of" ni f fd)(rH:mg "sorted"=none)(fJ:↥(8,"chains_to_end",1,0))(sE:↥(3,"steps_hours",2,0)):↥(["net"],1,f10):=by
 exists Fu,ad7,0,0;refine aL ?_ ?_;.exact(LK (i:=1) nd rfl oi (by rfl) (Or.inl rfl))
 lia;.exact(nP PassesOwn.never hc (dG (cU fJ hr (aR (sv 0) aA rfl))) (eY hc (aU (aJ (i:=2) nd rfl oi oi) (aU (aJ (i:=3) nd rfl oi oi) di))) (nR rfl (cW _ _ (cW _ _ jZ 3) 2)) (by lia;(· exists 4,cU sE hr (aR (sv 0) (aR (sv 2) aA rfl) rfl));(· lia;exact Kz (i:=1) (bG hr) rfl (by ac_rfl) (sv 4) (au aN (Uj (i:=1) (bG hr) rfl (by ac_rfl) (sv 4) aa ⟨rfl,rfl,rfl,rfl⟩) (sv 3)) (by rfl);exact aq)))
 lia;.exists(),Ke rfl hc (by rfl) rH rfl (qy (i:=1) rfl (by ac_rfl))
 exact aq
abbrev J5:Stmt:=top 19
noncomputable def b11:List S:=[.ret (.and (.inst [.int] ↑0) (.not (.inst [.bool] ↑0)))]
def f11:Fd:=⟨1,1,b11⟩
theorem aeJ:aH ["thing"] ["thing"] (az J5):=nofun
include cl in
theorem d11(Fu:fX K "is_whole" "is_whole" J5 f fd)(nZ:mg "bool"=none)(uo:mg "int"=none)(aV:mg "isinstance"=none):↥(["thing"],1,f11):=by
 exists Fu,aeJ,0,0;refine aL ?_ ?_;.exists(),fZ (jm .int rfl (by rfl) aV (sv 0) (by rfl) uo (by kernel_rfl) (by decide) (by rfl)) (jT (Jp (jm .bool rfl (by rfl) aV (sv 0) (by rfl) nZ (by kernel_rfl) (by decide) (by rfl))))
 exact aq
abbrev s12:Stmt:=top 20
noncomputable def b12:List S:=[.ret (.and (.call 11 [↑0]) (.chain .le .le ↑1 ↑0 ↑2))]
def f12:Fd:=⟨3,3,b12⟩
theorem adH:aH ["thing","least","most"] ["thing","least","most"] (az s12):=nofun
include cl in
theorem d12(Fu:fX K "whole_within" "whole_within" s12 f fd)(zY:↥(11,"is_whole",1,0)):↥(["thing","least","most"],3,f12):=by
 exists Fu,adH,0,0;refine aL ?_ ?_;.exists(),fZ (cU zY hr (aR (sv 0) aA rfl)) (jT (xx m8 m8 (sv 1) (sv 0) (sv 2)))
 exact aq
abbrev s13:Stmt:=top 21
noncomputable def b13:List S:=[.ret (.inst [.list,.tuple] ↑0)]
def Vy:Fd:=⟨1,1,b13⟩
theorem acp:aH ["thing"] ["thing"] (az s13):=nofun
include cl in
theorem d13(Fu:fX K "is_row" "is_row" s13 f fd)(aV:mg "isinstance"=none)(gY:mg "list"=none)(bj:mg "tuple"=none):↥(["thing"],1,Vy):=by
 exists Fu,acp,0,0;refine aL ?_ ?_;.exists(),Je rfl (by rfl) aV (sv 0) (v5 .list (by rfl) gY (by kernel_rfl) (v5 .tuple (by rfl) bj (by kernel_rfl) KN (by decide) (by rfl)) (by decide) (by rfl))
 exact aq
abbrev s14:Stmt:=top 28
noncomputable def b14:List S:=[.ret (.and (.call 13 [↑1]) (.and (.cmp .eq (.blt .len [↑1]) ⇑4) (.and (.call 12 [.idx ↑1 ⇑0,⇑0,.bin .sub ↑0 ⇑1]) (.and (.call 12 [.idx ↑1 ⇑1,⇑0,.bin .sub ↑0 ⇑1]) (.and (.cmp .ne (.idx ↑1 ⇑0) (.idx ↑1 ⇑1)) (.and (.call 12 [.idx ↑1 ⇑2,⇑0,.glob "MOST_ROOM" (.int 1000000000)]) (.call 12 [.idx ↑1 ⇑3,⇑1,.glob "MOST_HOURS" (.int 1000000)])))))))]
def f14:Fd:=⟨2,2,b14⟩
theorem adh:aH ["many","thing"] ["many","thing"] (az s14):=nofun
include cl in
theorem d14(Fu:fX K "is_way" "is_way" s14 f fd)(aY:mg "len"=none)(jb:∃t,mg "MOST_HOURS"=some (Value.int 1000000 t))(jO:∃t,mg "MOST_ROOM"=some (Value.int 1000000000 t))(rJ:↥(13,"is_row",1,0))(cL:↥(12,"whole_within",3,0)):↥(["many","thing"],2,f14):=by
 exists Fu,adh,0,0;refine aL ?_ ?_;.exists(),fZ (cU rJ hr (aR (sv 1) aA rfl)) (fZ (qQ (lr (bG hr)) (cI rfl (by rfl) aY (sv 1)) aa (bM _)) (fZ (cU cL hr (aR (ao (sv 1) aa) (aR aa (aR (au dm (sv 0) aa) aA rfl) rfl) rfl)) (fZ (cU cL hr (aR (ao (sv 1) aa) (aR aa (aR (au dm (sv 0) aa) aA rfl) rfl) rfl)) (fZ (qQ (vB (bG hr)) (ao (sv 1) aa) (ao (sv 1) aa) (bM _)) (fZ (cU cL hr (aR (ao (sv 1) aa) (aR aa (aR (iu (by rfl) jO.choose_spec (by rfl)) aA rfl) rfl) rfl)) (jT (cU cL hr (aR (ao (sv 1) aa) (aR aa (aR (iu (by rfl) jb.choose_spec (by rfl)) aA rfl) rfl) rfl)))).ev).ev).ev).ev).ev
 exact aq
abbrev s15:Stmt:=top 29
noncomputable def b15:List S:=[.ifs (.or (.not (.call 12 [↑0,.glob "LEAST_PLACES" (.int 2),.glob "MOST_PLACES" (.int 6)])) (.not (.call 13 [↑1]))) [.bad] [],.iY (.Zx ↑1) [2,3] false [.ifs (.not (.call 14 [↑0,↑3])) [.bad] []],.ifs (.cmp .gt (.blt .len [↑1]) (.glob "MOST_WAYS" (.int 12))) [.bad] [],.ret (.tup [↑0,.blt .tuple [.comp ↑1 1 [4] true none (.blt .tuple [↑4])]])]
def f15:Fd:=⟨2,4,b15⟩
theorem aeo:aH ["many","ways","at","thing"] ["many","ways"] (az s15):=nofun
include cl in
theorem d15(Fu:fX K "made_net" "made_net" s15 f fd)(jP:mg "enumerate"=none)(aY:mg "len"=none)(bj:mg "tuple"=none)(gC:∃t,mg "LEAST_PLACES"=some (Value.int 2 t))(ie:∃t,mg "MOST_PLACES"=some (Value.int 6 t))(jQ:∃t,mg "MOST_WAYS"=some (Value.int 12 t))(rJ:↥(13,"is_row",1,0))(JS:↥(14,"is_way",2,0))(cL:↥(12,"whole_within",3,0)):↥(["many","ways"],2,f15):=by
 exists Fu,aeo,0,0;refine aL ?_ ?_;.exists fj ?_ ?_ ?_;exact SW.st (tE (nU (gw (cU cL hr (aR (sv 0) (aR (iu (by rfl) gC.choose_spec (by rfl)) (aR (iu (by rfl) ie.choose_spec (by rfl)) aA rfl) rfl) rfl)))) (rF (nU (gw (cU rJ hr (aR (sv 1) aA rfl))))));(· lia;exact m9;exact aq);exact aq
 lia;.exact(nP PassesOwn.never hc (S7 rfl (by rfl) jP (sv 1)) (eY hc (aU (aJ (i:=2) nd rfl oi oi) (aU (aJ (i:=3) nd rfl oi oi) di))) (nR rfl (cW _ _ (cW _ _ jZ 3) 2)) (by lia;(· exists fj ?_ ?_ ?_;exact nU (gw (cU JS hr (aR (sv 0) (aR (sv 3) aA rfl) rfl)));(· lia;exact m9;exact aq);exact aq);exact aq))
 lia;.exists fj ?_ ?_ ?_;exact cB lq (cI rfl (by rfl) aY (sv 1)) (iu (by rfl) jQ.choose_spec (by rfl)) (bM _);(· lia;exact m9;exact aq);exact aq
 lia;.exists(),cJ (dR (sv 0) (dR (ir rfl (by rfl) bj (fc (N':=["many","ways","at","thing","way"]) hc (uD rfl (by rfl)) (dG (sv 1)) ⇑(aJ (i:=4) ‹["many","ways","at","thing","way"]› rfl (Or.inl rfl) (Or.inr rfl)) (cP (dh)) ⇑(cj) ⇑((ir rfl (by rfl) bj (sv 4))))) aX rfl) rfl)
 exact aq
abbrev s16:Stmt:=top 31
noncomputable def b16:List S:=[.ret (.blt .all [.comp (.zip ↑1 (.idx ↑0 ⇑1)) 2 [2,3] false none (.chain .le .le ⇑0 ↑2 (.idx ↑3 ⇑2))])]
def f16:Fd:=⟨2,2,b16⟩
theorem acq:aH ["net","stream"] ["net","stream"] (az s16):=nofun
include cl in
theorem d16(Fu:fX K "within_rooms" "within_rooms" s16 f fd)(JT:mg "all"=none)(gD:mg "zip"=none):↥(["net","stream"],2,f16):=by
 exists Fu,acq,0,0;refine aL ?_ ?_;.exists(),Qw rfl hc (by rfl) JT (fc (N':=["net","stream","loads","way"]) hc (uD rfl (by rfl)) (T9 rfl (by rfl) gD (sv 1) (ao (sv 0) aa)) ⇑(eY hc (aU (aJ (i:=2) ‹["net","stream","loads","way"]› rfl (Or.inl rfl) (Or.inr rfl)) (aU (aJ (i:=3) ‹["net","stream","loads","way"]› rfl (Or.inl rfl) (Or.inr rfl)) di))) (iI rfl (bY (show 2<=2 by decide) (bY (show 2<=3 by decide) iW))) ⇑(cj) ⇑((xx m8 m8 aa (sv 2) (ao (sv 3) aa))))
 exact aq
abbrev s17:Stmt:=top 32
noncomputable def b17:List S:=[.asg 2 (.kZ 1 (.idx ↑0 ⇑1) 2 [3,4] false none (.tup [.idx ↑3 ⇑0,.idx ↑3 ⇑1,↑4,.idx ↑3 ⇑3])),.ret (.tup [.idx ↑0 ⇑0,.blt .tuple [↑2]])]
def f17:Fd:=⟨2,3,b17⟩
theorem ac4:aH ["net","rooms","ways"] ["net","rooms"] (az s17):=nofun
include cl in
theorem d17(Fu:fX K "with_rooms" "with_rooms" s17 f fd)(bj:mg "tuple"=none)(gD:mg "zip"=none):↥(["net","rooms"],2,f17):=by
 exists Fu,ac4,0,0;refine aL ?_ ?_;.exact(Bg (i:=2) (N':=["net","rooms","ways","way","room"]) hc nd rfl oi (uD rfl (by rfl)) (pQ (i:=1) rfl (by rfl) gD rfl (ao (sv 0) aa) (sv 1)) ⇑(eY hc (aU (aJ (i:=3) ‹["net","rooms","ways","way","room"]› rfl (Or.inl rfl) (Or.inr rfl)) (aU (aJ (i:=4) ‹["net","rooms","ways","way","room"]› rfl (Or.inl rfl) (Or.inr rfl)) di))) (iI rfl (bY (show 3<=3 by decide) (bY (show 3<=4 by decide) iW))) ⇑(cj) ⇑((cJ (dR (ao (sv 3) aa) (dR (ao (sv 3) aa) (dR (sv 4) (dR (ao (sv 3) aa) aX rfl) rfl) rfl) rfl))) (by rfl) (by intro _;rfl) (Or.inl rfl))
 lia;.exists(),cJ (dR (ao (sv 0) aa) (dR (ir rfl (by rfl) bj (sv 2)) aX rfl) rfl)
 exact aq
abbrev s18:Stmt:=top 34
noncomputable def b18:List S:=[.asg 2 (.blt .sum [.comp (.idx ↑0 ⇑1) 1 [6] true none (.idx ↑6 ⇑3)]),.JM 3 0 0,.iY (.sy ⇑1 (.idx ↑0 ⇑0)) [4] true [.fM 3 ↑4 ↑2],.asg 5 (.call 5 [↑0,↑1,.vw 3]),.ret (.comp (.sy ⇑0 (.idx ↑0 ⇑0)) 1 [6] true none (.idx (.bin .zQ ↑5 ↑6) ⇑0))]
def f18:Fd:=⟨2,6,b18⟩
theorem acF:aH ["net","stream","late","begun","place","come"] ["net","stream"] (az s18):=nofun
include cl in
theorem d18(Fu:fX K "found_clocks" "found_clocks" s18 f fd)(bz:mg "range"=none)(jg:mg "sum"=none)(dO:↥(5,"shortest_come",3,0)):↥(["net","stream"],2,f18):=by
 exists Fu,acF,0,0;refine aL ?_ ?_;.exists 2,uH rfl hc (by rfl) jg (fc (N':=["net","stream","late","begun","place","come","way"]) hc (uD rfl (by rfl)) (dG (ao (sv 0) aa)) ⇑(aJ (i:=6) ‹["net","stream","late","begun","place","come","way"]› rfl (Or.inl rfl) (Or.inr rfl)) (cP (dh)) ⇑(cj) ⇑((ao (sv 6) aa)))
 lia;.exact(Mr (i:=3) nd rfl oi (by rfl) (Or.inl rfl))
 lia;.exists 4,Nj rfl (by rfl) bz aa (ao (sv 0) aa),0;(· lia;exact pK (i:=3) (bG hr) rfl (by ac_rfl) (sv 4) (sv 2) (by rfl);exact aq)
 lia;.exists nD (i:=5) ?_ ?_ ?_ ?_ ?_ ?_;exact nd;exact rfl;exact Or.inr rfl;rotate_left;rfl;exact oi;exact cU dO hr (aR (sv 0) (aR (sv 1) (aR (qy (i:=3) rfl (by ac_rfl)) aA rfl) rfl) rfl)
 lia;.exists(),fc (N':=["net","stream","late","begun","place#4","come","place"]) hc (uD rfl (by rfl)) (fP rfl (by rfl) bz (ao (sv 0) aa)) ⇑(aJ (i:=6) ‹["net","stream","late","begun","place#4","come","place"]› rfl (Or.inl rfl) (Or.inr rfl)) (cP (dh)) ⇑(cj) ⇑((ao (pJ (bG hr) (sv 5) (sv 6) (fun _ _=>rfl)) aa))
 exact aq
abbrev s19:Stmt:=top 35
noncomputable def b19:List S:=[.asg 2 (.bin .mul (.lst [⇑0]) (.blt .len [.idx ↑0 ⇑1])),.iY (.call 9 [.call 8 [↑0],↑1]) [3,4] false [.asg 2 (.call 7 [↑2,↑3,↑4])],.ret (.tup [↑2,.call 18 [↑0,↑2]])]
def f19:Fd:=⟨2,5,b19⟩
theorem adV:aH ["net","rate","stream","steps","loads"] ["net","rate"] (az s19):=nofun
include cl in
theorem d19(Fu:fX K "light_stream" "light_stream" s19 f fd)(aY:mg "len"=none)(fJ:↥(8,"chains_to_end",1,0))(sG:↥(9,"cut_to_rate",2,0))(rK:↥(18,"found_clocks",2,0))(gZ:↥(7,"stream_with",3,0)):↥(["net","rate"],2,f19):=by
 exists Fu,adV,0,0;refine aL ?_ ?_;.exists 2,au dj (eU (dR aa aX rfl)) (cI rfl (by rfl) aY (ao (sv 0) aa))
 lia;.exact(nP PassesOwn.never hc (dG (cU sG hr (aR (cU fJ hr (aR (sv 0) aA rfl)) (aR (sv 1) aA rfl) rfl))) (eY hc (aU (aJ (i:=3) nd rfl oi oi) (aU (aJ (i:=4) nd rfl oi oi) di))) (nR rfl (cW _ _ (cW _ _ jZ 4) 3)) (by lia;(· exists 2,cU gZ hr (aR (sv 2) (aR (sv 3) (aR (sv 4) aA rfl) rfl) rfl));exact aq))
 lia;.exists(),cJ (dR (sv 2) (dR (cU rK hr (aR (sv 0) (aR (sv 2) aA rfl) rfl)) aX rfl) rfl)
 exact aq
abbrev s20:Stmt:=top 37
noncomputable def b20:List S:=[.ret (.comp (.call 10 [↑0]) 1 [2] true (some (.cmp .le (.idx ↑2 ⇑0) ↑1)) ↑2)]
def f20:Fd:=⟨2,2,b20⟩
theorem acY:aH ["net","last"] ["net","last"] (az s20):=nofun
include cl in
theorem d20(Fu:fX K "bends_by" "bends_by" s20 f fd)(lG:↥(10,"bends_of",1,0)):↥(["net","last"],2,f20):=by
 exists Fu,acY,0,0;refine aL ?_ ?_;.exists(),fc (N':=["net","last","bend"]) hc (uD rfl (by rfl)) (dG (cU lG hr (aR (sv 0) aA rfl))) ⇑(aJ (i:=2) ‹["net","last","bend"]› rfl (Or.inl rfl) (Or.inr rfl)) (cP (dh)) ⇑(Bp (cB m8 (ao (sv 2) aa) (sv 1) (bM _))) ⇑((sv 2))
 exact aq
abbrev s21:Stmt:=top 38
noncomputable def b21:List S:=[.ret (.blt .sum [.comp ↑0 2 [2,3] false (some (.cmp .le ↑2 ↑1)) (.bin .mul ↑3 (.bin .add (.bin .sub ↑1 ↑2) ⇑1))])]
def f21:Fd:=⟨2,2,b21⟩
theorem ac8:aH ["bends","last"] ["bends","last"] (az s21):=nofun
include cl in
theorem d21(Fu:fX K "most_of" "most_of" s21 f fd)(jg:mg "sum"=none):↥(["bends","last"],2,f21):=by
 exists Fu,ac8,0,0;refine aL ?_ ?_;.exists(),uH rfl hc (by rfl) jg (fc (N':=["bends","last","length","loads"]) hc (uD rfl (by rfl)) (dG (sv 0)) ⇑(eY hc (aU (aJ (i:=2) ‹["bends","last","length","loads"]› rfl (Or.inl rfl) (Or.inr rfl)) (aU (aJ (i:=3) ‹["bends","last","length","loads"]› rfl (Or.inl rfl) (Or.inr rfl)) di))) (iI rfl (bY (show 2<=2 by decide) (bY (show 2<=3 by decide) iW))) ⇑(Bp (cB m8 (sv 2) (sv 1) (bM _))) ⇑((au dj (sv 3) (au aN (au dm (sv 1) (sv 2)) aa))))
 exact aq
abbrev s22:Stmt:=top 39
noncomputable def b22:List S:=[.ret (.call 21 [.call 10 [↑0],↑1])]
def f22:Fd:=⟨2,2,b22⟩
theorem aew:aH ["net","last"] ["net","last"] (az s22):=nofun
include cl in
theorem d22(Fu:fX K "most_by" "most_by" s22 f fd)(lG:↥(10,"bends_of",1,0))(Fb:↥(21,"most_of",2,0)):↥(["net","last"],2,f22):=by
 exists Fu,aew,0,0;refine aL ?_ ?_;.exists(),cU Fb hr (aR (cU lG hr (aR (sv 0) aA rfl)) (aR (sv 1) aA rfl) rfl)
 exact aq
abbrev s23:Stmt:=top 40
noncomputable def b23:List S:=[.ret (.blt .sum [.comp (.call 20 [↑0,↑1]) 2 [2,3] false none ↑3])]
def f23:Fd:=⟨2,2,b23⟩
theorem aeH:aH ["net","last"] ["net","last"] (az s23):=nofun
include cl in
theorem d23(Fu:fX K "rate_by" "rate_by" s23 f fd)(jg:mg "sum"=none)(zZ:↥(20,"bends_by",2,0)):↥(["net","last"],2,f23):=by
 exists Fu,aeH,0,0;refine aL ?_ ?_;.exists(),uH rfl hc (by rfl) jg (fc (N':=["net","last","length","loads"]) hc (uD rfl (by rfl)) (dG (cU zZ hr (aR (sv 0) (aR (sv 1) aA rfl) rfl))) ⇑(eY hc (aU (aJ (i:=2) ‹["net","last","length","loads"]› rfl (Or.inl rfl) (Or.inr rfl)) (aU (aJ (i:=3) ‹["net","last","length","loads"]› rfl (Or.inl rfl) (Or.inr rfl)) di))) (iI rfl (bY (show 2<=2 by decide) (bY (show 2<=3 by decide) iW))) ⇑(cj) ⇑((sv 3)))
 exact aq
abbrev s24:Stmt:=top 41
noncomputable def b24:List S:=[.ret (.idx (.call 19 [↑0,.call 23 [↑0,↑1]]) ⇑0)]
def f24:Fd:=⟨2,2,b24⟩
theorem acN:aH ["net","last"] ["net","last"] (az s24):=nofun
include cl in
theorem d24(Fu:fX K "stream_by" "stream_by" s24 f fd)(rM:↥(19,"light_stream",2,0))(Fe:↥(23,"rate_by",2,0)):↥(["net","last"],2,f24):=by
 exists Fu,acN,0,0;refine aL ?_ ?_;.exists(),ao (cU rM hr (aR (sv 0) (aR (cU Fe hr (aR (sv 0) (aR (sv 1) aA rfl) rfl)) aA rfl) rfl)) aa
 exact aq
abbrev s25:Stmt:=top 44
noncomputable def b25:List S:=[.ifs (.cmp .gt (.blt .len [.idx ↑0 ⇑1]) (.glob "MOST_LANED" (.int 6))) [.bad] []]
def f25:Fd:=⟨1,1,b25⟩
theorem ac7:aH ["net"] ["net"] (az s25):=nofun
include cl in
theorem d25(Fu:fX K "few_enough" "few_enough" s25 f fd)(aY:mg "len"=none)(jc:∃t,mg "MOST_LANED"=some (Value.int 6 t)):↥(["net"],1,f25):=by
 exists Fu,ac7,0,0;refine aL ?_ ?_;.exists fj ?_ ?_ ?_;exact cB lq (cI rfl (by rfl) aY (ao (sv 0) aa)) (iu (by rfl) jc.choose_spec (by rfl)) (bM _);(· lia;exact m9;exact aq);exact aq
 exact aq
abbrev s26:Stmt:=top 45
noncomputable def b26:List S:=[.asg 3 (.kZ 2 (.idx ↑0 ⇑1) 2 [4,5] false none (.tup [.idx ↑4 ⇑1,.idx ↑4 ⇑0,↑5,.idx ↑4 ⇑3])),.ret (.tup [.idx ↑0 ⇑0,.bin .add (.idx (.call 17 [↑0,↑1]) ⇑1) (.blt .tuple [↑3])])]
def f26:Fd:=⟨3,4,b26⟩
theorem adC:aH ["net","forth","back","turned"] ["net","forth","back"] (az s26):=nofun
include cl in
theorem d26(Fu:fX K "lanes_net" "lanes_net" s26 f fd)(bj:mg "tuple"=none)(gD:mg "zip"=none)(vK:↥(17,"with_rooms",2,0)):↥(["net","forth","back"],3,f26):=by
 exists Fu,adC,0,0;refine aL ?_ ?_;.exact(Bg (i:=3) (N':=["net","forth","back","turned","way","room"]) hc nd rfl oi (uD rfl (by rfl)) (pQ (i:=2) rfl (by rfl) gD rfl (ao (sv 0) aa) (sv 2)) ⇑(eY hc (aU (aJ (i:=4) ‹["net","forth","back","turned","way","room"]› rfl (Or.inl rfl) (Or.inr rfl)) (aU (aJ (i:=5) ‹["net","forth","back","turned","way","room"]› rfl (Or.inl rfl) (Or.inr rfl)) di))) (iI rfl (bY (show 4<=4 by decide) (bY (show 4<=5 by decide) iW))) ⇑(cj) ⇑((cJ (dR (ao (sv 4) aa) (dR (ao (sv 4) aa) (dR (sv 5) (dR (ao (sv 4) aa) aX rfl) rfl) rfl) rfl))) (by rfl) (by intro _;rfl) (Or.inl rfl))
 lia;.exists(),cJ (dR (ao (sv 0) aa) (dR (au aN (ao (cU vK hr (aR (sv 0) (aR (sv 1) aA rfl) rfl)) aa) (ir rfl (by rfl) bj (sv 3))) aX rfl) rfl)
 exact aq
abbrev s27:Stmt:=top 46
noncomputable def b27:List S:=[.expr (.call 25 [↑0]),.asg 1 (.comp (.idx ↑0 ⇑1) 1 [2] true none (.idx ↑2 ⇑2)),.ret (.call 26 [↑0,.vw 1,.vw 1])]
def f27:Fd:=⟨1,2,b27⟩
theorem ad3:aH ["net","rooms"] ["net"] (az s27):=nofun
include cl in
theorem d27(Fu:fX K "open_net" "open_net" s27 f fd)(jd:↥(25,"few_enough",1,0))(jR:↥(26,"lanes_net",3,0)):↥(["net"],1,f27):=by
 exists Fu,ad3,0,0;refine aL ?_ ?_;.exact(Cd (cU jd hr (aR (sv 0) aA rfl)))
 lia;.exact(pH (i:=1) (N':=["net","rooms","way"]) hc nd rfl oi (uD rfl (by rfl)) (dG (ao (sv 0) aa)) ⇑(aJ (i:=2) ‹["net","rooms","way"]› rfl (Or.inl rfl) (Or.inr rfl)) (cP (dh)) ⇑(cj) ⇑((ao (sv 2) aa)) (by rfl) (by intro _;rfl) (Or.inl rfl))
 lia;.exists(),cU jR hr (aR (sv 0) (aR (qy (i:=1) rfl (by ac_rfl)) (aR (qy (i:=1) rfl (by ac_rfl)) aA rfl) rfl) rfl)
 exact aq
abbrev s28:Stmt:=top 47
noncomputable def b28:List S:=[.ret (.and (.cmp .eq (.blt .len [↑1]) (.blt .len [.idx ↑0 ⇑1])) (.call 16 [↑0,↑1]))]
def f28:Fd:=⟨2,2,b28⟩
theorem ade:aH ["net","forth"] ["net","forth"] (az s28):=nofun
include cl in
theorem d28(Fu:fX K "is_forth" "is_forth" s28 f fd)(aY:mg "len"=none)(rN:↥(16,"within_rooms",2,0)):↥(["net","forth"],2,f28):=by
 exists Fu,ade,0,0;refine aL ?_ ?_;.exists(),fZ (qQ (lr (bG hr)) (cI rfl (by rfl) aY (sv 1)) (cI rfl (by rfl) aY (ao (sv 0) aa)) (bM _)) (jT (cU rN hr (aR (sv 0) (aR (sv 1) aA rfl) rfl)))
 exact aq
abbrev s29:Stmt:=top 48
noncomputable def b29:List S:=[.expr (.call 25 [↑0]),.ifs (.not (.call 28 [↑0,↑1])) [.bad] [],.ret (.call 26 [↑0,↑1,.kZ 1 (.idx ↑0 ⇑1) 2 [2,3] false none (.bin .sub (.idx ↑2 ⇑2) ↑3)])]
def f29:Fd:=⟨2,2,b29⟩
theorem adq:aH ["net","forth"] ["net","forth"] (az s29):=nofun
include cl in
theorem d29(Fu:fX K "laned_net" "laned_net" s29 f fd)(gD:mg "zip"=none)(jd:↥(25,"few_enough",1,0))(lH:↥(28,"is_forth",2,0))(jR:↥(26,"lanes_net",3,0)):↥(["net","forth"],2,f29):=by
 exists Fu,adq,0,0;refine aL ?_ ?_;.exact(Cd (cU jd hr (aR (sv 0) aA rfl)))
 lia;.exists fj ?_ ?_ ?_;exact nU (gw (cU lH hr (aR (sv 0) (aR (sv 1) aA rfl) rfl)));(· lia;exact m9;exact aq);exact aq
 lia;.exists(),cU jR hr (aR (sv 0) (aR (sv 1) (aR (wQ (N':=["net","forth","way","room"]) hc (uD rfl (by rfl)) (pQ (i:=1) rfl (by rfl) gD rfl (ao (sv 0) aa) (sv 1)) ⇑(eY hc (aU (aJ (i:=2) ‹["net","forth","way","room"]› rfl (Or.inl rfl) (Or.inr rfl)) (aU (aJ (i:=3) ‹["net","forth","way","room"]› rfl (Or.inl rfl) (Or.inr rfl)) di))) (iI rfl (bY (show 2<=2 by decide) (bY (show 2<=3 by decide) iW))) ⇑(cj) ⇑((au dm (ao (sv 2) aa) (sv 3)))) aA rfl) rfl) rfl)
 exact aq
abbrev s30:Stmt:=top 49
noncomputable def b30:List S:=[.asg 2 (.slice (.call 24 [.call 27 [↑0],↑1]) (.blt .len [.idx ↑0 ⇑1]) (.con .non)),.ret (.blt .tuple [.kZ 2 (.idx ↑0 ⇑1) 2 [3,4] false none (.bin .sub (.idx ↑3 ⇑2) ↑4)])]
def f30:Fd:=⟨2,3,b30⟩
theorem ac2:aH ["net","last","back"] ["net","last"] (az s30):=nofun
include cl in
theorem d30(Fu:fX K "best_forth" "best_forth" s30 f fd)(aY:mg "len"=none)(bj:mg "tuple"=none)(gD:mg "zip"=none)(lJ:↥(27,"open_net",1,0))(xY:↥(24,"stream_by",2,0)):↥(["net","last"],2,f30):=by
 exists Fu,ac2,0,0;refine aL ?_ ?_;.exists 2,mH (cU xY hr (aR (cU lJ hr (aR (sv 0) aA rfl)) (aR (sv 1) aA rfl) rfl)) (pC (cI rfl (by rfl) aY (ao (sv 0) aa))) pN
 lia;.exists(),ir rfl (by rfl) bj (wQ (N':=["net","last","back","way","loads"]) hc (uD rfl (by rfl)) (pQ (i:=2) rfl (by rfl) gD rfl (ao (sv 0) aa) (sv 2)) ⇑(eY hc (aU (aJ (i:=3) ‹["net","last","back","way","loads"]› rfl (Or.inl rfl) (Or.inr rfl)) (aU (aJ (i:=4) ‹["net","last","back","way","loads"]› rfl (Or.inl rfl) (Or.inr rfl)) di))) (iI rfl (bY (show 3<=3 by decide) (bY (show 3<=4 by decide) iW))) ⇑(cj) ⇑((au dm (ao (sv 3) aa) (sv 4))))
 exact aq
abbrev s31:Stmt:=top 50
noncomputable def b31:List S:=[.asg 3 (.call 22 [.call 27 [↑0],↑1]),.ret (.and (.call 28 [↑0,↑2]) (.cmp .eq (.call 22 [.call 29 [↑0,↑2],↑1]) ↑3))]
def f31:Fd:=⟨3,4,b31⟩
theorem adu:aH ["net","last","forth","most"] ["net","last","forth"] (az s31):=nofun
include cl in
theorem d31(Fu:fX K "forth_right" "forth_right" s31 f fd)(lH:↥(28,"is_forth",2,0))(xZ:↥(29,"laned_net",2,0))(iC:↥(22,"most_by",2,0))(lJ:↥(27,"open_net",1,0)):↥(["net","last","forth"],3,f31):=by
 exists Fu,adu,0,0;refine aL ?_ ?_;.exists 3,cU iC hr (aR (cU lJ hr (aR (sv 0) aA rfl)) (aR (sv 1) aA rfl) rfl)
 lia;.exists(),fZ (cU lH hr (aR (sv 0) (aR (sv 2) aA rfl) rfl)) (jT (qQ (lr (bG hr)) (cU iC hr (aR (cU xZ hr (aR (sv 0) (aR (sv 2) aA rfl) rfl)) (aR (sv 1) aA rfl) rfl)) (sv 3) (bM _)))
 exact aq
abbrev s32:Stmt:=top 52
noncomputable def b32:List S:=[.asg 2 (.slice ↑0 (.con .non) ⇑63),.ifs (.cmp .eq ↑2 (.lst [])) [.asg 2 (.lst [⇑0])] [],.asg 3 (.comp ↑2 1 [9] true none (.blt .abs [↑9])),.asg 4 (.lst []),.iY (.sy ⇑0 ↑1) [5] true [.asg 6 (.bin .mod ↑5 (.blt .len [↑2])),.ifs (.and (.cmp .ge (.blt .abs [.idx ↑2 ↑6]) (.bin .pow ⇑10 ⇑18)) (.cmp .gt (.idx ↑3 ↑6) ⇑0)) [.app 4 (.bin .mod (.idx ↑3 ↑6) (.bin .pow ⇑10 ⇑6)),.Nz 3 ↑6 (.bin .fdiv (.idx ↑3 ↑6) (.bin .pow ⇑10 ⇑6))] [.asg 7 (.bin .add (.bin .add (.bin .mul (.bin .mul ⇑977 ↑5) ↑5) (.bin .mul ⇑131 ↑5)) ⇑1),.asg 8 (.bin .mod (.bin .add (.bin .mul (.bin .mod (.idx ↑2 ↑6) ⇑1000000007) ⇑48271) ↑7) ⇑2147483647),.asg 8 (.bin .mod (.bin .mul ↑8 ↑8) ⇑2147483647),.app 4 (.bin .mod (.bin .fdiv (.bin .mod (.bin .mul (.bin .add ↑8 (.bin .mul ⇑40692 (.bin .add ↑5 ⇑3))) ⇑69621) ⇑2147483629) ⇑8) (.bin .pow ⇑10 ⇑6))]],.ret ↑4]
def f32:Fd:=⟨2,9,b32⟩
theorem acw:aH ["script","many","cells","left","found","k","at","step","mixed"] ["script","many"] (az s32):=nofun
include cl in
theorem d32(Fu:fX K "_law_all" "_law_all" s32 f fd)(CT:mg "abs"=none)(aY:mg "len"=none)(bz:mg "range"=none):↥(["script","many"],2,f32):=by
 exists Fu,acw,0,0;refine aL ?_ ?_;.exists 2,mH (sv 0) pN (pC aa)
 lia;.exists fj ?_ ?_ ?_;exact cB (lr (bG hr)) (sv 2) (eU aX) (bM _);(· lia;(· exists 2,eU (dR aa aX rfl));exact aq);exact aq
 lia;.exact(pH (i:=3) (N':=["script","many","cells","left","found","k","at","step","mixed","cell"]) hc nd rfl oi (uD rfl (by rfl)) (dG (sv 2)) ⇑(aJ (i:=9) ‹["script","many","cells","left","found","k","at","step","mixed","cell"]› rfl (Or.inl rfl) (Or.inr rfl)) (cP (dh)) ⇑(cj) ⇑((FQ rfl (by rfl) CT (sv 9))) (by rfl) (by intro _;rfl) (Or.inl rfl))
 lia;.exists 4,eU aX
 lia;.exists 5,fP rfl (by rfl) bz (sv 1),0;(· lia;(· exists 6,au dq (sv 5) (cI rfl (by rfl) aY (sv 2)));(· lia;(· exists fj ?_ ?_ ?_;exact SW.st (Uz (cB T4 (FQ rfl (by rfl) CT (ao (sv 2) (sv 6))) (au dN aa aa) (bM _)) (Ls (cB lq (ao (sv 3) (sv 6)) aa (bM _))));(· lia;exact dg (k:=4) rfl (by ac_rfl) (au dq (ao (sv 3) (sv 6)) (au dN aa aa));(· lia;exact KD (k:=3) rfl (by ac_rfl) (sv 6) (au wj (ao (sv 3) (sv 6)) (au dN aa aa));exact aq));(· lia;(· exists 7,au aN (au aN (au dj (au dj aa (sv 5)) (sv 5)) (au dj aa (sv 5))) aa);(· lia;(· exists 8,au dq (au aN (au dj (au dq (ao (sv 2) (sv 6)) aa) aa) (sv 7)) aa);(· lia;(· exists 8,au dq (au dj (sv 8) (sv 8)) aa);(· lia;exact dg (k:=4) rfl (by ac_rfl) (au dq (au wj (au dq (au dj (au aN (sv 8) (au dj aa (au aN (sv 5) aa))) aa) aa) aa) (au dN aa aa));exact aq)))));exact aq))
 lia;.exists(),sv 4
 exact aq
abbrev s33:Stmt:=top 53
noncomputable def b33:List S:=[.ret (.bin .mod (.idx ↑0 (.bin .mod ↑1 (.blt .len [↑0]))) ↑2)]
def f33:Fd:=⟨3,3,b33⟩
theorem adY:aH ["draws","at","many"] ["draws","at","many"] (az s33):=nofun
include cl in
theorem d33(Fu:fX K "_law_draw" "_law_draw" s33 f fd)(aY:mg "len"=none):↥(["draws","at","many"],3,f33):=by
 exists Fu,adY,0,0;refine aL ?_ ?_;.exists(),au dq (ao (sv 0) (au dq (sv 1) (cI rfl (by rfl) aY (sv 0)))) (sv 2)
 exact aq
abbrev s34:Stmt:=top 54
noncomputable def b34:List S:=[.asg 3 (.bin .mul (.idx ↑0 (.bin .mod ↑1 (.blt .len [↑0]))) (.bin .pow ⇑10 ⇑6)),.ret (.bin .mod (.bin .add ↑3 (.idx ↑0 (.bin .mod (.bin .add ↑1 ⇑1) (.blt .len [↑0])))) ↑2)]
def f34:Fd:=⟨3,4,b34⟩
theorem adF:aH ["draws","at","many","far"] ["draws","at","many"] (az s34):=nofun
include cl in
theorem d34(Fu:fX K "_law_wide" "_law_wide" s34 f fd)(aY:mg "len"=none):↥(["draws","at","many"],3,f34):=by
 exists Fu,adF,0,0;refine aL ?_ ?_;.exists 3,au dj (ao (sv 0) (au dq (sv 1) (cI rfl (by rfl) aY (sv 0)))) (au dN aa aa)
 lia;.exists(),au dq (au aN (sv 3) (ao (sv 0) (au dq (au aN (sv 1) aa) (cI rfl (by rfl) aY (sv 0))))) (sv 2)
 exact aq
abbrev s35:Stmt:=top 55
noncomputable def b35:List S:=[.asg 4 (.bin .add ⇑2 (.call 33 [↑0,↑1,.bin .sub ↑2 ⇑1])),.asg 5 (.cmp .eq (.call 33 [↑0,.bin .add ↑1 ⇑1,⇑4]) ⇑0),.asg 6 (.lst []),.iY (.sy ⇑0 (.call 33 [↑0,.bin .add ↑1 ⇑2,.bin .add ↑3 ⇑1])) [7] true [.asg 8 (.bin .add (.bin .add ↑1 ⇑10) (.bin .mul ⇑10 ↑7)),.asg 9 (.call 33 [↑0,↑8,↑4]),.asg 10 (.bin .mod (.bin .add (.bin .add ↑9 ⇑1) (.call 33 [↑0,.bin .add ↑8 ⇑1,.bin .sub ↑4 ⇑1])) ↑4),.ifs (.cmp .eq (.call 33 [↑0,.bin .add ↑8 ⇑2,⇑2]) ⇑0) [.par 9 10 (.blt .min2 [↑9,↑10]) (.blt .max2 [↑9,↑10])] [],.asg 11 (.idx (.lst [⇑0,⇑1,⇑2,⇑3,⇑4,⇑1,⇑2,⇑7]) (.call 33 [↑0,.bin .add ↑8 ⇑3,⇑8])),.asg 12 (.bin .add ⇑1 (.call 33 [↑0,.bin .add ↑8 ⇑4,⇑4])),.ifs ↑5 [.asg 11 (.idx (.lst [↑11,.bin .sub (.bin .pow ⇑10 ⇑9) ↑11,.call 34 [↑0,.bin .add ↑8 ⇑5,.bin .add (.bin .pow ⇑10 ⇑9) ⇑1]]) (.call 33 [↑0,.bin .add ↑8 ⇑7,⇑3])),.asg 12 (.idx (.lst [↑12,.bin .sub (.bin .pow ⇑10 ⇑6) ↑12,.bin .add ⇑1 (.call 33 [↑0,.bin .add ↑8 ⇑8,.bin .pow ⇑10 ⇑6])]) (.call 33 [↑0,.bin .add ↑8 ⇑9,⇑3]))] [],.app 6 (.tup [↑9,↑10,↑11,↑12])],.ret (.call 15 [↑4,↑6])]
def f35:Fd:=⟨4,13,b35⟩
theorem aeL:aH ["draws","at","places","most","many","wide","ways","k","spot","one","other","room","hours"] ["draws","at","places","most"] (az s35):=nofun
include cl in
theorem d35(Fu:fX K "_law_net" "_law_net" s35 f fd)(JV:mg "max"=none)(mQ:mg "min"=none)(bz:mg "range"=none)(bu:↥(33,"_law_draw",3,0))(gP:↥(34,"_law_wide",3,0))(Aa:↥(15,"made_net",2,0)):↥(["draws","at","places","most"],4,f35):=by
 exists Fu,aeL,0,0;refine aL ?_ ?_;.exists 4,au aN aa (cU bu hr (aR (sv 0) (aR (sv 1) (aR (au dm (sv 2) aa) aA rfl) rfl) rfl))
 lia;.exists 5,qQ (lr (bG hr)) (cU bu hr (aR (sv 0) (aR (au aN (sv 1) aa) (aR aa aA rfl) rfl) rfl)) aa (bM _)
 lia;.exists 6,eU aX
 lia;.exists 7,fP rfl (by rfl) bz (cU bu hr (aR (sv 0) (aR (au aN (sv 1) aa) (aR (au aN (sv 3) aa) aA rfl) rfl) rfl)),0;(· lia;(· exists 8,au aN (au aN (sv 1) aa) (au dj aa (sv 7)));(· lia;(· exists 9,cU bu hr (aR (sv 0) (aR (sv 8) (aR (sv 4) aA rfl) rfl) rfl));(· lia;(· exists 10,au dq (au aN (au aN (sv 9) aa) (cU bu hr (aR (sv 0) (aR (au aN (sv 8) aa) (aR (au dm (sv 4) aa) aA rfl) rfl) rfl))) (sv 4));(· lia;(· exists fj ?_ ?_ ?_;exact cB (lr (bG hr)) (cU bu hr (aR (sv 0) (aR (au aN (sv 8) aa) (aR aa aA rfl) rfl) rfl)) aa (bM _);(· lia;exact T7 (i:=9) (j:=10) hc nd rfl rfl (by decide) rfl rfl (BK rfl hc (by rfl) mQ (dR (sv 9) (dR (sv 10) aX rfl) rfl)) (Mz rfl hc (by rfl) JV (dR (sv 9) (dR (sv 10) aX rfl) rfl));exact aq);exact aq);(· lia;(· exists 11,ao (eU (Am [0,1,2,3,4,1,2,7] rfl aX)) (cU bu hr (aR (sv 0) (aR (au aN (sv 8) aa) (aR aa aA rfl) rfl) rfl)));(· lia;(· exists 12,au aN aa (cU bu hr (aR (sv 0) (aR (au aN (sv 8) aa) (aR aa aA rfl) rfl) rfl)));(· lia;(· exists fj ?_ ?_ ?_;exact gw (sv 5);(· lia;(· exists 11,ao (eU (dR (sv 11) (dR (au dm (au dN aa aa) (sv 11)) (dR (cU gP hr (aR (sv 0) (aR (au aN (sv 8) aa) (aR (au aN (au dN aa aa) aa) aA rfl) rfl) rfl)) aX rfl) rfl) rfl)) (cU bu hr (aR (sv 0) (aR (au aN (sv 8) aa) (aR aa aA rfl) rfl) rfl)));(· lia;(· exists 12,ao (eU (dR (sv 12) (dR (au dm (au dN aa aa) (sv 12)) (dR (au aN aa (cU bu hr (aR (sv 0) (aR (au aN (sv 8) aa) (aR (au dN aa aa) aA rfl) rfl) rfl))) aX rfl) rfl) rfl)) (cU bu hr (aR (sv 0) (aR (au aN (sv 8) aa) (aR aa aA rfl) rfl) rfl)));exact aq));exact aq);(· lia;exact dg (k:=6) rfl (by ac_rfl) (cJ (dR (sv 9) (dR (sv 10) (dR (sv 11) (dR (sv 12) aX rfl) rfl) rfl) rfl));exact aq))))))))
 lia;.exists(),cU Aa hr (aR (sv 4) (aR (sv 6) aA rfl) rfl)
 exact aq
abbrev s36:Stmt:=top 56
noncomputable def b36:List S:=[.asg 2 (.call 33 [↑0,↑1,⇑5]),.ifs (.cmp .lt ↑2 ⇑3) [.ret (.call 33 [↑0,.bin .add ↑1 ⇑1,⇑16])] [],.ifs (.cmp .eq ↑2 ⇑3) [.ret (.call 34 [↑0,.bin .add ↑1 ⇑1,.bin .pow ⇑10 ⇑8])] [],.ret (.bin .sub (.bin .pow ⇑10 ⇑18) (.call 34 [↑0,.bin .add ↑1 ⇑1,.bin .pow ⇑10 ⇑12]))]
def Z2:Fd:=⟨2,3,b36⟩
theorem ach:aH ["draws","at","way"] ["draws","at"] (az s36):=nofun
include cl in
theorem d36(Fu:fX K "_law_last" "_law_last" s36 f fd)(bu:↥(33,"_law_draw",3,0))(gP:↥(34,"_law_wide",3,0)):↥(["draws","at"],2,Z2):=by
 exists Fu,ach,0,0;refine aL ?_ ?_;.exists 2,cU bu hr (aR (sv 0) (aR (sv 1) (aR aa aA rfl) rfl) rfl)
 lia;.exists fj ?_ ?_ ?_;exact cB (yS (bG hr)) (sv 2) aa (bM _);(· lia;(· exists(),cU bu hr (aR (sv 0) (aR (au aN (sv 1) aa) (aR aa aA rfl) rfl) rfl));exact aq);exact aq
 lia;.exists fj ?_ ?_ ?_;exact cB (lr (bG hr)) (sv 2) aa (bM _);(· lia;(· exists(),cU gP hr (aR (sv 0) (aR (au aN (sv 1) aa) (aR (au dN aa aa) aA rfl) rfl) rfl));exact aq);exact aq
 lia;.exists(),au dm (au dN aa aa) (cU gP hr (aR (sv 0) (aR (au aN (sv 1) aa) (aR (au dN aa aa) aA rfl) rfl) rfl))
 exact aq
abbrev s37:Stmt:=top 57
noncomputable def b37:List S:=[.asg 3 (.comp (.sy ⇑0 (.blt .len [.idx ↑0 ⇑1])) 1 [9] true none (.bin .add (.slice (.idx (.idx ↑0 ⇑1) ↑9) (.con .non) ⇑2) (.tup [.idx ↑1 ↑9,.idx (.idx (.idx ↑0 ⇑1) ↑9) ⇑3]))),.iY (.sy ⇑0 (.blt .len [.idx ↑0 ⇑1])) [4] true [.unp [5,6,7,8] (.idx (.idx ↑0 ⇑1) ↑4),.app 3 (.tup [↑6,↑5,.idx ↑2 ↑4,↑8])],.ret (.tup [.idx ↑0 ⇑0,.blt .tuple [↑3]])]
def f37:Fd:=⟨3,9,b37⟩
theorem acV:aH ["net","forth","back","ways","k","one","other","room","hours"] ["net","forth","back"] (az s37):=nofun
include cl in
theorem d37(Fu:fX K "_law_laned" "_law_laned" s37 f fd)(aY:mg "len"=none)(bz:mg "range"=none)(bj:mg "tuple"=none):↥(["net","forth","back"],3,f37):=by
 exists Fu,acV,0,0;refine aL ?_ ?_;.exact(pH (i:=3) (N':=["net","forth","back","ways","k#4","one","other","room","hours","k"]) hc nd rfl oi (uD rfl (by rfl)) (fP rfl (by rfl) bz (cI rfl (by rfl) aY (ao (sv 0) aa))) ⇑(aJ (i:=9) ‹["net","forth","back","ways","k#4","one","other","room","hours","k"]› rfl (Or.inl rfl) (Or.inr rfl)) (cP (dh)) ⇑(cj) ⇑((au aN (mH (ao (ao (sv 0) aa) (sv 9)) pN (pC aa)) (cJ (dR (ao (sv 1) (sv 9)) (dR (ao (ao (ao (sv 0) aa) (sv 9)) aa) aX rfl) rfl)))) (by rfl) (by intro _;rfl) (Or.inl rfl))
 lia;.exists 4,fP rfl (by rfl) bz (cI rfl (by rfl) aY (ao (sv 0) aa)),0;(· lia;exact Ui (ao (ao (sv 0) aa) (sv 4)) (eY hc (aU (aJ (i:=5) nd rfl oi oi) (aU (aJ (i:=6) nd rfl oi oi) (aU (aJ (i:=7) nd rfl oi oi) (aU (aJ (i:=8) nd rfl oi oi) di))))) (nR rfl (cW _ _ (cW _ _ (cW _ _ (cW _ _ jZ 8) 7) 6) 5));(· lia;exact dg (k:=3) rfl (by ac_rfl) (cJ (dR (sv 6) (dR (sv 5) (dR (ao (sv 2) (sv 4)) (dR (sv 8) aX rfl) rfl) rfl) rfl));exact aq))
 lia;.exists(),cJ (dR (ao (sv 0) aa) (dR (ir rfl (by rfl) bj (sv 3)) aX rfl) rfl)
 exact aq
abbrev s38:Stmt:=top 58
noncomputable def b38:List S:=[.ret (.and (.inst [.int] ↑0) (.not (.inst [.bool] ↑0)))]
def Z5:Fd:=⟨1,1,b38⟩
theorem adk:aH ["thing"] ["thing"] (az s38):=nofun
include cl in
theorem d38(Fu:fX K "_law_whole" "_law_whole" s38 f fd)(nZ:mg "bool"=none)(uo:mg "int"=none)(aV:mg "isinstance"=none):↥(["thing"],1,Z5):=by
 exists Fu,adk,0,0;refine aL ?_ ?_;.exists(),fZ (jm .int rfl (by rfl) aV (sv 0) (by rfl) uo (by kernel_rfl) (by decide) (by rfl)) (jT (Jp (jm .bool rfl (by rfl) aV (sv 0) (by rfl) nZ (by kernel_rfl) (by decide) (by rfl))))
 exact aq
abbrev s39:Stmt:=top 59
noncomputable def b39:List S:=[.asg 1 (.call 32 [↑0,⇑300]),.asg 2 (.call 35 [↑1,⇑0,⇑6,⇑6]),.asg 3 (.comp (.idx ↑2 ⇑1) 1 [10] true none (.idx ↑10 ⇑2)),.asg 4 (.call 37 [↑2,.vw 3,.vw 3]),.iY (.sy ⇑0 ⇑3) [5] true [.asg 6 (.call 36 [↑1,.bin .add ⇑200 (.bin .mul ⇑3 ↑5)]),.asg 7 (.call 30 [↑2,↑6]),.ifs (.or (.not (.inst [.tuple] ↑7)) (.cmp .ne (.blt .len [↑7]) (.blt .len [↑3]))) [.ret (.con (.bl false))] [],.iY (.sy ⇑0 (.blt .len [↑3])) [8] true [.ifs (.or (.not (.call 38 [.idx ↑7 ↑8])) (.or (.cmp .lt (.idx ↑7 ↑8) ⇑0) (.cmp .gt (.idx ↑7 ↑8) (.idx ↑3 ↑8)))) [.ret (.con (.bl false))] []],.asg 9 (.comp (.sy ⇑0 (.blt .len [↑3])) 1 [10] true none (.bin .sub (.idx ↑3 ↑10) (.idx ↑7 ↑10))),.ifs (.cmp .ne (.call 22 [.call 37 [↑2,↑7,↑9],↑6]) (.call 22 [↑4,↑6])) [.ret (.con (.bl false))] [],.ifs (.or (.cmp .ne (.call 30 [↑2,↑6]) ↑7) (.cmp .Ny (.call 31 [↑2,↑6,↑7]) (.con (.bl true)))) [.ret (.con (.bl false))] []],.ret (.con (.bl true))]
def f39:Fd:=⟨1,10,b39⟩
theorem acM:aH ["script","draws","net","rooms","both","turn","last","forth","k","back"] ["script"] (az s39):=nofun
include cl in
theorem d39(Fu:fX K "law" "law" s39 f fd)(aV:mg "isinstance"=none)(aY:mg "len"=none)(bz:mg "range"=none)(bj:mg "tuple"=none)(Ab:↥(32,"_law_all",2,0))(mR:↥(37,"_law_laned",3,0))(yc:↥(36,"_law_last",2,0))(Ac:↥(35,"_law_net",4,0))(vL:↥(38,"_law_whole",1,0))(mU:↥(30,"best_forth",2,0))(sH:↥(31,"forth_right",3,0))(iC:↥(22,"most_by",2,0)):↥(["script"],1,f39):=by
 exists Fu,acM,0,0;refine aL ?_ ?_;.exists 1,cU Ab hr (aR (sv 0) (aR aa aA rfl) rfl)
 lia;.exists 2,cU Ac hr (aR (sv 1) (aR aa (aR aa (aR aa aA rfl) rfl) rfl) rfl)
 lia;.exists nD (i:=3) ?_ ?_ ?_ ?_ ?_ ?_;exact nd;exact rfl;exact Or.inr rfl;rotate_left;rfl;exact oi;exact fc (N':=["script","draws","net","rooms","both","turn","last","forth","k","back","way"]) hc (uD rfl (by rfl)) (dG (ao (sv 2) aa)) ⇑(aJ (i:=10) ‹["script","draws","net","rooms","both","turn","last","forth","k","back","way"]› rfl (Or.inl rfl) (Or.inr rfl)) (cP (dh)) ⇑(cj) ⇑((ao (sv 10) aa))
 lia;.exists 4,cU mR hr (aR (sv 2) (aR (qy (i:=3) rfl (by ac_rfl)) (aR (qy (i:=3) rfl (by ac_rfl)) aA rfl) rfl) rfl)
 lia;.exists 5,fP rfl (by rfl) bz aa,0;(· lia;(· exists 6,cU yc hr (aR (sv 1) (aR (au aN aa (au dj aa (sv 5))) aA rfl) rfl));(· lia;(· exists nD (i:=7) ?_ ?_ ?_ ?_ ?_ ?_;exact nd;exact rfl;exact Or.inr rfl;rotate_left;rfl;exact oi;exact cU mU hr (aR (sv 2) (aR (sv 6) aA rfl) rfl));(· lia;(· exists fj ?_ ?_ ?_;exact SW.st (tE (nU (gw (jm .tuple rfl (by rfl) aV (sv 7) (by rfl) bj (by kernel_rfl) (by decide) (by rfl)))) (rF (cB (vB (bG hr)) (cI rfl (by rfl) aY (sv 7)) (cI rfl (by rfl) aY (sv 3)) (bM _))));(· lia;(· exists(),mq);exact aq);exact aq);(· lia;(· exists 8,fP rfl (by rfl) bz (cI rfl (by rfl) aY (sv 3)),0;(· lia;(· exists fj ?_ ?_ ?_;exact SW.st (tE (nU (gw (cU vL hr (aR (ao (sv 7) (sv 8)) aA rfl)))) (tE (cB (yS (bG hr)) (ao (sv 7) (sv 8)) aa (bM _)) (rF (cB lq (ao (sv 7) (sv 8)) (ao (sv 3) (sv 8)) (bM _)))));(· lia;(· exists(),mq);exact aq);exact aq);exact aq));(· lia;exact pH (i:=9) (N':=["script","draws","net","rooms","both","turn","last","forth","k#8","back","k"]) hc nd rfl oi (uD rfl (by rfl)) (fP rfl (by rfl) bz (cI rfl (by rfl) aY (sv 3))) ⇑(aJ (i:=10) ‹["script","draws","net","rooms","both","turn","last","forth","k#8","back","k"]› rfl (Or.inl rfl) (Or.inr rfl)) (cP (dh)) ⇑(cj) ⇑((au dm (ao (sv 3) (sv 10)) (ao (sv 7) (sv 10)))) (by rfl) (by intro _;rfl) (Or.inl rfl);(· lia;(· exists fj ?_ ?_ ?_;exact cB (vB (bG hr)) (cU iC hr (aR (cU mR hr (aR (sv 2) (aR (sv 7) (aR (sv 9) aA rfl) rfl) rfl)) (aR (sv 6) aA rfl) rfl)) (cU iC hr (aR (sv 4) (aR (sv 6) aA rfl) rfl)) (bM _);(· lia;(· exists(),mq);exact aq);exact aq);(· lia;(· exists fj ?_ ?_ ?_;exact SW.st (tE (cB (vB (bG hr)) (cU mU hr (aR (sv 2) (aR (sv 6) aA rfl) rfl)) (sv 7) (bM _)) (rF (cB Gp (cU sH hr (aR (sv 2) (aR (sv 6) (aR (sv 7) aA rfl) rfl) rfl)) mq (bM _))));(· lia;(· exists(),mq);exact aq);exact aq);exact aq)))))))
 lia;.exists(),mq
 exact aq
end T
end
noncomputable section
namespace T
open PySem L2 PySem.Spec PyProof.Rows HH
def Γ:Tab:=fun i=>[f0,f1,f2,f3,f4,f5,f6,f7,f8,f9,f10,f11,f12,Vy,f14,f15,f16,f17,f18,f19,f20,f21,f22,f23,f24,f25,f26,f27,f28,f29,f30,f31,f32,f33,f34,f35,Z2,f37,Z5,f39][i]?
end T
end
noncomputable section
namespace T
open HH
variable{a b m i g p k:Int}{n j w N l:Nat}{ls ds ch fo ba:List Int}{Q:R->List Sl->Prop}{f:Bool}{F q:Int->Int}{ρ:List Sl}{kvs r:List (Int×Int)}
local macro_rules|`(tactic|symm)=>`(tactic|first|apply ak|apply Ei)
structure Wy where(s t r h:Int)
variable{v:Wy}{ws:List Wy}
def Wy.d(w:Wy):D:=.tup [.int w.s,.int w.t,.int w.r,.int w.h]
structure Wy.Ok(m:Int)(w:Wy):Prop where
 s0:0<=w.s
 s1:w.s<m
 t0:0<=w.t
 t1:w.t<m
 ne:w.s≠w.t
 r0:0<=w.r
 r1:w.r<=1000000000
 h0:1<=w.h
 h1:w.h<=1000000
theorem other(h1:0<=a)(h2:a<m)(h3:0<=b)(h4:b<m-1):0<=(a+1+b)%m/\(a+1+b)%m<m/\(a+1+b)%m≠a:=by
 by_cases h:a+1+b<m;.rw[Int.emod_eq_of_lt (by omega) h];omega
 . have e:(a+1+b)%m=a+1+b-m:=by rw[<-Int.sub_emod_right,Int.emod_eq_of_lt (by omega) (by omega)]
   rw[e];omega
def aP(m:Int)(ws:List Wy):D:=.tup [.int m,.tup (ws.map Wy.d)]
structure eN(m:Int)(ws:List Wy):Prop where
 m0:2<=m
 m1:m<=6
 len:ws.length<=12
 ok:∀w∈ws,w.Ok m
@[simp]theorem agw{m:Int}{ws:List Wy}:Ly (aP m ws) (.int 0)=some (.val (.int m)):=rfl
@[simp]theorem agh{m:Int}{ws:List Wy}:Ly (aP m ws) (.int 1)=some (.val (.tup (ws.map Wy.d))):=rfl
def ab(i:Int):Int:=if i<0 then-i else i
theorem Cj:blt .abs [.int i]=some (.val (.int (ab i))):=rfl
def Yc(d:D):D:=.int (ab (lE d))
inductive FAl(a0 a1 a2 a3 a4 a5 a6 a7 a8:Sl)(ρ:List Sl):Prop where|mk(s:Sl)(q0:ρ=[a0,a1,a2,a3,a4,a5,a6,a7,a8,s])(q1:fr s=true)
def Dr(ds:List Int):Prop:=∀d∈ds,0<=d/\d<1000000
inductive JAl(N:Nat)(a0 a1:Sl)(i:Nat)(ρ:List Sl):Prop where|mk(cs ls fd:List Int)(s5 s6 s7 s8:Sl)(q0:ρ=[a0,a1,.own false (cs.map D.int),.own false (ls.map D.int),.own false (fd.map D.int),s5,s6,s7,s8])(q1:A4 (fr s5=true) (fr s6=true) (fr s7=true) (fr s8=true))(q2:cs.length=N)(q3:ls.length=N)(q4:fd.length=i)(q5:Dr fd)
theorem pA(a:Int)(h:0<b):0<=a%b/\a%b<b:=⟨Int.emod_nonneg _ (by omega),Int.emod_lt_of_pos _ h⟩
theorem Aj{cs:List Int}{a b:Option Int}:cut (cs.map D.int) a b=(cut cs a b).map D.int:=by unfold cut;simp
theorem aec{ds:List D}:J8 (.lst ds) (part (.con .non) .non) (part (.con (.int i)) (.int i))=some (.own (cut ds none (some i))):=rfl
theorem RM{c:Call}{A B:List S}{a0 a1 a4 a5 s7 s8:Sl}{cs:List Int}{c0 l0:Int}{Q:Fl->List Sl->Prop}(e1:at' (cs.map D.int) (j:Int)=some (.int c0))(e2:at' (ls.map D.int) (j:Int)=some (.int l0))(h1:(ik c n A [a0,a1,.own false (cs.map D.int),.own false (ls.map D.int),a4,a5,.val false (.int j),s7,s8]).sat Q)(h2:(ik c n B [a0,a1,.own false (cs.map D.int),.own false (ls.map D.int),a4,a5,.val false (.int j),s7,s8]).sat Q):(ex c n (.ifs (.and (.cmp .ge (.blt .abs [.idx (.var 2) (.var 6)]) (.bin .pow (.con (.int 10)) (.con (.int 18)))) (.cmp .gt (.idx (.var 3) (.var 6)) (.con (.int 0)))) A B) [a0,a1,.own false (cs.map D.int),.own false (ls.map D.int),a4,a5,.val false (.int j),s7,s8]).sat Q:=by have hab:=Cj (i:=c0);generalize ab c0=av at hab;simp[e1,e2,hab];exact⟨fun _=>⟨fun _=>h1,fun _=>h2⟩,fun _=>h2⟩
set_option maxHeartbeats 400000 in
theorem M7{M:Nat}{ns:List Int}(hn:ns.length<=63)(hM:M<=1000)(k:∀ds:List Int,ds.length=M->Dr ds->Q (.own (ds.map D.int)) [.val false (.lst (ns.map D.int)),.val false (.int M)]):(run Γ w (n+1) 32 [.val false (.lst (ns.map D.int)),.val false (.int M)]).sat Q:=by
 refine aK (d:=f32) rfl rfl (by decide) ?_;refine cG (fun ρ=>∃cs:List Int,ρ=[.val false (.lst (ns.map D.int)),.val false (.int M),.own false (cs.map D.int),.aO,.aO,.aO,.aO,.aO,.aO]/\cs.length<=63) ?_ ?_;.simp[f32,aec,Aj];refine⟨_,rfl,?_⟩;unfold cut;simp;omega
 rintro _⟨cs,rfl,hc⟩;refine cG (fun ρ=>∃cs:List Int,ρ=[.val false (.lst (ns.map D.int)),.val false (.int M),.own false (cs.map D.int),.aO,.aO,.aO,.aO,.aO,.aO]/\cs.length<=63/\0<cs.length) ?_ ?_;.simp[Lj];cases cs with|nil=>simp;apply ak;simp;exact⟨[0],rfl,by simp,by simp⟩|cons c cs=>simp;exact⟨c::cs,rfl,by simpa using hc,by simp⟩
 rintro _⟨cs,rfl,hc,hc0⟩;symm;simp[show cs.length<=16777216 by omega];refine bH (FAl _ _ _ _ _ _ _ _ _) Yc ⟨.aO,rfl,rfl⟩ ?_ ?_;.rintro d hd _⟨s,rfl,hs⟩;obtain⟨c,_,rfl⟩:=mem_map.mp hd;simp[hs,Cj];exact⟨rfl,_,rfl,rfl⟩
 rintro _⟨s,rfl,hs⟩;have e:(cs.map D.int).map Yc=(cs.map ab).map D.int:=by rw[map_map,map_map];rfl
 rw[e];have hll:(cs.map ab).length=cs.length:=length_map _;generalize(cs.map ab)=ls at*;simp;apply ak;simp;apply ak;simp[show(M:Int)<=1000000000 by omega];refine gq (JAl cs.length _ _) ?_ ?_ ⟨cs,ls,[],.aO,.aO,.aO,.aO,rfl,⟨rfl,rfl,rfl,rfl⟩,rfl,hll,rfl,fun d hd=>by cases hd⟩
 . rintro i _ hi⟨cs',ls,fd,s5,s6,s7,s8,rfl,⟨h5,h6,h7,h8⟩,h1,h2,h3,hD⟩;obtain⟨j,hj,j0⟩:∃j:Nat,(i:Int)%(cs'.length:Int)=(j:Int)/\j<cs'.length:=⟨i%cs'.length,by omega,Nat.mod_lt _ (by omega)⟩;have a1:at' (cs'.map D.int) (j:Int)=some (.int cs'[j]):=cY (by simp[j0]);have j2:j<ls.length:=by omega
   have a2:at' (ls.map D.int) (j:Int)=some (.int ls[j]):=cY (by simp[j2]);have hx:jC ls.length (j:Int)=some j:=Ry j2;generalize cs'[j]=c0 at*;generalize ls[j]=l0 at*;have hcp:0<cs'.length:=by omega
   have hex:∃ii:Int,ii=(i:Int):=⟨_,rfl⟩;obtain⟨ii,hii⟩:=hex;have snoc:∀{x:Int},0<=x->x<1000000->Dr (fd++[x]):=fun{x}x0 x1 d hd=>by
    rcases mem_append.mp hd with hd|hd;.exact hD d hd
    .rw[mem_singleton.mp hd];exact⟨x0,x1⟩
   simp[h5];apply ak;simp[h6,hcp,hj];apply ak;refine RM a1 a2 ?_ ?_;.symm;have q1:=pA l0 (b:=1000000) (by decide);simp[a2,show fd.length<16777216 by omega];apply ak;simp[a2,hx];exact⟨cs',ls.set j (l0/1000000),fd++[l0%1000000],.val false (.int i),.val false (.int j),s7,s8,by simp[map_set],⟨rfl,rfl,h7,h8⟩,h1,by simpa using h2,by simp;omega,snoc q1.1 q1.2⟩
   . have i1:-18446744073709551616<977*ii/\977*ii<18446744073709551616:=by omega
     rw[<-hii];symm;simp[i1,h7];generalize 977*ii*ii+131*ii+1=st;symm;simp[a1,h8];generalize hm:(c0%1000000007*48271+st)%2147483647=mx;have m0:=pA (c0%1000000007*48271+st) (b:=2147483647) (by decide);rw[hm]at m0;have m1:-18446744073709551616<mx/\mx<18446744073709551616:=by omega
     symm;simp[m1];generalize hm2:mx*mx%2147483647=my;have n0:=pA (mx*mx) (b:=2147483647) (by decide);rw[hm2]at n0;symm;simp[show fd.length<16777216 by omega];have q1:=pA ((my+40692*(ii+3))*69621%2147483629/8) (b:=1000000) (by decide);exact⟨cs',ls,fd++[(my+40692*(ii+3))*69621%2147483629/8%1000000],.val false (.int ii),.val false (.int j),.val false (.int st),.val false (.int my),by simp,⟨rfl,rfl,rfl,rfl⟩,h1,h2,by simp;omega,snoc q1.1 q1.2⟩
 .rintro _⟨cs',ls,fd,s5,s6,s7,s8,rfl,_,h1,h2,h3,hD⟩;symm;simp;exact k fd h3 hD
theorem cH{at0:Int}(hd:0<ds.length)(a0:0<=at0)(m0:0<m)(m1:m<=1000000000000000000000)(k:∀d,0<=d->d<m->Q (.val (.int d)) [.own true (ds.map D.int),.val false (.int at0),.val false (.int m)]):(run Γ w (n+1) 33 [.own true (ds.map D.int),.val false (.int at0),.val false (.int m)]).sat Q:=by
 have m2:m<1606938044258990275541962092341162602522202993782792835301376:=by omega
 obtain⟨j,hj,j0⟩:∃j:Nat,at0%(ds.length:Int)=(j:Int)/\j<ds.length:=⟨(at0%(ds.length:Int)).toNat,by have:=pA at0 (b:=(ds.length:Int)) (by omega);omega,by have:=pA at0 (b:=(ds.length:Int)) (by omega);omega⟩;have a1:at' (ds.map D.int) (j:Int)=some (.int ds[j]):=cY (by simp[j0]);generalize ds[j]=d0 at*;refine aK (d:=f33) rfl rfl (by decide) ?_;symm;simp[f33,hd,hj,a1,m0,m2];exact k _ (pA d0 m0).1 (pA d0 m0).2
theorem rG{at0:Int}(hD:Dr ds)(hd:0<ds.length)(a0:0<=at0)(m0:0<m)(m1:m<=1000000000000000000000)(k:∀d,0<=d->d<m->Q (.val (.int d)) [.own true (ds.map D.int),.val false (.int at0),.val false (.int m)]):(run Γ w (n+1) 34 [.own true (ds.map D.int),.val false (.int at0),.val false (.int m)]).sat Q:=by
 have m2:m<1606938044258990275541962092341162602522202993782792835301376:=by omega
 have get:∀a:Int,∃j:Nat,a%(ds.length:Int)=(j:Int)/\j<ds.length:=fun a=>⟨(a%(ds.length:Int)).toNat,by have:=pA a (b:=(ds.length:Int)) (by omega);omega,by have:=pA a (b:=(ds.length:Int)) (by omega);omega⟩;obtain⟨j,hj,j0⟩:=get at0;obtain⟨i,hi,i0⟩:=get (at0+1);have a1:at' (ds.map D.int) (j:Int)=some (.int ds[j]):=cY (by simp[j0]);have a2:at' (ds.map D.int) (i:Int)=some (.int ds[i]):=cY (by simp[i0]);generalize ds[j]=d0 at*;generalize ds[i]=d1 at*;refine aK (d:=f34) rfl rfl (by decide) ?_;symm;simp[f34,hd,hj,a1];apply ak;simp[hd,hi,a2,m0,m2];exact k _ (pA _ m0).1 (pA _ m0).2
theorem Dn(k:Q (.val (.bl true)) [.val false (.int i)]):(run Γ w (n+1) 11 [.val false (.int i)]).sat Q:=by refine aK (d:=f11) rfl rfl (by decide) ?_;symm;simp[f11];exact k
theorem gA(h1:a<=i)(h2:i<=b)(k:Q (.val (.bl true)) [.val false (.int i),.val false (.int a),.val false (.int b)]):(run Γ w (n+2) 12 [.val false (.int i),.val false (.int a),.val false (.int b)]).sat Q:=by refine aK (d:=f12) rfl rfl (by decide) ?_;symm;simp[f12];refine Dn ?_;simp[h1,h2];exact k
theorem GQ{ds:List D}(k:Q (.val (.bl true)) [.val false (.tup ds)]):(run Γ w (n+1) 13 [.val false (.tup ds)]).sat Q:=by refine aK (d:=Vy) rfl rfl (by decide) ?_;symm;simp[Vy];exact k
theorem Gs{b:Bool}{ds:List D}(k:Q (.val (.bl true)) [.own b ds]):(run Γ w (n+1) 13 [.own b ds]).sat Q:=by refine aK (d:=Vy) rfl rfl (by decide) ?_;symm;simp[Vy];exact k
theorem Dd(h:v.Ok m)(k:Q (.val (.bl true)) [.val false (.int m),.val false v.d]):(run Γ w (n+3) 14 [.val false (.int m),.val false v.d]).sat Q:=by obtain⟨s,t,r,hh⟩:=v;obtain⟨s0,s1,t0,t1,ne,r0,r1,h0,h1⟩:=h;simp only at s0 s1 t0 t1 ne r0 r1 h0 h1;refine aK (d:=f14) rfl rfl (by decide) ?_;symm;simp[f14,Wy.d];refine GQ ?_;simp;refine gA s0 (by omega) ?_;simp;refine gA t0 (by omega) ?_;simp[ne];refine gA r0 r1 ?_;simp;refine gA h0 h1 ?_;simp;exact k
inductive JMd(m:Int)(ws:List Wy)(a0 a1:Sl)(r:List D)(ρ:List Sl):Prop where|mk(s2:Sl)(s3:Sl)(q0:ρ=[a0,a1,s2,s3])(q1:(fr s2=true/\fr s3=true))(q2:∀d∈r,∃(i:Nat)(v:Wy),d=.tup [.int i,v.d]/\v.Ok m)
inductive F4m(a0 a1 a2 a3:Sl)(ρ:List Sl):Prop where|mk(s:Sl)(q0:ρ=[a0,a1,a2,a3,s])(q1:fr s=true)
theorem Ht(h:eN m ws)(k:Q (.val (aP m ws)) [.val false (.int m),.val true (.lst (ws.map Wy.d))]):(run Γ w (n+4) 15 [.val false (.int m),.own true (ws.map Wy.d)]).sat Q:=by
 have m0:=h.m0;have m1:=h.m1;have hn:=h.len;refine aK (d:=f15) rfl rfl (by decide) ?_;symm;simp[f15];refine gA m0 m1 ?_;simp;refine Gs ?_;simp;apply ak;simp;refine cO (JMd m ws _ _) ?_ ?_ ⟨.aO,.aO,rfl,⟨rfl,rfl⟩,fun d hd=>?_⟩;.rintro d r _⟨s2,s3,rfl,⟨h2,h3⟩,hd⟩;obtain⟨i,v,rfl,hv⟩:=hd d (by simp);simp[h2,h3];apply ak;simp;refine Dd hv ?_;simp;exact⟨_,_,rfl,⟨rfl,rfl⟩,fun d h=>hd d (mem_cons_of_mem _ h)⟩
 . rintro _⟨s2,s3,rfl,⟨h2,h3⟩,_⟩;simp;apply ak;simp[show ¬(12:Int)<(ws.length:Int)by omega,show ¬ 12<ws.length by omega];apply ak;simp[show ws.length<=16777216 by omega];refine bH (F4m _ _ _ _) (fun d=>d) ⟨.aO,rfl,rfl⟩ ?_ ?_;.rintro d hd _⟨s,rfl,hs⟩;obtain⟨v,_,rfl⟩:=mem_map.mp hd;simp[hs,Wy.d];exact⟨_,rfl,rfl⟩
   .rintro _⟨s,rfl,hs⟩;simp;exact k
 . rw[List.mem_mapIdx]at hd;obtain⟨i,hi,rfl⟩:=hd;have hi':i<ws.length:=by simpa using hi
   exact⟨i,ws[i],by simp,h.ok _ (getElem_mem hi')⟩
theorem yR{ns:List Int}{lo hi:Int}(h0:0<=i)(h1:i<(ns.length:Int))(k:∀x∈ns,lo<=x/\x<=hi):∃r,at' (ns.map D.int) i=some (.int r)/\lo<=r/\r<=hi:=by
 have hk:i.toNat<ns.length:=by omega
 refine⟨ns[i.toNat],?_,k _ (getElem_mem hk)⟩;rw[yF h0 (by simpa using h1)];simp[hk]
inductive JNt(m:Int)(wd:Bool)(a0 a1 a2 a3:Sl)(i:Nat)(ρ:List Sl):Prop where|mk(ws:List Wy)(s7 s8 s9 ni J5 s12:Sl)(q0:ρ=[a0,a1,a2,a3,.val false (.int m),.val false (.bl wd),.own false (ws.map Wy.d),s7,s8,s9,ni,J5,s12])(q1:A6 (fr s7=true) (fr s8=true) (fr s9=true) (fr ni=true) (fr J5=true) (fr s12=true))(q2:(∀v∈ws,v.Ok m))(q3:ws.length=i)
theorem Fw{pl mo:Int}(hD:Dr ds)(hd:0<ds.length)(p0:2<=pl)(p1:pl<=6)(o0:0<=mo)(o1:mo<=12)(k:∀m ws,eN m ws->m<=pl->(ws.length:Int)<=mo->Q (.val (aP m ws)) [.own true (ds.map D.int),.val false (.int 0),.val false (.int pl),.val false (.int mo)]):(run Γ w (n+5) 35 [.own true (ds.map D.int),.val false (.int 0),.val false (.int pl),.val false (.int mo)]).sat Q:=by
 refine aK (d:=f35) rfl rfl (by decide) ?_;symm;simp[f35];refine cH hd (by omega) (by omega) (by omega) fun d d0 d1=>?_;simp;generalize hm:2+d=m;have m0:2<=m:=by omega
 have m1:m<=pl:=by omega
 symm;simp;refine cH hd (by omega) (by omega) (by omega) fun d2 _ _=>?_;simp;generalize(d2==0)=wd;symm;simp;apply ak;simp;refine cH hd (by omega) (by omega) (by omega) fun N n0 n1=>?_;simp[show N<=1000000000 by omega];refine⟨by omega,?_⟩;refine gq (JNt m wd _ _ _ _) ?_ ?_ ⟨[],.aO,.aO,.aO,.aO,.aO,.aO,rfl,⟨rfl,rfl,rfl,rfl,rfl,rfl⟩,by simp,rfl⟩
 . rintro i _ hi⟨ws,s7,s8,s9,ni,J5,s12,rfl,⟨h7,h8,h9,h10,h11,h12⟩,hok,hl⟩;simp[h7];apply ak;simp[h8];generalize hsp:(10:Int)+10*(i:Int)=sp;have sp0:0<=sp:=by omega
   symm;simp;refine cH hd (by omega) (by omega) (by omega) fun a a0 a1=>?_;simp[h9];apply ak;simp;refine cH hd (by omega) (by omega) (by omega) fun b b0 b1=>?_;obtain⟨t0,t1,tn⟩:=other a0 a1 b0 (by omega);simp[show 0<m by omega,h10,show m<1606938044258990275541962092341162602522202993782792835301376 by omega];generalize(a+1+b)%m=t at*;refine cG (fun ρ=>∃s t:Int,ρ=[.own true (ds.map D.int),.val false (.int 0),.val false (.int pl),.val false (.int mo),.val false (.int m),.val false (.bl wd),.own false (ws.map Wy.d),.val false (.int i),.val false (.int sp),.val false (.int s),.val false (.int t),J5,s12]/\(0<=s/\s<m)/\(0<=t/\t<m)/\s≠t) ?_ ?_
   . simp;refine cH hd (by omega) (by omega) (by omega) fun c _ _=>?_;simp;refine⟨fun _=>?_,fun _=>?_⟩;.symm;simp;refine⟨_,_,⟨rfl,rfl⟩,?_⟩;split<;>split<;>omega
     .exact⟨_,_,⟨rfl,rfl⟩,⟨a0,a1⟩,⟨t0,t1⟩,fun e=>tn e.symm⟩
   rintro _⟨s,t,rfl,⟨s0,s1⟩,⟨t0,t1⟩,ne⟩;symm;simp;refine cH hd (by omega) (by omega) (by omega) fun c c0 c1=>?_;obtain⟨r,er,r0,r1⟩:=yR (ns:=[0,1,2,3,4,1,2,7]) (lo:=0) (hi:=7) c0 (by simpa using c1) (by simp);simp only[map_cons,map_nil]at er;simp[er,h11];apply ak;simp;refine cH hd (by omega) (by omega) (by omega) fun c c0 c1=>?_;simp[h12];generalize hh:1+c=hr;refine cG (fun ρ=>∃r h:Int,ρ=[.own true (ds.map D.int),.val false (.int 0),.val false (.int pl),.val false (.int mo),.val false (.int m),.val false (.bl wd),.own false (ws.map Wy.d),.val false (.int i),.val false (.int sp),.val false (.int s),.val false (.int t),.val false (.int r),.val false (.int h)]/\(0<=r/\r<=1000000000)/\(1<=h/\h<=1000000)) ?_ ?_;.cases wd with|false=>simp;exact⟨_,_,⟨rfl,rfl⟩,by omega⟩|true=>simp;apply ak;simp;refine rG hD hd (by omega) (by omega) (by omega) fun e e0 e1=>?_;simp;refine cH hd (by omega) (by omega) (by omega) fun c c0 c1=>?_;obtain⟨r',er',r0',r1'⟩:=yR (ns:=[r,1000000000-r,e]) (lo:=0) (hi:=1000000000) c0 (by simpa using c1) (by simp;omega);simp only[map_cons,map_nil]at er';simp[er'];apply ak;simp;refine cH hd (by omega) (by omega) (by omega) fun e e0 e1=>?_;simp;refine cH hd (by omega) (by omega) (by omega) fun c c0 c1=>?_;obtain⟨h',eh',h0',h1'⟩:=yR (ns:=[hr,1000000-hr,1+e]) (lo:=1) (hi:=1000000) c0 (by simpa using c1) (by simp;omega);simp only[map_cons,map_nil]at eh';simp[eh'];exact⟨_,_,⟨rfl,rfl⟩,by omega⟩
   rintro _⟨r,h,rfl,⟨r0,r1⟩,⟨h0,h1⟩⟩;symm;simp[show ws.length<16777216 by omega];refine⟨ws++[⟨s,t,r,h⟩],.val false (.int i),.val false (.int sp),.val false (.int s),.val false (.int t),.val false (.int r),.val false (.int h),by simp[Wy.d],⟨rfl,rfl,rfl,rfl,rfl,rfl⟩,fun v hv=>?_,by simp;omega⟩;rcases mem_append.mp hv with hv|hv;.exact hok v hv
   .rw[mem_singleton.mp hv];exact⟨s0,s1,t0,t1,ne,r0,r1,h0,h1⟩
 .rintro _⟨ws,s7,s8,s9,ni,J5,s12,rfl,_,hok,hl⟩;have hN:eN m ws:=⟨m0,by omega,by omega,hok⟩;symm;simp;refine Ht hN ?_;simp;exact k m ws hN m1 (by omega)
def fu(j:Nat)(f:Bool):D:=.tup [.int j,.bl f]
def frm(v:Wy)(f:Bool):Int:=if f then v.s else v.t
def too(v:Wy)(f:Bool):Int:=if f then v.t else v.s
theorem lD(e:ws[j]?=some v)(k:Q (.val (.tup [.int (frm v f),.int (too v f)])) [.val false (aP m ws),.val false (fu j f)]):(run Γ w (n+1) 0 [.val false (aP m ws),.val false (fu j f)]).sat Q:=by refine aK (d:=f0) rfl rfl (by decide) ?_;symm;simp[f0,fu,cY e];apply ak;cases f with|true=>simp[Wy.d];exact k|false=>simp[Wy.d];exact k
def hsp(v:Wy)(f:Bool):Int:=if f then v.h else-v.h
theorem sV(e:ws[j]?=some v)(k:Q (.val (.int (hsp v f))) [.val false (aP m ws),.val false (fu j f)]):(run Γ w (n+1) 1 [.val false (aP m ws),.val false (fu j f)]).sat Q:=by refine aK (d:=f1) rfl rfl (by decide) ?_;symm;simp[f1,fu,cY e,Wy.d];apply ak;cases f with|true=>simp;exact k|false=>simp;exact k
def Ue(s:Sl)(fs:List Int):Prop:=s=.val false (.lst (fs.map D.int))\/∃b,s=.own b (fs.map D.int)
def nu(v:Wy)(g:Int)(f:Bool):Int:=if f then v.r-g else g
theorem tW{s:Sl}{fs:List Int}(hs:Ue s fs)(e:ws[j]?=some v)(eg:fs[j]?=some g)(k:Q (.val (.int (nu v g f))) [.val false (aP m ws),s,.val false (fu j f)]):(run Γ w (n+1) 2 [.val false (aP m ws),s,.val false (fu j f)]).sat Q:=by refine aK (d:=f2) rfl rfl (by decide) ?_;symm;rcases hs with rfl|⟨b,rfl⟩;all_goals simp[f2,fu,cY eg];apply ak;cases f with|true=>simp[cY e,Wy.d];exact k|false=>simp;exact k
@[simp]theorem abh{c:Call}{n x k:Nat}{src elt:P}{is:List Nat}{one:Bool}{ρ:List Sl}:ex c n (.JK x src k is one elt) ρ=(srcOf (isVar src) (ev c src) ρ).bind fun ds ρ₁=>if ds.length<=lim then(fG is one (ev c elt) ds [] (ρ₁++replicate k .aO)).bind fun rows ρ₂=>(lift (put (aW ρ (isVar src) (ρ₂.take ρ₁.length)) x (.hold rows)) ρ).bind fun ρ' _=>.ok .next ρ' else .stuck:=(rfl)
@[simp]theorem abm{c:Call}{n:Nat}{src:P}{is:List Nat}{one:Bool}{body:List S}{ρ:List Sl}:ex c n (.Ex src is one body) ρ=(ev c src ρ).bind fun r ρ₁=>(lift (items r.d) ρ₁).bind fun ds ρ₁=>iy is one (ik c n body) ds ρ₁:=(rfl)
@[simp]theorem acK{c:Call}{n x:Nat}{ρ:List Sl}:ex c n (.cX x) ρ=match ρ[x]?with|some (.hold rows)=>.ok .next (ρ.set x (.val false (.lst (rows.map D.lst))))|_=>.stuck:=(rfl)
@[simp]theorem aaE{c:Call}{n x:Nat}{i e:P}{ρ:List Sl}:ex c n (.JL x i e) ρ=(cC (isVar i) (ev c i) ρ).bind fun k ρ=>(lift (vy ρ x k) ρ).bind fun _ ρ=>(ev c e ρ).bind fun r ρ=>Du ρ x ((jf ρ x).bind fun rows=>(iK k).bind fun k=>jJ rows k fun row=>if row.length<lim then some (row++[r.d])else none):=(rfl)
@[simp]theorem aaF{a:Sl}{l:List Sl}{x:Nat}:jf (a::l) x=match(a::l)[x]?with|some (.hold rows)=>some rows|_=>none:=rfl
@[simp]theorem Vx{ρ:List Sl}{x:Nat}{rows:List (List D)}:Du ρ x (some rows)=.ok .next (ρ.set x (.hold rows)):=rfl
@[simp]theorem adP{a:Sl}{l:List Sl}{x:Nat}{k:Int}:vy (a::l) x (.int k)=match(a::l)[x]?with|some (.hold rows)=>rowAt rows k|_=>none:=by unfold vy jf;cases h:(a::l)[x]?with|none=>rfl|some s=>cases s<;>rfl
theorem p6{is:List Nat}{one:Bool}{elt:Ev}(J:List Sl->Prop)(g:D->List D){Q:List (List D)->List Sl->Prop}:∀{ds:List D}{acc:List (List D)}{ρ:List Sl},J ρ->(∀d,d∈ds->∀ρ,J ρ->∃ρ1,cN ρ is one d=some ρ1/\(elt ρ1).sat fun r ρ3=>r=.own (g d)/\J ρ3)->(∀ρ,J ρ->Q (acc++ds.map g) ρ)->(fG is one elt ds acc ρ).sat Q|[],acc,ρ,j,h,k=>by rw[fG];simpa using k ρ j|d::r,acc,ρ,j,h,k=>by obtain⟨ρ1,e,h1⟩:=h d (by simp) ρ j;rw[fG,e];show((elt ρ1).bind _).sat Q;rw[bZ];refine h1.imp fun x ρ3⟨e1,j3⟩=>?_;subst e1;exact p6 J g j3 (fun d' hd'=>h d' (by simp[hd'])) fun ρ' j'=>by simpa using k ρ' j'
@[simp]theorem aeS{c:Call}{x:Nat}{k:P}{ρ:List Sl}:ev c (.Qd x k) ρ=match ρ[x]?with
 |some (.cF _)=>(cC (isVar k) (ev c k) ρ).bind fun kd ρ=>match ρ[x]?with|some (.cF kvs)=>lift ((iK kd).bind fun k=>(lu kvs k).map .val) ρ|_=>.stuck
 |_=>.stuck:=(rfl)
def oX(kvs:List (Int×D))(k:Int):Bool:=(kvs.map (·.1)).contains k
def Em(kvs:List (Int×D)):List Int:=kvs.map (·.1)
def dsV(kvs:List (Int×D)):List D:=kvs.map (·.2)
@[simp]theorem aco{c:Call}{x:Nat}{k:P}{neg:Bool}{ρ:List Sl}:ev c (.Qe x k neg) ρ=(cC (isVar k) (ev c k) ρ).bind fun kd ρ=>match ρ[x]?with|some (.cF kvs)=>lift ((iK kd).map fun k=>.val (.bl (if neg then !oX kvs k else oX kvs k))) ρ|_=>.stuck:=(rfl)
@[simp]theorem aaT{c:Call}{k e:Int}{ρ:List Sl}:ev c (.zR k e) ρ=.ok (.val (.dv [k] [.int e])) ρ:=(rfl)
@[simp]theorem agf{c:Call}{x:Nat}{ρ:List Sl}:ev c (.vw x) ρ=match ρ[x]?with|some (.gH m)=>.ok (.val (.dU m)) (ρ.set x (.val false (.dU m)))|some (.cF kvs)=>.ok (.val (.dv (Em kvs) (dsV kvs))) (ρ.set x (.val false (.dv (Em kvs) (dsV kvs))))|some (.own b ds)=>.ok (.val (.lst ds)) (ρ.set x (.val b (.lst ds)))|some (.val _ d)=>.ok (.val d) ρ|_=>.stuck:=(rfl)
@[simp]theorem Z6{c:Call}{n x:Nat}{ρ:List Sl}:ex c n (.Ey x) ρ=match ρ[x]?with|some .aO=>.ok .next (ρ.set x (.cF []))|some (.cF _)=>.ok .next (ρ.set x (.cF []))|some (.val false _)=>.ok .next (ρ.set x (.cF []))|_=>.stuck:=(rfl)
@[simp]theorem abn{c:Call}{n x:Nat}{k e:P}{ρ:List Sl}:ex c n (.fM x k e) ρ=(ev c e ρ).bind fun r ρ=>match ρ[x]?with
 |some (.cF _)=>(cC (isVar k) (ev c k) ρ).bind fun kd ρ=>match ρ[x]?,kd with|some (.cF kvs),.int k=>if kvs.length<lim then .ok .next (ρ.set x (.cF (fM kvs k r.d)))else .stuck|_,_=>.stuck
 |_=>.stuck:=(rfl)
@[simp]theorem abq{c:Call}{n x:Nat}{i e:P}{sub:Bool}{ρ:List Sl}:ex c n (.JG x i sub e) ρ=(lift (Fg ρ x) ρ).bind fun _ ρ=>(cC (isVar i) (ev c i) ρ).bind fun k ρ=>(lift (Fg ρ x) ρ).bind fun l ρ=>(lift ((iK k).bind fun i=>at' l i) ρ).bind fun a ρ=>(cC (isVar e) (ev c e) ρ).bind fun b ρ=>match a,b,ρ[x]?,k with
 |.int u,.int v,some (.own bb ds),.int k=>match jC ds.length k with|some j=>.ok .next (ρ.set x (.own bb (ds.set j (.int (if sub then u-v else u+v)))))|none=>.stuck
 |_,_,_,_=>.stuck:=(rfl)
@[simp]theorem Vw{x:Nat}{k:P}:isVar (.Qd x k)=none:=rfl
@[simp]theorem Vn{x:Nat}{k:P}{b:Bool}:isVar (.Qe x k b)=none:=rfl
@[simp]theorem YM{x:Nat}:isVar (.vw x)=none:=rfl
@[simp]theorem Uo{k e:Int}:isVar (.zR k e)=none:=rfl
@[simp]theorem aeU{kvs:List (Int×D)}:fr (.cF kvs)=false:=rfl
@[simp]theorem abb{r:List (List D)}:fr (.hold r)=false:=rfl
@[simp]theorem YQ:rT .zQ=Bj:=rfl
@[simp]theorem aav:rT .din=wK false:=rfl
@[simp]theorem Y8{ks:List Int}{ds:List D}{k:Int}:Bj (.dv ks ds) (.int k)=(lu (ks.zip ds) k).map .val:=rfl
@[simp]theorem aaa{ks:List Int}{ds:List D}{k:Int}:wK false (.int k) (.dv ks ds)=some (.val (.bl (ks.contains k))):=rfl
@[simp]theorem V9{ks:List Int}{ds:List D}:blt .keys [.dv ks ds]=some (.val (.tup (ks.map D.int))):=rfl
@[simp]theorem aag{ks:List Int}{ds:List D}:blt .Wz [.dv ks ds]=if ks.length<=16777216 then some (.own (ks.map D.int))else none:=rfl
@[simp]theorem aai{ds:List D}:blt .rvT [.lst ds]=some (.val (.tup ds.reverse)):=rfl
@[simp]theorem Wi{kvs:List (Int×D)}{x:Option Sl}:eO (.cF kvs) x=.cF kvs:=by cases x<;>rfl
@[simp]theorem Tn{r:List (List D)}{x:Option Sl}:eO (.hold r) x=.hold r:=by cases x<;>rfl
structure HN(m:Int)(ws:List Wy):Prop where
 m0:2<=m
 m1:m<=6
 len:ws.length<=12
 ok:∀w∈ws,(0<=w.s/\w.s<m)/\(0<=w.t/\w.t<m)/\0<=w.h
theorem HN.of(h:eN m ws):HN m ws:=⟨h.m0,h.m1,h.len,fun w hw=>by have:=h.ok w hw;exact⟨⟨this.s0,this.s1⟩,⟨this.t0,this.t1⟩,by have:=this.h0;omega⟩⟩
abbrev aB:=Nat×Bool
variable{s:aB}{x:Nat×(Option aB×Int)}{o:Option aB×Int}{c:List aB}{cs:List (List aB×Int)}
def sD(s:aB):D:=fu s.1 s.2
def j9(ws:List Wy)(fs:List Int)(p:Int)(s:aB):Bool:=match ws[s.1]?,fs[s.1]?with|some v,some g=>decide (frm v s.2=p)&&decide (0<nu v g s.2)|_,_=>false
theorem jq{fs:List Int}(e:ws[s.1]?=some v)(e2:fs[s.1]?=some g):j9 ws fs p s=(decide (frm v s.2=p)&&decide (0<nu v g s.2)):=by unfold j9;rw[e,e2]
def jj(ws:List Wy)(fs:List Int)(M:Nat)(l:List aB):List (List aB):=(List.range M).map fun(p:Nat)=>l.filter (j9 ws fs (p:Int))
def rD(l:List (List aB)):List (List D):=l.map fun r=>r.map sD
def gV(N:Nat):List aB:=(List.range N).flatMap fun j=>[(j,true),(j,false)]
theorem tD:gV (N+1)=(gV N++[(N,true)])++[(N,false)]:=by simp[gV,List.range_succ]
theorem xT:(gV N).length=2*N:=by induction N with|zero=>rfl|succ N ih=>rw[tD];simp[ih];omega
theorem Sw(h:HN m ws)(e:ws[j]?=some v)(f:Bool):0<=frm v f/\frm v f<m:=by have:=h.ok v (mem_of_getElem? e);cases f<;>simp only[frm]<;>simp<;>omega
theorem Hu(h:HN m ws)(e:ws[j]?=some v)(f:Bool):0<=too v f/\too v f<m:=by have:=h.ok v (mem_of_getElem? e);cases f<;>simp only[too]<;>simp<;>omega
theorem G9{fs:List Int}{M:Nat}{l:List aB}(e:ws[s.1]?=some v)(e2:fs[s.1]?=some g)(h:¬ 0<nu v g s.2):jj ws fs M (l++[s])=jj ws fs M l:=by unfold jj;refine map_congr_left fun p _=>?_;rw[List.filter_append];simp[jq e e2,h]
theorem Kh{fs:List Int}{l:List aB}(e:ws[s.1]?=some v)(e2:fs[s.1]?=some g)(h:0<nu v g s.2)(hp:0<=frm v s.2/\frm v s.2<m)(hl:l.length<1000):(∃row,rowAt (rD (jj ws fs m.toNat l)) (frm v s.2)=some row)/\jJ (rD (jj ws fs m.toNat l)) (frm v s.2) (fun row=>if row.length<lim then some (row++[sD s])else none)=some (rD (jj ws fs m.toNat (l++[s]))):=by
 have hlen:(rD (jj ws fs m.toNat l)).length=m.toNat:=by simp[rD,jj]
 have hx:jC (rD (jj ws fs m.toNat l)).length (frm v s.2)=some (frm v s.2).toNat:=by unfold jC;rw[hlen,if_pos hp.1,if_pos (by omega)]
 have hg:(rD (jj ws fs m.toNat l))[(frm v s.2).toNat]?=some ((l.filter (j9 ws fs (frm v s.2))).map sD):=by simp[rD,jj,show(frm v s.2).toNat<m.toNat by omega,Int.toNat_of_nonneg hp.1]
 refine⟨⟨_,by unfold rowAt;rw[hx];exact hg⟩,?_⟩;unfold jJ;rw[hx];show((rD (jj ws fs m.toNat l))[(frm v s.2).toNat]?).bind _=_;rw[hg];have hq:((l.filter (j9 ws fs (frm v s.2))).map sD).length<lim:=by have:=List.length_filter_le (j9 ws fs (frm v s.2)) l;rw[length_map];show _<16777216;omega
 show Option.map _ (if _ then _ else _)=_;rw[if_pos hq];show some _=some _;congr 1;refine ext_getElem (by simp[rD,jj]) fun i h2 h3=>?_;rw[List.getElem_set];by_cases c:(frm v s.2).toNat=i
 . rw[if_pos c];have:(i:Int)=frm v s.2:=by omega
   simp[rD,jj,this,List.filter_append,jq e e2,h]
 . rw[if_neg c];have:¬ frm v s.2=(i:Int):=by omega
   simp[rD,jj,List.filter_append,jq e e2,this]
inductive JOp(m:Int)(ws:List Wy)(fs:List Int)(s:Sl)(i:Nat)(ρ:List Sl):Prop where|mk(s3 s4:Sl)(q0:ρ=[.val false (aP m ws),s,.hold (rD (jj ws fs m.toNat (gV i))),s3,s4])(q1:fr s3=true)(q2:fr s4=true)
inductive JOq(m:Int)(ws:List Wy)(fs:List Int)(s:Sl)(i:Nat)(r:List D)(ρ:List Sl):Prop where|mk(l us:List aB)(s4:Sl)(q0:ρ=[.val false (aP m ws),s,.hold (rD (jj ws fs m.toNat l)),.val false (.int i),s4])(q1:fr s4=true)(q2:r=us.map sD)(q3:l++us=gV (i+1))(q4:∀u∈us,u.1=i)
inductive F1n(a b c d e:Sl)(ρ:List Sl):Prop where|mk(s:Sl)(q0:ρ=[a,b,c,d,e,s])(q1:fr s=true)
theorem Jt{s:Sl}{fs:List Int}(hs:Ue s fs)(h:HN m ws)(hf:fs.length=ws.length)(k:Q (.val (.lst ((rD (jj ws fs m.toNat (gV ws.length))).map D.lst))) [.val false (aP m ws),s]):(run Γ w (n+2) 4 [.val false (aP m ws),s]).sat Q:=by
 have hn:=h.len;have m0:=h.m0;have m1:=h.m1;refine aK (d:=f4) rfl rfl (by decide) ?_;refine cG (fun ρ=>ρ=[.val false (aP m ws),s,.hold (rD (jj ws fs m.toNat (gV 0))),.aO,.aO]) ?_ ?_
 . simp[f4,show m<=1000000000 by omega,show-1000000000<=m by omega];refine⟨fun _=>?_,by omega⟩;rw[bZ];refine p6 (F1n _ _ _ _ _) (fun _=>[]) ⟨.aO,rfl,rfl⟩ ?_ ?_;.rintro d hd _⟨s',rfl,hs'⟩;simp[hs'];exact⟨_,rfl,rfl⟩
   .rintro _⟨s',rfl,hs'⟩;simp[rD,jj,gV]
 rintro _ rfl;refine cG (JOp m ws fs s ws.length) ?_ ?_
 . simp[show(ws.length:Int)<=1000000000 by omega];refine gq (JOp m ws fs s) ?_ ?_ ⟨.aO,.aO,rfl,rfl,rfl⟩
   . rintro i _ hi⟨s3,s4,rfl,h3,h4⟩;have hi2:i<fs.length:=by omega
     have e1:ws[i]?=some ws[i]:=by simp[hi]
     have e2:fs[i]?=some fs[i]:=by simp[hi2]
     generalize ws[i]=v at*;generalize fs[i]=g at*;simp[h3];apply ak;simp;refine cO (JOq m ws fs s i) ?_ ?_ ⟨gV i,[(i,true),(i,false)],s4,rfl,h4,rfl,by rw[tD];simp,by simp⟩;.rintro d r _⟨l,us,s4,rfl,h4,hr,hl,hu⟩;cases us with|nil=>cases hr|cons u us=>
         obtain⟨rfl,rfl⟩:d=sD u/\r=us.map sD:=by simpa using hr
         obtain rfl:=hu u (by simp);have hl2:(l++[u])++us=gV (u.1+1):=by rw[append_assoc];exact hl
         have hll:l.length<1000:=by have:=congrArg List.length hl;rw[xT]at this;simp at this;omega
         simp[h4];apply ak;rcases hs with rfl|⟨b,rfl⟩;all_goals
          simp[sD];refine tW (by first|exact .inl rfl|exact .inr ⟨_,rfl⟩) e1 e2 ?_;simp;refine⟨fun ho=>?_,fun ho=>?_⟩;.obtain⟨⟨row,q1⟩,q2⟩:=Kh (ws:=ws) (fs:=fs) (l:=l) e1 e2 ho (Sw h e1 u.2) hll;symm;simp;refine lD e1 ?_;simp[q1];have q3:jJ (rD (jj ws fs m.toNat l)) (frm v u.2) (fun row=>if row.length<lim then some (row++[fu u.1 u.2])else none)=_:=q2;rw[q3];simp;exact⟨l++[u],us,_,rfl,rfl,rfl,hl2,fun x hx=>hu x (by simp[hx])⟩
          .exact⟨l++[u],us,_,by rw[G9 e1 e2 (by omega)],rfl,rfl,hl2,fun x hx=>hu x (by simp[hx])⟩
     . rintro _⟨l,us,s4,rfl,h4,hr,hl,hu⟩;have:us=[]:=by cases us with|nil=>rfl|cons _ _=>cases hr
       subst this;rw[append_nil]at hl;subst hl;simp;exact⟨_,_,rfl,rfl,h4⟩
   .rintro _⟨s3,s4,rfl,h3,h4⟩;exact⟨rfl,_,_,rfl,h3,h4⟩
 rintro _⟨s3,s4,rfl,h3,h4⟩;symm;simp;apply ak;simp;exact k
abbrev En:=Int×Nat×(Option aB×Int)
variable{es uq:List En}
def oS:Option aB->D|none=>.non|some s=>sD s
def yl(e:En):D:=.tup [.int e.2.2.2,.int (e.2.1:Int),oS e.2.2.1]
def en(e:En):Int×D:=(e.1,yl e)
def jE(es:List En):D:=.dv (es.map (·.1)) (es.map yl)
def yx(p:Int):Int×D:=(p,.bl true)
@[simp]theorem Ut{l:List Int}:Em (l.map yx)=l:=by simp[Em,yx,Function.comp_def]
theorem yt{l:List En}:Em (l.map en)=l.map (·.1):=by simp[Em,en,Function.comp_def]
theorem yE{l:List En}:oX (l.map en) p=true↔∃n o,(p,n,o)∈l:=by show(Em (l.map en)).contains p=true↔_;rw[yt];simp
theorem kin_no{l:List En}(h:¬ ∃n o,(p,n,o)∈l):oX (l.map en) p=false:=by cases e:oX (l.map en) p with|false=>rfl|true=>exact absurd (yE.mp e) h
theorem uX{β:Type}{p:Int}{x y:β}:∀{l:List (Int×β)},(l.map (·.1)).Nodup->(p,x)∈l->(p,y)∈l->x=y
 |[],_,h,_=>by cases h|e::l,hn,h1,h2=>by
   rw[map_cons,nodup_cons]at hn;rcases mem_cons.mp h1 with h1|h1<;>rcases mem_cons.mp h2 with h2|h2;.rw[<-h2]at h1;cases h1;rfl
   .exact absurd (mem_map.mpr ⟨_,h2,by rw[<-h1]⟩) hn.1
   .exact absurd (mem_map.mpr ⟨_,h1,by rw[<-h2]⟩) hn.1
   .exact uX hn.2 h1 h2
theorem pR{p:Int}{x:Nat×(Option aB×Int)}:∀{l:List En},(l.map (·.1)).Nodup->(p,x)∈l->lu (l.map en) p=some (yl (p,x))
 |[],_,h=>by cases h|e::l,hn,h=>by
   have hn0:=hn;rw[map_cons,nodup_cons]at hn;unfold lu;rw[map_cons,find?_cons];by_cases c:e.1=p;.obtain⟨q,y⟩:=e;cases c;have:=uX hn0 h (by simp:(q,y)∈(q,y)::l);subst this;simp[en]
   . have h':(p,x)∈l:=by
      rcases mem_cons.mp h with h|h;.exact absurd (by rw[<-h]) c
      .exact h
     simp[en,c];have:=pR hn.2 h';unfold lu at this;simpa[en]using this
theorem mF{kvs:List (Int×D)}{d:D}(h:oX kvs p=false):fM kvs p d=kvs++[(p,d)]:=by
 unfold fM;rw[if_neg];intro h2;obtain⟨x,hx,e⟩:=any_eq_true.mp h2;have:oX kvs p=true:=by show(kvs.map (·.1)).contains p=true;rw[contains_iff_mem];exact mem_map.mpr ⟨x,hx,by simpa using e⟩
 rw[this]at h;cases h
theorem xq{kvs:List (Int×D)}{d:D}(h:oX kvs p=true):fM kvs p d=kvs.map fun e=>if e.1=p then(p,d)else e:=by
 unfold fM;rw[if_pos]
 . refine map_congr_left fun e _=>?_;by_cases c:e.1=p;.simp[c]
   .simp[c]
 .have h':(kvs.map (·.1)).contains p=true:=h;rw[contains_iff_mem]at h';obtain⟨x,hx,e⟩:=mem_map.mp h';exact any_eq_true.mpr ⟨x,hx,by simpa using e⟩
def wD(p:Int)(x:Nat×(Option aB×Int))(e:En):En:=if e.1=p then(p,x)else e
def pg(es:List En)(p:Int)(x:Nat×(Option aB×Int)):List En:=if p∈es.map (·.1)then es.map (wD p x)else es++[(p,x)]
def qW(ch:List Int)(p:Int):List Int:=if p∈ch then ch else ch++[p]
theorem KJ:fM (es.map en) p (yl (p,x))=(pg es p x).map en:=by
 have hk:oX (es.map en) p=true↔p∈es.map (·.1):=by show(Em (es.map en)).contains p=true↔_;rw[yt,contains_iff_mem]
 unfold pg;by_cases c:p∈es.map (·.1)
 . rw[if_pos c,xq (hk.mpr c),map_map,map_map];refine map_congr_left fun e _=>?_;show(if e.1=p then _ else _)=en (wD p x e);unfold wD;by_cases z:e.1=p;.rw[if_pos z,if_pos z];rfl
   .rw[if_neg z,if_neg z]
 .rw[if_neg c,mF (by cases e:oX (es.map en) p with|false=>rfl|true=>exact absurd (hk.mp e) c)];simp[en]
theorem LC:fM (ch.map yx) p (.bl true)=(qW ch p).map yx:=by
 have hk:oX (ch.map yx) p=true↔p∈ch:=by show(Em (ch.map yx)).contains p=true↔_;rw[Ut,contains_iff_mem]
 unfold qW;by_cases c:p∈ch
 . rw[if_pos c,xq (hk.mpr c),map_map];refine map_congr_left fun e _=>?_;show(if e=p then _ else _)=yx e;by_cases z:e=p;.rw[if_pos z,z];rfl
   .rw[if_neg z]
 .rw[if_neg c,mF (by cases e:oX (ch.map yx) p with|false=>rfl|true=>exact absurd (hk.mp e) c)];simp[yx]
theorem xf{q:Int}:q∈qW ch p↔q∈ch\/q=p:=by
 unfold qW;split;.exact⟨.inl,fun h=>h.elim id fun e=>by rw[e];assumption⟩
 .simp
theorem Cv(h:ch.Nodup):(qW ch p).Nodup:=by
 unfold qW;split;.exact h
 .rename_i hn;rw[nodup_append];exact⟨h,by simp,fun a ha b hb e=>hn (by rw[<-mem_singleton.mp hb,<-e];exact ha)⟩
theorem Ea:(pg es p x).map (·.1)=qW (es.map (·.1)) p:=by
 unfold pg qW;split
 . rw[map_map];refine map_congr_left fun e _=>?_;show(wD p x e).1=e.1;unfold wD;split;.rename_i h;exact h.symm
   .rfl
 .simp
theorem gj{q:Int}{y:Nat×(Option aB×Int)}:(q,y)∈pg es p x↔(q=p/\y=x)\/(q≠p/\(q,y)∈es):=by
 unfold pg;split
 . rename_i hp;obtain⟨e0,he0,hp0⟩:=mem_map.mp hp;rw[mem_map];constructor
   . rintro⟨e,he,h⟩;unfold wD at h;split at h;.cases h;exact .inl ⟨rfl,rfl⟩
     .rename_i hne;subst h;exact .inr ⟨hne,he⟩
   . rintro(⟨rfl,rfl⟩|⟨h1,h2⟩);.exact⟨e0,he0,by unfold wD;rw[if_pos hp0]⟩
     .exact⟨_,h2,by unfold wD;rw[if_neg h1]⟩
 . rename_i hp;rw[mem_append,mem_singleton];constructor
   . rintro(h|h);.refine .inr ⟨fun e=>hp ?_,h⟩;rw[<-e];exact mem_map.mpr ⟨_,h,rfl⟩
     .cases h;exact .inl ⟨rfl,rfl⟩
   . rintro(⟨rfl,rfl⟩|⟨_,h2⟩);.exact .inr rfl
     .exact .inl h2
theorem lY{α:Type}[BEq α][LawfulBEq α]:∀{l l2:List α},l.Nodup->(∀a∈l,a∈l2)->l.length<=l2.length
 |[],_,_,_=>uW|a::l,l2,hn,hs=>by
   have ha:=hs a (by simp);have hn':=nodup_cons.mp hn;have:=lY (l:=l) (l2:=l2.erase a) hn'.2 fun b hb=>by
    have hba:b≠a:=by rintro rfl;exact hn'.1 hb
    exact(List.mem_erase_of_ne hba).mpr (hs b (by simp[hb]))
   rw[List.length_erase_of_mem ha]at this;have:=List.length_pos_of_mem ha;simp only[length_cons];omega
theorem six{l:List Int}(m1:m<=6)(hn:l.Nodup)(h:∀p∈l,0<=p/\p<m):l.length<=6:=by
 have:=lY (l2:=[0,1,2,3,4,5]) hn fun q hq=>by
  have:=h q hq;have:q=0\/q=1\/q=2\/q=3\/q=4\/q=5:=by omega
  simpa using this
 simpa using this
theorem pZ{fs:List Int}(h:j9 ws fs p s=true):∃v g,ws[s.1]?=some v/\fs[s.1]?=some g/\frm v s.2=p/\0<nu v g s.2:=by
 unfold j9 at h;split at h;.rename_i v g e1 e2;simp at h;exact⟨v,g,e1,e2,h.1,h.2⟩
 .cases h
theorem v7(h:s.1<N):s∈gV N:=by unfold gV;rw[List.mem_flatMap];refine⟨s.1,by simp[h],?_⟩;obtain⟨j,f⟩:=s;cases f<;>simp
def gU(ws:List Wy)(b:Int):List aB->Int->Prop|[],a=>a=b|s::c,a=>∃v,ws[s.1]?=some v/\frm v s.2=a/\gU ws b c (too v s.2)
def hst(ws:List Wy)(s:aB):Int:=match ws[s.1]?with|some v=>hsp v s.2|none=>0
theorem gW(e:ws[s.1]?=some v):hst ws s=hsp v s.2:=by unfold hst;rw[e]
def bL(ws:List Wy):List aB->Int|[]=>0|s::c=>hst ws s+bL ws c
theorem j7{ws:List Wy}{c2:List aB}:∀{c1:List aB},bL ws (c1++c2)=bL ws c1+bL ws c2|[]=>by simp[bL]|s::c=>by rw[cons_append,bL,j7,bL];omega
def rZ(ws:List Wy)(fs:List Int)(c:List aB):Prop:=∀s∈c,∃v,ws[s.1]?=some v/\j9 ws fs (frm v s.2) s=true
theorem gU.app{ws:List Wy}{b q:Int}{c2:List aB}(h2:gU ws b c2 q):∀{c1:List aB}{a:Int},gU ws q c1 a->gU ws b (c1++c2) a|[],a,h=>by have:a=q:=h;rw[this];exact h2|s::c,a,⟨v,e,hf,h⟩=>⟨v,e,hf,gU.app h2 h⟩
theorem Ax{ws:List Wy}{b:Int}{c2:List aB}:∀{c1:List aB}{a:Int},gU ws b (c1++c2) a->∃q,gU ws q c1 a/\gU ws b c2 q|[],a,h=>⟨a,rfl,h⟩|s::c,a,⟨v,e,hf,h⟩=>by obtain⟨q,h1,h2⟩:=Ax (c1:=c) h;exact⟨q,⟨v,e,hf,h1⟩,h2⟩
def Pt(ws:List Wy)(fs:List Int)(F:Int->Int):Prop:=∀(s:aB)(v:Wy),ws[s.1]?=some v->j9 ws fs (frm v s.2) s=true->F (too v s.2)<=F (frm v s.2)+hsp v s.2
theorem lA{ws:List Wy}{fs:List Int}{F:Int->Int}(h:Pt ws fs F){b:Int}:∀{c:List aB}{a:Int},gU ws b c a->rZ ws fs c->F b<=F a+bL ws c|[],a,hp,_=>by have:a=b:=hp;rw[this,bL];omega|s::c,a,⟨v,e,hf,hp⟩,ho=>by have h1:=lA h hp fun u hu=>ho u (mem_cons_of_mem _ hu);obtain⟨v',e',o⟩:=ho s (by simp);rw[e]at e';cases e';have h2:=h s v e o;rw[hf]at h2;rw[bL,gW e];omega
def qC(ws:List Wy)(s:aB):Int:=match ws[s.1]?with|some v=>too v s.2|none=>0
def qG(ws:List Wy):List aB->Int->List Int|[],a=>[a]|s::c,a=>a::qG ws c (qC ws s)
theorem Cp{ws:List Wy}:∀{c:List aB}{a:Int},(qG ws c a).length=c.length+1|[],_=>rfl|s::c,a=>by rw[qG,length_cons,Cp];rfl
theorem Ju{m:Int}{ws:List Wy}{b:Int}(hm:HN m ws):∀{c:List aB}{a:Int},gU ws b c a->0<=a/\a<m->∀q∈qG ws c a,0<=q/\q<m
 |[],a,_,ha,q,hq=>by rw[qG,mem_singleton]at hq;rw[hq];exact ha|s::c,a,⟨v,e,hf,hp⟩,ha,q,hq=>by
   rw[qG,mem_cons]at hq;rcases hq with rfl|hq;.exact ha
   . have:qC ws s=too v s.2:=by unfold qC;rw[e]
     rw[this]at hq;exact Ju hm hp (Hu hm e s.2) q hq
theorem CK{ws:List Wy}{b q:Int}:∀{c:List aB}{a:Int},gU ws b c a->q∈qG ws c a->∃c1 c2,c=c1++c2/\gU ws q c1 a/\gU ws b c2 q
 |[],a,h,hq=>by rw[qG,mem_singleton]at hq;exact⟨[],[],rfl,hq.symm,by rw[hq];exact h⟩|s::c,a,h,hq=>by
   rw[qG,mem_cons]at hq;rcases hq with rfl|hq;.exact⟨[],s::c,rfl,rfl,h⟩
   . obtain⟨v,e,hf,hp⟩:=h;have:qC ws s=too v s.2:=by unfold qC;rw[e]
     rw[this]at hq;obtain⟨c1,c2,rfl,h1,h2⟩:=CK hp hq;exact⟨s::c1,c2,rfl,⟨v,e,hf,h1⟩,h2⟩
theorem BJ{ws:List Wy}{b:Int}:∀{c:List aB}{a:Int},gU ws b c a->¬(qG ws c a).Nodup->∃c1 c2 c3 q,c=c1++(c2++c3)/\0<c2.length/\gU ws q c1 a/\gU ws q c2 q/\gU ws b c3 q
 |[],a,_,hn=>absurd (by simp[qG]) hn|s::c,a,⟨v,e,hf,hp⟩,hn=>by
   have et:qC ws s=too v s.2:=by unfold qC;rw[e]
   rw[qG,et,nodup_cons]at hn;by_cases ha:a∈qG ws c (too v s.2);.obtain⟨c1,c2,rfl,h1,h2⟩:=CK hp ha;exact⟨[],s::c1,c2,a,rfl,by simp,rfl,⟨v,e,hf,h1⟩,h2⟩
   .obtain⟨c1,c2,c3,q,rfl,h0,h1,h2,h3⟩:=BJ hp fun z=>hn ⟨ha,z⟩;exact⟨s::c1,c2,c3,q,rfl,h0,⟨v,e,hf,h1⟩,h2,h3⟩
def Le(h:Int)(n:Nat)(h':Int)(n':Nat):Prop:=h<h'\/(h=h'/\n<=n')
theorem Le.refl{h:Int}:Le h n h n:=.inr ⟨rfl,dh⟩
theorem Le.trans{c:Int}{k:Nat}(h1:Le a k b l)(h2:Le b l c n):Le a k c n:=by unfold Le at*;omega
theorem Le.add{k:Nat}(x:Int)(h1:Le a k b l):Le (a+x) (k+1) (b+x) (l+1):=by unfold Le at*;omega
theorem short{fs:List Int}(hm:HN m ws)(h:Pt ws fs F)(ha:0<=a/\a<m):∀(n:Nat){c:List aB},c.length<=n->gU ws b c a->rZ ws fs c->∃c',gU ws b c' a/\rZ ws fs c'/\c'.length<=5/\Le (bL ws c') c'.length (bL ws c) c.length/\(qG ws c' a).Nodup:=by
 intro n;have done:∀{c:List aB},gU ws b c a->(qG ws c a).Nodup->c.length<=5:=fun hp hn=>by have:=six hm.m1 hn (Ju hm hp ha);rw[Cp]at this;omega
 induction n with|zero=>intro c hc hp ho;have:c=[]:=List.eq_nil_of_length_eq_zero (by omega);subst this;exact⟨[],hp,ho,by simp,.refl,by simp[qG]⟩|succ n ih=>
   intro c hc hp ho;by_cases hn:(qG ws c a).Nodup;.exact⟨c,hp,ho,done hp hn,.refl,hn⟩
   .obtain⟨c1,c2,c3,q,rfl,h0,h1,h2,h3⟩:=BJ hp hn;have ho2:rZ ws fs c2:=fun s hs=>ho s (by simp[hs]);have hr:=lA h h2 ho2;simp only[length_append]at hc;obtain⟨c',q1,q2,q3,q4,q5⟩:=ih (c:=c1++c3) (by simp only[length_append];omega) (gU.app h3 h1) fun s hs=>ho s (by rcases mem_append.mp hs with hs|hs<;>simp[hs]);refine⟨c',q1,q2,q3,q4.trans ?_,q5⟩;rw[j7,j7,j7];simp only[length_append];unfold Le;omega
structure DW(m:Int)(ws:List Wy)(fs:List Int)(bs:List (Int×Int))(es:List En):Prop where
 nd:(es.map (·.1)).Nodup
 ZQ:∀p l o,(p,l,o)∈es->0<=p/\p<m
 z:(0,0,(none,0))∈es
 wk:∀p l o,(p,l,o)∈es->∃a b c,(a,b)∈bs/\gU ws p c a/\rZ ws fs c/\c.length=l/\b+bL ws c=o.2
 stp:∀p l o,(p,l,o)∈es->(o.1=none/\(p,o.2)∈bs/\l=0)\/∃(s:aB)(v:Wy)(l':Nat)(o':Option aB×Int),o.1=some s/\ws[s.1]?=some v/\too v s.2=p/\j9 ws fs (frm v s.2) s=true/\(frm v s.2,l',o')∈es/\Le (o'.2+hsp v s.2) (l'+1) o.2 l
theorem DW.len{fs:List Int}{bs:List (Int×Int)}(h:DW m ws fs bs es)(m1:m<=6):es.length<=6:=by
 have:=six m1 h.nd fun p hp=>by obtain⟨⟨p,l,o⟩,he,rfl⟩:=mem_map.mp hp;exact h.ZQ p l o he
 simpa using this
theorem jH{l:List En}{a b:Nat}{u:Option aB×Int}(hn:(l.map (·.1)).Nodup)(h1:(p,a,o)∈l)(h2:(p,b,u)∈l):a=b/\o=u:=by have:=uX hn h1 h2;cases this;exact⟨rfl,rfl⟩
def At(es:List En)(p h:Int)(n:Nat):Prop:=∃l o,(p,l,o)∈es/\Le o.2 l h n
theorem At.le{h h':Int}{n':Nat}(a:At es p h n)(z:Le h n h' n'):At es p h' n':=by obtain⟨l,o,h1,h2⟩:=a;exact⟨l,o,h1,h2.trans z⟩
structure Wh(m:Int)(ws:List Wy)(fs:List Int)(bs:List (Int×Int))(n:Nat)(R:List Int)(es:List En):Prop where
 cm:DW m ws fs bs es
 row:∀p∈R,∃l o,(p,l,o)∈es
 nr:R.Nodup
 wl:∀a b c p,(a,b)∈bs->gU ws p c a->rZ ws fs c->c.length<=n->At es p (b+bL ws c) c.length
 cl:∀l o(s:aB)v,ws[s.1]?=some v->frm v s.2∉R->(frm v s.2,l,o)∈es->j9 ws fs (frm v s.2) s=true->At es (too v s.2) (o.2+hsp v s.2) (l+1)few:6<=n->R=[]
structure In(m:Int)(ws:List Wy)(fs:List Int)(bs:List (Int×Int))(n:Nat)(R:List Int)(uq:List En)(K:aB->Prop)(es:List En)(ch:List Int):Prop where
 wh:Wh m ws fs bs n R uq
 cm:DW m ws fs bs es
 le:∀p l o,(p,l,o)∈uq->At es p o.2 l
 out:∀p l o,p∉ch->(p,l,o)∈es->(p,l,o)∈uq
 chg:∀p∈ch,∃l o,(p,l,o)∈es
 nc:ch.Nodup
 dn:∀s,K s->∀v,ws[s.1]?=some v->∀l o,(frm v s.2,l,o)∈uq->At es (too v s.2) (o.2+hsp v s.2) (l+1)few:5<=n->ch=[]
theorem In.row{m:Int}{ws:List Wy}{fs:List Int}{bs:List (Int×Int)}{n:Nat}{R:List Int}{uq:List En}{K:aB->Prop}{es:List En}{ch:List Int}(h:In m ws fs bs n R uq K es ch){p:Int}(hp:p∈R):∃l o,(p,l,o)∈es:=by obtain⟨l,o,z⟩:=h.wh.row p hp;obtain⟨l,o,z,_⟩:=h.le _ _ _ z;exact⟨l,o,z⟩
theorem In.keep{fs:List Int}{bs:List (Int×Int)}{R:List Int}{K:aB->Prop}(h:In m ws fs bs n R uq K es ch)(e:ws[s.1]?=some v)(hp:(frm v s.2,l,o)∈es)(hn:At es (too v s.2) (o.2+hsp v s.2) (l+1)):In m ws fs bs n R uq (fun u=>K u\/u=s) es ch:=by
 refine⟨h.wh,h.cm,h.le,h.out,h.chg,h.nc,fun u hu=>?_,h.few⟩;rcases hu with hu|rfl;.exact h.dn u hu
 .intro v' e' l0 o0 h0;rw[e]at e';cases e';obtain⟨l1,o1,q1,q2⟩:=h.le _ _ _ h0;obtain⟨rfl,rfl⟩:=jH h.cm.nd hp q1;exact hn.le (q2.add _)
theorem In.put{fs:List Int}{bs:List (Int×Int)}{R:List Int}{K:aB->Prop}(h:In m ws fs bs n R uq K es ch)(hm:HN m ws)(hF:Pt ws fs F)(hb:∀a b,(a,b)∈bs->0<=a/\a<m)(hZ:∀a b c,(a,b)∈bs->gU ws 0 c a->rZ ws fs c->0<=b+bL ws c)(e:ws[s.1]?=some v)(hp:(frm v s.2,l,o)∈es)(ho:j9 ws fs (frm v s.2) s=true)(hn:¬ At es (too v s.2) (o.2+hsp v s.2) (l+1)):In m ws fs bs n R uq (fun u=>K u\/u=s) (pg es (too v s.2) (l+1,(some s,o.2+hsp v s.2))) (qW ch (too v s.2)):=by
 have m0:=hm.m0;obtain⟨a0,b0,c,c0,c1,c2,c3,c4⟩:=h.cm.wk _ _ _ hp;have w1:gU ws (too v s.2) (c++[s]) a0:=gU.app (c2:=[s]) ⟨v,e,rfl,rfl⟩ c1;have w2:rZ ws fs (c++[s]):=fun u hu=>by
  rcases mem_append.mp hu with hu|hu;.exact c2 u hu
  .rw[mem_singleton.mp hu];exact⟨v,e,ho⟩
 have w3:(c++[s]).length=l+1:=by simp[c3]
 have w4:b0+bL ws (c++[s])=o.2+hsp v s.2:=by rw[j7,<-c4,bL,bL,gW e];omega
 have new:(too v s.2,l+1,(some s,o.2+hsp v s.2))∈pg es (too v s.2) (l+1,(some s,o.2+hsp v s.2)):=gj.mpr (.inl ⟨rfl,rfl⟩);have mono:∀{q l2 o2},(q,l2,o2)∈es->At (pg es (too v s.2) (l+1,(some s,o.2+hsp v s.2))) q o2.2 l2:=fun{q l2 o2}z=>by
  by_cases c:q=too v s.2;.subst c;refine⟨_,_,new,?_⟩;have:¬ Le o2.2 l2 (o.2+hsp v s.2) (l+1):=fun y=>hn ⟨_,_,z,y⟩;unfold Le at this ⊢;simp only;omega
  .exact⟨l2,o2,gj.mpr (.inr ⟨c,z⟩),.refl⟩
 have Qj:∀{q h n},At es q h n->At (pg es (too v s.2) (l+1,(some s,o.2+hsp v s.2))) q h n:=fun⟨l2,o2,z1,z2⟩=>(mono z1).le z2;refine⟨h.wh,⟨by rw[Ea];exact Cv h.cm.nd,fun p l o z=>?_,?_,fun p l2 o2 z=>?_,fun p l2 o2 z=>?_⟩,fun p l o z=>Qj (h.le p l o z),fun p l o hc z=>?_,fun p hc=>?_,Cv h.nc,fun u hu=>?_,fun h5=>?_⟩
 . rcases gj.mp z with⟨rfl,_⟩|⟨_,z⟩;.exact Hu hm e s.2
   .exact h.cm.ZQ p l o z
 .refine gj.mpr (.inr ⟨fun z=>hn ?_,h.cm.z⟩);have:=hZ a0 b0 _ c0 (by rw[<-z]at w1;exact w1) w2;rw[w4]at this;rw[<-z];exact⟨_,_,h.cm.z,by unfold Le;simp only;omega⟩
 . rcases gj.mp z with⟨rfl,y⟩|⟨_,z⟩;.cases y;exact⟨a0,b0,_,c0,w1,w2,w3,w4⟩
   .exact h.cm.wk p l2 o2 z
 . rcases gj.mp z with⟨rfl,y⟩|⟨_,z⟩;.cases y;obtain⟨l',o',q1,q2⟩:=mono hp;exact .inr ⟨s,v,l',o',rfl,e,rfl,ho,q1,q2.add _⟩
   . rcases h.cm.stp p l2 o2 z with z|⟨s',v',l',o',z1,z3,z4,z5,z6,z7⟩;.exact .inl z
     .obtain⟨l3,o3,q1,q2⟩:=mono z6;exact .inr ⟨s',v',l3,o3,z1,z3,z4,z5,q1,(q2.add _).trans z7⟩
 . rw[xf,not_or]at hc;rcases gj.mp z with⟨rfl,_⟩|⟨_,z⟩;.exact absurd rfl hc.2
   .exact h.out p l o hc.1 z
 . rcases xf.mp hc with hc|rfl;.obtain⟨l2,o2,z⟩:=h.chg p hc;obtain⟨l3,o3,z,_⟩:=mono z;exact⟨l3,o3,z⟩
   .exact⟨_,_,new⟩
 . rcases hu with hu|rfl;.exact fun v' e' l0 o0 h0=>Qj (h.dn u hu v' e' l0 o0 h0)
   .intro v' e' l0 o0 h0;rw[e]at e';cases e';obtain⟨l1,o1,q1,q2⟩:=h.le _ _ _ h0;obtain⟨rfl,rfl⟩:=jH h.cm.nd hp q1;exact⟨_,_,new,q2.add _⟩
 .obtain⟨c',q1,q2,q3,q4,_⟩:=short hm hF (hb a0 b0 c0) _ (dh) w1 w2;obtain⟨l1,o1,z1,z2⟩:=h.wh.wl a0 b0 c' _ c0 q1 q2 (by omega);rw[w3]at q4;refine absurd ((h.le _ _ _ z1).le (z2.trans ?_)) hn;rw[<-w4];unfold Le at q4 ⊢;omega
def bE(p:Int×Int):En:=(p.1,0,(none,p.2))
theorem Wh.start{fs:List Int}{bs:List (Int×Int)}(hb:∀a b,(a,b)∈bs->0<=a/\a<m)(h0:(0,0)∈bs)(hn:(bs.map (·.1)).Nodup):Wh m ws fs bs 0 (bs.map (·.1)) (bs.map bE):=by
 have hk:(bs.map bE).map (·.1)=bs.map (·.1):=by rw[map_map];rfl
 have un:∀{p l o},(p,l,o)∈bs.map bE->l=0/\o.1=none/\(p,o.2)∈bs:=fun{p l o}z=>by obtain⟨⟨a,b⟩,h1,e⟩:=mem_map.mp z;cases e;exact⟨rfl,rfl,h1⟩
 have to:∀{a b},(a,b)∈bs->(a,0,(none,b))∈bs.map bE:=fun h=>mem_map.mpr ⟨_,h,rfl⟩;refine⟨⟨by rw[hk];exact hn,fun p l o z=>hb _ _ (un z).2.2,to h0,fun p l o z=>?_,fun p l o z=>.inl ⟨(un z).2.1,(un z).2.2,(un z).1⟩⟩,fun p hp=>?_,hn,fun a b c p hab hp _ hc=>?_,fun l o s v _ hR z=>?_,fun h=>by omega⟩;.exact⟨p,o.2,[],(un z).2.2,rfl,fun s hs=>(by cases hs),(un z).1.symm,by rw[bL];omega⟩
 .obtain⟨⟨a,b⟩,h1,rfl⟩:=mem_map.mp hp;exact⟨_,_,to h1⟩
 .cases c with|nil=>have:a=p:=hp;subst this;exact⟨0,(none,b),to hab,by unfold Le bL;simp⟩|cons _ _=>simp at hc
 .exact absurd (mem_map.mpr ⟨_,(un z).2.2,rfl⟩) hR
theorem Wh.to{fs:List Int}{bs:List (Int×Int)}{R:List Int}(h:Wh m ws fs bs n R es):In m ws fs bs n R es (fun _=>False) es []:=⟨h,h.cm,fun p l o z=>⟨l,o,z,.refl⟩,fun p l o _ z=>z,fun p hp=>(by cases hp),.nil,fun s hs=>hs.elim,fun _=>rfl⟩
theorem In.out'{fs:List Int}{bs:List (Int×Int)}{R:List Int}(h:In m ws fs bs n R uq (fun s=>∃p∈R,j9 ws fs p s=true) es ch):Wh m ws fs bs (n+1) ch es:=by
 have leA:∀{p h' k},At uq p h' k->At es p h' k:=fun⟨l,o,z1,z2⟩=>(h.le _ _ _ z1).le z2;have Qk:∀(s:aB)v l o,ws[s.1]?=some v->(frm v s.2,l,o)∈uq->j9 ws fs (frm v s.2) s=true->At es (too v s.2) (o.2+hsp v s.2) (l+1):=fun s v l o e z ho=>by
  by_cases c:frm v s.2∈R;.exact h.dn s ⟨_,c,ho⟩ v e l o z
  .exact leA (h.wh.cl l o s v e c z ho)
 refine⟨h.cm,h.chg,h.nc,fun a b c p hab hp ho hc=>?_,fun l o s v e hc z hs=>Qk s v l o e (h.out _ _ _ hc z) hs,fun h6=>h.few (by omega)⟩;rcases List.eq_nil_or_concat c with rfl|⟨c',s,rfl⟩;.exact leA (h.wh.wl a b [] p hab hp ho (uW))
 . rw[List.concat_eq_append]at*;obtain⟨q,h1,v,e,rfl,h3⟩:=Ax hp;have h3:too v s.2=p:=h3;subst h3;obtain⟨v',e',o'⟩:=ho s (by simp);rw[e]at e';cases e';simp only[length_append,length_cons,length_nil]at hc;obtain⟨l,o,z1,z2⟩:=h.wh.wl a b c' _ hab h1 (fun u hu=>ho u (by simp[hu])) (by omega);refine(Qk s v l o e z1 o').le ?_;have:=z2.add (hsp v s.2);have w4:bL ws (c'++[s])=bL ws c'+hsp v s.2:=by rw[j7,bL,bL,gW e];omega
   rw[w4,<-Int.add_assoc];simpa using this
structure xG(m:Int)(ws:List Wy)(fs:List Int)(bs:List (Int×Int))(es:List En):Prop where
 cm:DW m ws fs bs es
 cl:∀l o(s:aB)v,ws[s.1]?=some v->(frm v s.2,l,o)∈es->j9 ws fs (frm v s.2) s=true->At es (too v s.2) (o.2+hsp v s.2) (l+1)bg:∀a b,(a,b)∈bs->At es a b 0
theorem Wh.fin{fs:List Int}{bs:List (Int×Int)}(h:Wh m ws fs bs n [] es):xG m ws fs bs es:=⟨h.cm,fun l o s v e z ho=>h.cl l o s v e (by simp) z ho,fun a b hab=>by have:=h.wl a b [] a hab rfl (fun s hs=>by cases hs) (uW);simpa[bL]using this⟩
abbrev Cme(m:Int)(ws:List Wy)(fs:List Int)(es:List En):Prop:=DW m ws fs [(0,0)] es
abbrev iV(m:Int)(ws:List Wy)(fs:List Int)(es:List En):Prop:=xG m ws fs [(0,0)] es
theorem In.imp{fs:List Int}{bs:List (Int×Int)}{R:List Int}{K K':aB->Prop}(h:In m ws fs bs n R uq K es ch)(z:∀s,K' s->K s):In m ws fs bs n R uq K' es ch:=⟨h.wh,h.cm,h.le,h.out,h.chg,h.nc,fun s hs=>h.dn s (z s hs),h.few⟩
theorem Rf{fs:List Int}{l:List aB}(hp:0<=p/\p<m):at' ((rD (jj ws fs m.toNat l)).map D.lst) p=some (.lst ((l.filter (j9 ws fs p)).map sD)):=by rw[yF hp.1 (by simp[rD,jj];omega)];simp[rD,jj,show p.toNat<m.toNat by omega,Int.toNat_of_nonneg hp.1]
@[simp]theorem cut3{a b c:D}:J8 (.tup [a,b,c]) (part (.con .non) .non) (part (.con (.int 2)) (.int 2))=some (.val (.tup [a,b])):=rfl
theorem Sd{j:Int}:cm .lt (.tup [.int a,.int i]) (.tup [.int b,.int j])=some (bC [a,i] [b,j]):=rfl
theorem lex_lt{i:Nat}:bC [a,(i:Int)] [b,(j:Int)]=true↔¬ Le b j a i:=by unfold Le;simp[bC];omega
def vM(bs:List (Int×Int)):Sl:=.val false (.dv (bs.map (·.1)) (bs.map fun p=>.int p.2))
abbrev bg:Sl:=vM [(0,0)]
inductive JC2(m:Int)(ws:List Wy)(fs:List Int)(bs:List (Int×Int))(a0 a1 a2 a3 a6:Sl)(n:Nat)(R:List Int)(uq:List En)(pre:List Int)(p:Int)(r:List D)(ρ:List Sl):Prop where|mk(es:List En)(ch:List Int)(bU us:List aB)(s8 s9 ni:Sl)(q0:ρ=[a0,a1,a2,a3,.cF (es.map en),.val false (.int p),a6,.cF (ch.map yx),s8,s9,ni])(q1:A3 (fr s8=true) (fr s9=true) (fr ni=true))(q2:r=us.map sD)(q3:bU++us=(gV ws.length).filter (j9 ws fs p))(q4:In m ws fs bs n R uq (fun s=>(∃q∈pre,j9 ws fs q s=true)\/s∈bU) es ch)
inductive JC1(m:Int)(ws:List Wy)(fs:List Int)(bs:List (Int×Int))(a0 a1 a2 a3 a6:Sl)(n:Nat)(R:List Int)(uq:List En)(r:List D)(ρ:List Sl):Prop where|mk(es:List En)(ch pre qs:List Int)(s5 s8 s9 ni:Sl)(q0:ρ=[a0,a1,a2,a3,.cF (es.map en),s5,a6,.cF (ch.map yx),s8,s9,ni])(q1:A4 (fr s5=true) (fr s8=true) (fr s9=true) (fr ni=true))(q2:r=qs.map D.int)(q3:pre++qs=R)(q4:In m ws fs bs n R uq (fun s=>∃q∈pre,j9 ws fs q s=true) es ch)
inductive JCw(m:Int)(ws:List Wy)(fs:List Int)(bs:List (Int×Int))(a0 a1 a2 a3:Sl)(M:Nat)(ρ:List Sl):Prop where|mk(n:Nat)(R:List Int)(es:List En)(s5 s7 s8 s9 ni:Sl)(q0:ρ=[a0,a1,a2,a3,.cF (es.map en),s5,.own false (R.map D.int),s7,s8,s9,ni])(q1:A4 (fr s5=true) (fr s8=true) (fr s9=true) (fr ni=true))(q2:(s7=.aO\/∃d,s7=.val false d))(q3:Wh m ws fs bs n R es)(q4:7<=n+M)
inductive JC0(a0 a1 a2 a3:Sl)(bs:List (Int×Int))(r:List D)(ρ:List Sl):Prop where|mk(bU us:List (Int×Int))(s5:Sl)(q0:ρ=[a0,a1,a2,a3,.cF ((bU.map bE).map en),s5,.aO,.aO,.aO,.aO,.aO])(q1:fr s5=true)(q2:r=(us.map (·.1)).map D.int)(q3:bU++us=bs)
theorem Ak{a b:Int}:∀{bs:List (Int×Int)},(bs.map (·.1)).Nodup->(a,b)∈bs->lu ((bs.map (·.1)).zip (bs.map fun p=>D.int p.2)) a=some (.int b)
 |[],_,h=>by cases h|p::bs,hn,h=>by
   rw[map_cons,nodup_cons]at hn;unfold lu;rw[map_cons,map_cons,List.zip_cons_cons,find?_cons];rcases mem_cons.mp h with h|h;.subst h;simp
   .have hne:p.1≠a:=fun z=>hn.1 (by rw[z];exact mem_map.mpr ⟨_,h,rfl⟩);have:=Ak hn.2 h;unfold lu at this;simpa[hne]using this
theorem tU{s:Sl}{fs:List Int}{bs:List (Int×Int)}(hw:100<=w)(hF:Pt ws fs F)(hb:∀a b,(a,b)∈bs->0<=a/\a<m)(h0:(0,0)∈bs)(hnd:(bs.map (·.1)).Nodup)(hZ:∀a b c,(a,b)∈bs->gU ws 0 c a->rZ ws fs c->0<=b+bL ws c)(hs:Ue s fs)(h:HN m ws)(hf:fs.length=ws.length)(k:∀es,xG m ws fs bs es->Q (.val (jE es)) [.val false (aP m ws),s,vM bs]):(run Γ w (n+3) 5 [.val false (aP m ws),s,vM bs]).sat Q:=by
 have hn:=h.len;have m0:=h.m0;have m1:=h.m1;refine aK (d:=f5) rfl rfl (by decide) ?_;refine cG (fun ρ=>ρ=[.val false (aP m ws),s,vM bs,.val false (.lst ((rD (jj ws fs m.toNat (gV ws.length))).map D.lst)),.aO,.aO,.aO,.aO,.aO,.aO,.aO]) ?_ ?_;.have hss:=hs;rcases hs with rfl|⟨b,rfl⟩;all_goals simp[f5,vM];refine Jt (by first|exact .inl rfl|exact .inr ⟨_,rfl⟩) h hf ?_;simp
 rintro _ rfl;generalize hA:((rD (jj ws fs m.toNat (gV ws.length))).map D.lst)=A;have hbl:bs.length<=6:=by
  have:=six m1 hnd fun p hp=>by obtain⟨⟨a,b⟩,h1,rfl⟩:=mem_map.mp hp;exact hb a b h1
  simpa using this
 apply ak;simp;apply ak;simp[vM];refine cO (JC0 (.val false (aP m ws)) s (vM bs) (.val false (.lst A)) bs) ?_ ?_ ⟨[],bs,.aO,rfl,rfl,by rw[map_map],rfl⟩;.rintro d r _⟨bU,us,s5,rfl,h5,hr,hd⟩;cases us with|nil=>cases hr|cons u us=>
     obtain⟨rfl,rfl⟩:d=.int u.1/\r=(us.map (·.1)).map D.int:=by simpa using hr
     have hd2:(bU++[u])++us=bs:=by rw[append_assoc];exact hd
     have hg:=Ak (a:=u.1) (b:=u.2) hnd (by rw[<-hd];simp);have hk:oX ((bU.map bE).map en) u.1=false:=kin_no fun⟨l,o,z⟩=>by obtain⟨⟨a,b⟩,h1,e⟩:=mem_map.mp z;cases e;rw[<-hd,map_append,nodup_append]at hnd;exact hnd.2.2 u.1 (mem_map.mpr ⟨_,h1,rfl⟩) u.1 (by simp) rfl
     have hp:fM ((bU.map bE).map en) u.1 (.tup [.int u.2,.int 0,.non])=((bU++[u]).map bE).map en:=by rw[mF hk,map_append,map_append];rfl
     have hdl:bU.length<=bs.length:=by rw[<-hd];simp
     simp[h5];apply ak;rw[map_map]at hp;simp[vM,hg];refine⟨fun _=>⟨bU++[u],us,.val false (.int u.1),by rw[hp],rfl,(map_map ..).symm,hd2⟩,by show _<16777216;omega⟩
 rintro _⟨bU,us,s5,rfl,h5,hr,hd⟩;have:us=[]:=by cases us with|nil=>rfl|cons _ _=>cases hr
 subst this;rw[append_nil]at hd;obtain rfl:bs=bU:=hd.symm;simp;apply ak;simp[vM,show bs.length<=16777216 by omega];apply ak;simp;rw[show map (en ∘ bE) bs=(bs.map bE).map en from(map_map ..).symm,show map (D.int ∘ fun x=>x.1) bs=(bs.map (·.1)).map D.int from(map_map ..).symm];refine jA (JCw m ws fs bs _ _ _ _) ?_ (k:=w) (m:=50) (by omega) ⟨0,bs.map (·.1),bs.map bE,s5,.aO,.aO,.aO,.aO,rfl,⟨h5,rfl,rfl,rfl⟩,.inl rfl,Wh.start hb h0 hnd,by omega⟩;rintro M _⟨n',R,es,s5,s7,s8,s9,ni,rfl,⟨h5,h8,h9,h10⟩,h7,hW,hM⟩;by_cases hR:R=[];.subst hR;simp;apply ak;simp;have:=k es hW.fin;simp[Function.comp_def,en];exact this
 . have hR2:0<R.length:=by cases R with|nil=>exact absurd rfl hR|cons _ _=>simp
   simp[hR2];refine cG (fun ρ=>ρ=[.val false (aP m ws),s,vM bs,.val false (.lst A),.cF (es.map en),s5,.own false (R.map D.int),.cF [],s8,s9,ni]) ?_ ?_
   . rcases h7 with rfl|⟨d,rfl⟩;.simp[vM]
     .simp[vM]
   rintro _ rfl;symm;simp;refine cO (JC1 m ws fs bs _ _ _ _ _ n' R es) ?_ ?_ ⟨es,[],[],R,s5,s8,s9,ni,rfl,⟨h5,h8,h9,h10⟩,rfl,rfl,hW.to.imp fun s hs=>by obtain⟨q,hq,_⟩:=hs;cases hq⟩;.rintro d r _⟨es',ch,pre,qs,s5,s8,s9,ni,rfl,⟨h5,h8,h9,h10⟩,hr,hpq,hI⟩;cases qs with|nil=>cases hr|cons p qs=>
       obtain⟨rfl,rfl⟩:d=.int p/\r=qs.map D.int:=by simpa using hr
       have hpR:p∈R:=by rw[<-hpq];simp
       have hpm:0<=p/\p<m:=by obtain⟨l,o,ho⟩:=hI.row hpR;exact hI.cm.ZQ _ _ _ ho
       have hrow:=Rf (ws:=ws) (fs:=fs) (l:=gV ws.length) hpm;rw[hA]at hrow;simp[h5];apply ak;simp[hrow];refine cO (JC2 m ws fs bs _ _ _ _ _ n' R es pre p) ?_ ?_ ⟨es',ch,[],_,s8,s9,ni,rfl,⟨h8,h9,h10⟩,rfl,rfl,hI.imp fun s hs=>by rcases hs with hs|hs;exact hs;cases hs⟩;.rintro d r _⟨es',ch,bU,us,s8,s9,ni,rfl,⟨h8,h9,h10⟩,hr,hdu,hI⟩;cases us with|nil=>cases hr|cons u us=>
           obtain⟨rfl,rfl⟩:d=sD u/\r=us.map sD:=by simpa using hr
           have hu:j9 ws fs p u=true:=by
            have:u∈(gV ws.length).filter (j9 ws fs p):=by rw[<-hdu];simp
            exact(mem_filter.mp this).2
           obtain⟨v,g,e1,e2,e3,e4⟩:=pZ hu;have ZR:(bU++[u])++us=(gV ws.length).filter (j9 ws fs p):=by rw[append_assoc];exact hdu
           obtain⟨lp,op,hop⟩:=hI.row hpR;subst e3;have gp:=pR hI.cm.nd hop;have hlen:=hI.cm.len m1;have hcl:ch.length<=6:=six m1 hI.nc fun q hq=>by obtain⟨l,o,z⟩:=hI.chg q hq;exact hI.cm.ZQ _ _ _ z
           have ZS:∀s,((∃q∈pre,j9 ws fs q s=true)\/s∈bU++[u])->((∃q∈pre,j9 ws fs q s=true)\/s∈bU)\/s=u:=fun s hs=>by
            rcases hs with hs|hs;.exact .inl (.inl hs)
            . rcases mem_append.mp hs with hs|hs;.exact .inl (.inr hs)
              .exact .inr (by simpa using hs)
           simp[h8];apply ak;simp[sD];refine lD e1 ?_;simp[h9];apply ak;simp[gp,yl];refine sV e1 ?_;simp[gp,yl,h10];apply ak;have keep:At es' (too v u.2) (op.2+hsp v u.2) (lp+1)->JC2 m ws fs bs (.val false (aP m ws)) s (vM bs) (.val false (.lst A)) (.lent (R.map D.int)) n' R es pre (frm v u.2) (us.map sD) [.val false (aP m ws),s,vM bs,.val false (.lst A),.cF (es'.map en),.val false (.int (frm v u.2)),.lent (R.map D.int),.cF (ch.map yx),.val false (fu u.1 u.2),.val false (.int (too v u.2)),.val false (.tup [.int (op.2+hsp v u.2),.int ((lp:Int)+1)])]:=fun hat=>⟨es',ch,bU++[u],us,_,_,_,rfl,⟨rfl,rfl,rfl⟩,rfl,ZR,(hI.keep e1 hop hat).imp ZS⟩;have ZV:¬ At es' (too v u.2) (op.2+hsp v u.2) (lp+1)->JC2 m ws fs bs (.val false (aP m ws)) s (vM bs) (.val false (.lst A)) (.lent (R.map D.int)) n' R es pre (frm v u.2) (us.map sD) [.val false (aP m ws),s,vM bs,.val false (.lst A),.cF ((pg es' (too v u.2) (lp+1,(some u,op.2+hsp v u.2))).map en),.val false (.int (frm v u.2)),.lent (R.map D.int),.cF ((qW ch (too v u.2)).map yx),.val false (fu u.1 u.2),.val false (.int (too v u.2)),.val false (.tup [.int (op.2+hsp v u.2),.int ((lp:Int)+1)])]:=fun hat=>⟨_,_,bU++[u],us,_,_,_,rfl,⟨rfl,rfl,rfl⟩,rfl,ZR,(hI.put h hF hb hZ e1 hop hu hat).imp ZS⟩;have p1:fM (es'.map en) (too v u.2) (.tup [.int (op.2+hsp v u.2),.int ((lp:Int)+1),fu u.1 u.2])=(pg es' (too v u.2) (lp+1,(some u,op.2+hsp v u.2))).map en:=by rw[<-KJ];simp[yl,oS,sD]
           have p2:fM (ch.map yx) (too v u.2) (.bl true)=(qW ch (too v u.2)).map yx:=LC;by_cases hq:∃l o,(too v u.2,l,o)∈es'
           . obtain⟨l,o,hlo⟩:=hq;have gt:=pR hI.cm.nd hlo;have kt:oX (es'.map en) (too v u.2)=true:=yE.mpr ⟨l,o,hlo⟩;have hlx:=lex_lt (a:=op.2+hsp v u.2) (i:=lp+1) (b:=o.2) (j:=l);rw[show((lp+1:Nat):Int)=(lp:Int)+1 by omega]at hlx;simp[kt,gt,yl,Sd];refine⟨fun z=>?_,fun z=>?_⟩
             . have hat:¬ At es' (too v u.2) (op.2+hsp v u.2) (lp+1):=fun⟨l2,o2,y1,y2⟩=>by obtain⟨rfl,rfl⟩:=jH hI.cm.nd hlo y1;exact hlx.mp z y2
               symm;simp[p1];refine⟨by decide,fun _=>?_,by show _<16777216;omega⟩;symm;simp[p2];refine⟨fun _=>ZV hat,by show _<16777216;omega⟩
             . have hat:At es' (too v u.2) (op.2+hsp v u.2) (lp+1):=by
                refine⟨l,o,hlo,?_⟩;by_cases y:Le o.2 l (op.2+hsp v u.2) (lp+1);.exact y
                .rw[hlx.mpr y]at z;cases z
               exact keep hat
           .have kt:oX (es'.map en) (too v u.2)=false:=kin_no hq;simp[kt];apply ak;simp[p1];refine⟨by decide,fun _=>?_,by show _<16777216;omega⟩;symm;simp[p2];exact⟨fun _=>ZV fun⟨l2,o2,y1,_⟩=>hq ⟨l2,o2,y1⟩,by show _<16777216;omega⟩
       . rintro _⟨es',ch,bU,us,s8,s9,ni,rfl,⟨h8,h9,h10⟩,hr,hdu,hI⟩;have:us=[]:=by cases us with|nil=>rfl|cons _ _=>cases hr
         subst this;rw[append_nil]at hdu;simp;refine⟨es',ch,pre++[p],qs,_,_,_,_,rfl,⟨rfl,h8,h9,h10⟩,rfl,by rw[append_assoc];exact hpq,hI.imp fun s hs=>?_⟩;obtain⟨q,hq,hs⟩:=hs;rcases mem_append.mp hq with hq|hq;.exact .inl ⟨q,hq,hs⟩
         . obtain rfl:q=p:=by simpa using hq
           refine .inr ?_;rw[hdu];obtain⟨v,g,e1,_⟩:=pZ hs;exact mem_filter.mpr ⟨v7 (dI e1).1,hs⟩
   . rintro _⟨es',ch,pre,qs,s5,s8,s9,ni,rfl,⟨h5,h8,h9,h10⟩,hr,hpq,hI⟩;have:qs=[]:=by cases qs with|nil=>rfl|cons _ _=>cases hr
     subst this;rw[append_nil]at hpq;subst hpq;have hcl:ch.length<=6:=six m1 hI.nc fun q hq=>by obtain⟨l,o,z⟩:=hI.chg q hq;exact hI.cm.ZQ _ _ _ z
     have hO:=hI.out';have hn6:n'<6:=by
      by_cases c:6<=n';.exact absurd (hW.few c) hR
      .omega
     simp;apply ak;simp[show ch.length<=16777216 by omega];exact⟨M-1,by omega,n'+1,ch,es',_,_,_,_,_,rfl,⟨h5,h8,h9,h10⟩,.inr ⟨_,rfl⟩,hO,by omega⟩
theorem xK{s:Sl}{fs:List Int}(hw:100<=w)(hF:Pt ws fs F)(hs:Ue s fs)(h:HN m ws)(hf:fs.length=ws.length)(k:∀es,iV m ws fs es->Q (.val (jE es)) [.val false (aP m ws),s,bg]):(run Γ w (n+3) 5 [.val false (aP m ws),s,bg]).sat Q:=by
 have m0:=h.m0;have one:∀{a b:Int},(a,b)∈[((0:Int),(0:Int))]->a=0/\b=0:=fun hab=>by have:=mem_singleton.mp hab;cases this;exact⟨rfl,rfl⟩
 refine tU hw hF (fun a b hab=>by obtain⟨rfl,rfl⟩:=one hab;omega) (by simp) (by simp) (fun a b c hab hp ho=>?_) hs h hf k;obtain⟨rfl,rfl⟩:=one hab;have:=lA hF hp ho;omega
theorem iV.all{m:Int}{ws:List Wy}{fs:List Int}{es:List En}(h:iV m ws fs es){b:Int}:∀{c:List aB}{a:Int}{l:Nat}{o:Option aB×Int},gU ws b c a->rZ ws fs c->(a,l,o)∈es->At es b (o.2+bL ws c) (l+c.length)|[],a,l,o,hp,_,z=>by have:a=b:=hp;subst this;exact⟨l,o,z,by unfold Le bL;simp⟩|s::c,a,l,o,⟨v,e,hf,hp⟩,ho,z=>by subst hf;obtain⟨v',e',o'⟩:=ho s (by simp);rw[e]at e';cases e';obtain⟨l1,o1,z1,z2⟩:=h.cl l o s v e z o';obtain⟨l2,o2,z3,z4⟩:=iV.all h hp (fun u hu=>ho u (mem_cons_of_mem _ hu)) z1;refine⟨l2,o2,z3,z4.trans ?_⟩;rw[bL,gW e,length_cons];unfold Le at*;omega
theorem iV.l5{fs:List Int}(h:iV m ws fs es)(hm:HN m ws)(hF:Pt ws fs F)(z:(p,l,o)∈es):l<=5:=by
 have m0:=hm.m0;obtain⟨a,b,c,hab,c1,c2,c3,c4⟩:=h.cm.wk p l o z;obtain⟨rfl,rfl⟩:a=0/\b=0:=by have:=mem_singleton.mp hab;cases this;exact⟨rfl,rfl⟩
 obtain⟨c',q1,q2,q3,q4,_⟩:=short hm hF ⟨by omega,by omega⟩ _ (dh) c1 c2;obtain⟨l2,o2,z1,z2⟩:=h.all q1 q2 h.cm.z;obtain⟨rfl,rfl⟩:=jH h.cm.nd z z1;rw[Int.zero_add]at c4;rw[c3,c4]at q4;unfold Le at*;simp only at z2;omega
theorem iV.on{fs:List Int}(h:iV m ws fs es)(z:(p,l,o)∈es):(o=(none,0)/\p=0/\l=0)\/∃(s:aB)(v:Wy)(l':Nat)(o':Option aB×Int),o=(some s,o'.2+hsp v s.2)/\l=l'+1/\ws[s.1]?=some v/\too v s.2=p/\j9 ws fs (frm v s.2) s=true/\(frm v s.2,l',o')∈es:=by
 rcases h.cm.stp p l o z with⟨h1,hab,rfl⟩|⟨s,v,l',o',h1,h2,rfl,h4,h5,h6⟩
 . obtain⟨rfl,_⟩:p=0/\o.2=0:=by have:=mem_singleton.mp hab;exact⟨congrArg Prod.fst this,congrArg Prod.snd this⟩
   exact .inl ⟨(jH h.cm.nd z h.cm.z).2,rfl,rfl⟩
 . obtain⟨l2,o2,z1,z2⟩:=h.cl l' o' s v h2 h5 h4;obtain⟨rfl,rfl⟩:=jH h.cm.nd z z1;refine .inr ⟨s,v,l',o',?_,?_,h2,rfl,h4,h5⟩;.exact Prod.ext_iff.mpr ⟨h1,by show _=o'.2+hsp v s.2;unfold Le at*;omega⟩
   .unfold Le at*;omega
structure OJ(ws:List Wy)(fs:List Int)(es:List En)(p:Int)(L:Nat)(H:Int)(a:Int)(l:Nat)(h:Int)(c:List aB):Prop where
 JW:gU ws p c a
 jj:rZ ws fs c
 nd:(c.map (·.1)).Nodup
 lv:∀s∈c,∀v,ws[s.1]?=some v->∃l1 o1 o2,(frm v s.2,l1,o1)∈es/\(too v s.2,l1+1,o2)∈es/\l<=l1
 len:c.length+l=L
 hrs:bL ws c+h=H
theorem j6{g:Bool}(h:g≠f):frm v g=too v f/\too v g=frm v f:=by cases f<;>cases g<;>first|exact absurd rfl h|exact⟨rfl,rfl⟩
theorem OJ.cons{m:Int}{ws:List Wy}{fs:List Int}{es:List En}{p:Int}{L l:Nat}{H x:Int}{c:List aB}{s:aB}{v:Wy}{o o':Option aB×Int}(hc:Cme m ws fs es)(h:OJ ws fs es p L H (too v s.2) (l+1) (x+hsp v s.2) c)(e:ws[s.1]?=some v)(h1:(too v s.2,l+1,o)∈es)(h2:(frm v s.2,l,o')∈es)(ho:j9 ws fs (frm v s.2) s=true):OJ ws fs es p L H (frm v s.2) l x (s::c):=by
 refine⟨⟨v,e,rfl,h.JW⟩,fun u hu=>?_,?_,fun u hu x ex=>?_,by have:=h.len;simp only[length_cons];omega,by have:=h.hrs;rw[bL,gW e];omega⟩
 . rcases mem_cons.mp hu with rfl|hu;.exact⟨v,e,ho⟩
   .exact h.jj u hu
 . rw[map_cons,nodup_cons];refine⟨fun hm=>?_,h.nd⟩;obtain⟨t,ht,et⟩:=mem_map.mp hm;obtain⟨l1,o1,o2,q1,q2,q3⟩:=h.lv t ht v (by rw[et];exact e);by_cases z:t.2=s.2;.rw[z]at q1;have:=(jH hc.nd q1 h2).1;omega
   .rw[(j6 z).2]at q2;have:=(jH hc.nd q2 h2).1;omega
 . rcases mem_cons.mp hu with rfl|hu;.rw[e]at ex;cases ex;exact⟨l,_,_,h2,h1,dh⟩
   .obtain⟨l1,o1,o2,q1,q2,q3⟩:=h.lv u hu x ex;exact⟨l1,o1,o2,q1,q2,by omega⟩
theorem wg(hn:(es.map (·.1)).Nodup)(h:(p,x)∈es):lu ((es.map (·.1)).zip (es.map yl)) p=some (yl (p,x)):=by
 have:(es.map (·.1)).zip (es.map yl)=es.map en:=by rw[List.zip_map'];rfl
 rw[this];exact pR hn h
inductive JSt(m:Int)(ws:List Wy)(fs:List Int)(es:List En)(p:Int)(L:Nat)(H:Int)(a0 a1 a2:Sl)(M:Nat)(ρ:List Sl):Prop where|mk(a:Int)(l:Nat)(o:Option aB×Int)(c:List aB)(s5:Sl)(q0:ρ=[a0,a1,a2,.own false (c.reverse.map sD),.val false (.int a),s5])(q1:fr s5=true)(q2:(a,l,o)∈es)(q3:OJ ws fs es p L H a l o.2 c)(q4:l<=M)
theorem Dv{L:Nat}{fs:List Int}(hw:100<=w)(h:iV m ws fs es)(hL:L<=5)(hp:(p,L,o)∈es)(k:∀c,OJ ws fs es p L o.2 0 0 0 c->Q (.val (.tup (c.map sD))) [.val false (aP m ws),.val false (jE es),.val false (.int p)]):(run Γ w (n+2) 6 [.val false (aP m ws),.val false (jE es),.val false (.int p)]).sat Q:=by
 refine aK (d:=f6) rfl rfl (by decide) ?_;symm;simp[f6];apply ak;simp;apply ak;simp;refine jA (JSt m ws fs es p L o.2 _ _ _) ?_ (k:=w) (m:=L) (by omega) ⟨p,L,o,[],.aO,rfl,rfl,hp,⟨rfl,fun s hs=>(by cases hs),by simp,by simp,by simp,by rw[bL];omega⟩,dh⟩;rintro M _⟨a,l,o1,c,s5,rfl,h5,ha,hc,hM⟩;have gz:=wg h.cm.nd ha;rcases h.on ha with⟨rfl,rfl,rfl⟩|⟨s,v,l',o',rfl,rfl,e,rfl,ho,h2⟩;.simp[jE,gz,yl,oS];symm;simp;exact k c hc
 . simp[jE,gz,yl,oS,sD,fu];symm;simp[gz,yl,oS,h5];apply ak;have hcl:c.length<16777216:=by have:=hc.len;omega
   simp[hcl];apply ak;simp[sD];refine lD e ?_;simp;exact⟨l',by omega,frm v s.2,l',o',s::c,.val false (fu s.1 s.2),by simp[jE,sD],rfl,h2,hc.cons h.cm e ha h2 ho,dh⟩
def sg(x:Int)(f:Bool):Int:=if f then x else-x
def jt(x:Int)(fs:List Int)(s:aB):List Int:=fs.set s.1 ((fs[s.1]?.getD 0)+sg x s.2)
def aug(x:Int)(fs:List Int)(c:List aB):List Int:=c.foldl (jt x) fs
@[simp]theorem xH{x:Int}{fs:List Int}{s:aB}:(jt x fs s).length=fs.length:=by simp[jt]
theorem lV{x:Int}:∀{c:List aB}{fs:List Int},(aug x fs c).length=fs.length|[],_=>rfl|s::c,fs=>by show(aug x (jt x fs s) c).length=_;rw[lV,xH]
theorem lR{x:Int}{j:Nat}:∀{c:List aB}{fs:List Int},j∉c.map (·.1)->(aug x fs c)[j]?=fs[j]?|[],_,_=>rfl|s::c,fs,h=>by rw[map_cons,mem_cons,not_or]at h;show(aug x (jt x fs s) c)[j]?=_;rw[lR h.2];unfold jt;rw[getElem?_set_ne (fun z=>h.1 z.symm)]
theorem uP{x:Int}:∀{c:List aB}{fs:List Int}{s:aB}{g:Int},(c.map (·.1)).Nodup->s∈c->fs[s.1]?=some g->(aug x fs c)[s.1]?=some (g+sg x s.2)
 |[],_,_,_,_,h,_=>by cases h|t::c,fs,s,g,hn,h,e=>by
   rw[map_cons,nodup_cons]at hn;show(aug x (jt x fs t) c)[s.1]?=_;have hlt:=(dI e).1;rcases mem_cons.mp h with rfl|h;.rw[lR hn.1];unfold jt;rw[getElem?_set_self hlt,e];rfl
   .refine uP hn.2 h ?_;unfold jt;rw[getElem?_set_ne (fun z=>hn.1 (by rw[z];exact mem_map.mpr ⟨s,h,rfl⟩))];exact e
inductive JWt(x:Int)(fs:List Int)(c:List aB)(a0 a1 a2:Sl)(r:List D)(ρ:List Sl):Prop where|mk(bU us:List aB)(s4 s5:Sl)(q0:ρ=[a0,a1,a2,.own false ((aug x fs bU).map D.int),s4,s5])(q1:fr s4=true)(q2:fr s5=true)(q3:r=us.map sD)(q4:bU++us=c)
theorem vW{s:Sl}{x:Int}{fs:List Int}(hs:Ue s fs)(hc:∀s∈c,s.1<fs.length)(k:Q (.own ((aug x fs c).map D.int)) [s,.val false (.tup (c.map sD)),.val false (.int x)]):(run Γ w (n+1) 7 [s,.val false (.tup (c.map sD)),.val false (.int x)]).sat Q:=by
 refine aK (d:=f7) rfl rfl (by decide) ?_;refine cG (fun ρ=>ρ=[s,.val false (.tup (c.map sD)),.val false (.int x),.own false (fs.map D.int),.aO,.aO]) ?_ ?_;.rcases hs with rfl|⟨b,rfl⟩;all_goals simp[f7]
 rintro _ rfl;symm;simp;refine cO (JWt x fs c _ _ _) ?_ ?_ ⟨[],c,.aO,.aO,rfl,rfl,rfl,rfl,rfl⟩;.rintro d r _⟨bU,us,s4,s5,rfl,h4,h5,hr,hd⟩;cases us with|nil=>cases hr|cons u us=>
     obtain⟨rfl,rfl⟩:d=sD u/\r=us.map sD:=by simpa using hr
     have hu:u.1<(aug x fs bU).length:=by rw[lV];exact hc u (by rw[<-hd];simp)
     have ea:(aug x fs bU)[u.1]?=some (aug x fs bU)[u.1]:=by simp[hu]
     have hx:jC (aug x fs bU).length (u.1:Int)=some u.1:=by unfold jC;rw[if_pos (by omega),if_pos (by omega)];simp
     have he:aug x fs (bU++[u])=(aug x fs bU).set u.1 ((aug x fs bU)[u.1]+sg x u.2):=by unfold aug;rw[List.foldl_append];show jt x (aug x fs bU) u=_;unfold jt;rw[ea];rfl
     have hd2:(bU++[u])++us=c:=by rw[append_assoc];exact hd
     generalize(aug x fs bU)[u.1]=g at*;simp[sD,fu,h4,h5];apply ak;obtain⟨j,f⟩:=u;cases f with|true=>simp[cY ea,hx];exact⟨bU++[(j,true)],us,_,_,by rw[he,map_set];rfl,rfl,rfl,rfl,hd2⟩|false=>simp[cY ea,hx];exact⟨bU++[(j,false)],us,_,_,by rw[he,map_set];rfl,rfl,rfl,rfl,hd2⟩
 . rintro _⟨bU,us,s4,s5,rfl,h4,h5,hr,hd⟩;have:us=[]:=by cases us with|nil=>rfl|cons _ _=>cases hr
   subst this;rw[append_nil]at hd;subst hd;simp;apply ak;simp;exact k
def DY(F:Int->Int)(D:Int):List En->Int->Int|[],p=>F p+D|e::es,p=>if e.1=p then e.2.2.2 else DY F D es p
theorem gQ{F:Int->Int}{D p:Int}{l:Nat}{o:Option aB×Int}:∀{es:List En},(es.map (·.1)).Nodup->(p,l,o)∈es->DY F D es p=o.2
 |[],_,h=>by cases h|e::es,hn,h=>by
   rw[map_cons,nodup_cons]at hn;rw[DY];rcases mem_cons.mp h with rfl|h;.rw[if_pos rfl]
   .rw[if_neg (fun z=>hn.1 (by rw[z];exact mem_map.mpr ⟨_,h,rfl⟩))];exact gQ hn.2 h
theorem pG{F:Int->Int}{D p:Int}:∀{es:List En},(¬ ∃l o,(p,l,o)∈es)->DY F D es p=F p+D|[],_=>rfl|e::es,h=>by rw[DY,if_neg (fun z=>h ⟨e.2.1,e.2.2,by rw[<-z];simp⟩)];exact pG fun⟨l,o,z⟩=>h ⟨l,o,mem_cons_of_mem _ z⟩
theorem Ay(F:Int->Int):∀(es:List En),∃D,∀p l o,(p,l,o)∈es->o.2<=F p+D
 |[]=>⟨0,fun _ _ _ h=>by cases h⟩|e::es=>by
   obtain⟨D,h⟩:=Ay F es;refine⟨max D (e.2.2.2-F e.1),fun p l o z=>?_⟩;rcases mem_cons.mp z with rfl|z;.simp only;omega
   .have:=h p l o z;omega
theorem iV.pt{fs:List Int}{D:Int}(h:iV m ws fs es)(hF:Pt ws fs F)(hD:∀p l o,(p,l,o)∈es->o.2<=F p+D):Pt ws fs (DY F D es):=fun s v e ho=>by
 by_cases c:∃l o,(frm v s.2,l,o)∈es;.obtain⟨l,o,c⟩:=c;obtain⟨l2,o2,c2,c3⟩:=h.cl l o s v e c ho;rw[gQ h.cm.nd c,gQ h.cm.nd c2];unfold Le at c3;omega
 . rw[pG c];have h1:=hF s v e ho;by_cases c2:∃l o,(too v s.2,l,o)∈es;.obtain⟨l2,o2,c2⟩:=c2;rw[gQ h.cm.nd c2];have:=hD _ _ _ c2;omega
   .rw[pG c2];omega
theorem Js{fs:List Int}{G:Int->Int}(d:Int)(hF:Pt ws fs F)(hG:Pt ws fs G):Pt ws fs (fun p=>min (F p) (G p+d)):=fun s v e ho=>by have h1:=hF s v e ho;have h2:=hG s v e ho;simp only;omega
theorem uc{ws:List Wy}{fs:List Int}{F:Int->Int}(h:Pt ws fs F){b:Int}:∀{c:List aB}{a:Int},gU ws b c a->rZ ws fs c->F b=F a+bL ws c->∀s∈c,∀v,ws[s.1]?=some v->F (too v s.2)=F (frm v s.2)+hsp v s.2
 |[],_,_,_,_,s,hs,_,_=>by cases hs|s::c,a,⟨v,e,hf,hp⟩,ho,he,u,hu,x,ex=>by
   have ho':rZ ws fs c:=fun u hu=>ho u (mem_cons_of_mem _ hu);have h1:=lA h hp ho';obtain⟨v',e',o⟩:=ho s (by simp);rw[e]at e';cases e';have h2:=h s v e o;rw[hf]at h2;rw[bL,gW e]at he;rcases mem_cons.mp hu with rfl|hu;.rw[e]at ex;cases ex;rw[hf];omega
   .exact uc h hp ho' (by omega) u hu x ex
theorem qD{fs:List Int}{x:Int}{t:aB}(hc:rZ ws fs c)(e:ws[t.1]?=some v)(h:j9 ws (aug x fs c) (frm v t.2) t=true):j9 ws fs (frm v t.2) t=true\/∃s∈c,s.1=t.1/\t.2≠s.2:=by
 by_cases z:t.1∈c.map (·.1)
 . obtain⟨s,hs,es⟩:=mem_map.mp z;by_cases q:t.2=s.2;.have:t=s:=Prod.ext_iff.mpr ⟨es.symm,q⟩;subst this;obtain⟨v',e',o⟩:=hc t hs;rw[e]at e';cases e';exact .inl o
   .exact .inr ⟨s,hs,es,q⟩
 .refine .inl ?_;unfold j9 at h ⊢;rwa[lR z]at h
theorem Pt.aug{ws:List Wy}{fs:List Int}{F:Int->Int}(h:Pt ws fs F){a b x:Int}{c:List aB}(hp:gU ws b c a)(ho:rZ ws fs c)(he:F b=F a+bL ws c):Pt ws (aug x fs c) F:=fun t v e o=>by
 rcases qD ho e o with o|⟨u,hu,eu,ne⟩;.exact h t v e o
 . have:=uc h hp ho he u hu v (by rw[eu];exact e);rw[(j6 ne).1,(j6 ne).2];have:hsp v t.2=-hsp v u.2:=by cases h1:t.2<;>cases h2:u.2<;>simp[hsp]<;>(rw[h1,h2]at ne;exact absurd rfl ne)
   omega
def dW(G:Wy->Int):List Wy->List Int->Int|v::ws,g::fs=>G v*g+dW G ws fs|_,_=>0
def nJ(H:Wy->Int):List Wy->Int|[]=>0|v::ws=>H v+nJ H ws
theorem yo{G H:Wy->Int}:∀{ws:List Wy}{fs:List Int},fs.length=ws.length->(∀(j:Nat)v g,ws[j]?=some v->fs[j]?=some g->G v*g<=H v)->dW G ws fs<=nJ H ws|[],[],_,_=>Int.le_refl _|[],_::_,h,_=>by simp at h|_::_,[],h,_=>by simp at h|v::ws,g::fs,h,k=>by have h1:=k 0 v g rfl rfl;have h2:=yo (G:=G) (H:=H) (ws:=ws) (fs:=fs) (by simpa using h) fun j v g e1 e2=>k (j+1) v g (by simpa using e1) (by simpa using e2);rw[dW,nJ];omega
theorem GF{G H:Wy->Int}:∀{ws:List Wy}{fs:List Int},fs.length=ws.length->(∀(j:Nat)v g,ws[j]?=some v->fs[j]?=some g->H v<=G v*g)->nJ H ws<=dW G ws fs|[],[],_,_=>Int.le_refl _|[],_::_,h,_=>by simp at h|_::_,[],h,_=>by simp at h|v::ws,g::fs,h,k=>by have h1:=k 0 v g rfl rfl;have h2:=GF (G:=G) (H:=H) (ws:=ws) (fs:=fs) (by simpa using h) fun j v g e1 e2=>k (j+1) v g (by simpa using e1) (by simpa using e2);rw[dW,nJ];omega
theorem Ba{G:Wy->Int}{v:Wy}{g y:Int}:∀{j:Nat}{ws:List Wy}{fs:List Int},ws[j]?=some v->fs[j]?=some g->dW G ws (fs.set j (g+y))=dW G ws fs+G v*y|_,[],_,e,_=>by simp at e|_,_::_,[],_,e=>by simp at e|0,u::ws,f::fs,e1,e2=>by simp at e1 e2;subst e1 e2;rw[List.set_cons_zero,dW,dW,mul_add];omega|j+1,u::ws,f::fs,e1,e2=>by rw[List.set_cons_succ,dW,dW,Ba (j:=j) (by simpa using e1) (by simpa using e2)];omega
def gap(k:Int)(q:Int->Int)(v:Wy):Int:=q v.t-q v.s-k*v.h
theorem Jb{x:Int}:gap k q v*sg x f=x*(q (too v f)-q (frm v f)-k*hsp v f):=by cases f with|true=>show(q v.t-q v.s-k*v.h)*x=x*(q v.t-q v.s-k*v.h);exact mul_comm _ _|false=>show(q v.t-q v.s-k*v.h)*(-x)=x*(q v.s-q v.t-k*(-v.h));rw[mul_neg,mul_neg k,show q v.s-q v.t- -(k*v.h)=-(q v.t-q v.s-k*v.h)by omega,mul_neg,mul_comm]
theorem pF{k x:Int}{q:Int->Int}{ws:List Wy}{b:Int}:∀{c:List aB}{fs:List Int}{a:Int},fs.length=ws.length->gU ws b c a->dW (gap k q) ws (aug x fs c)=dW (gap k q) ws fs+x*(q b-q a-k*bL ws c)
 |[],fs,a,_,h=>by have:a=b:=h;subst this;show _=_+x*(q a-q a-k*0);simp;rfl|s::c,fs,a,hl,⟨v,e,hf,hp⟩=>by
   show dW (gap k q) ws (aug x (jt x fs s) c)=_;have hlt:s.1<fs.length:=by rw[hl];exact(dI e).1
   have e2:fs[s.1]?=some fs[s.1]:=by simp[hlt]
   rw[pF (by rw[xH];exact hl) hp];have:jt x fs s=fs.set s.1 (fs[s.1]+sg x s.2):=by unfold jt;rw[e2];rfl
   rw[this,Ba e e2,Jb,hf,Int.add_assoc,<-mul_add,bL,gW e,mul_add k];congr 2;omega
structure J1(ws:List Wy)(fs:List Int):Prop where
 len:fs.length=ws.length
 ok:∀(j:Nat)v g,ws[j]?=some v->fs[j]?=some g->0<=g/\g<=v.r
theorem J1.aug{ws:List Wy}{fs:List Int}{c:List aB}{x:Int}(h:J1 ws fs)(hn:(c.map (·.1)).Nodup)(hx:0<x)(hc:∀s∈c,∃v g,ws[s.1]?=some v/\fs[s.1]?=some g/\x<=nu v g s.2):J1 ws (aug x fs c):=by
 refine⟨by rw[lV];exact h.len,fun j v g e1 e2=>?_⟩;by_cases z:j∈c.map (·.1);.obtain⟨s,hs,rfl⟩:=mem_map.mp z;obtain⟨v',g',q1,q2,q3⟩:=hc s hs;rw[e1]at q1;cases q1;rw[uP hn hs q2]at e2;cases e2;have:=h.ok _ _ _ e1 q2;cases hf:s.2<;>rw[hf]at q3<;>simp[nu,sg]at q3 ⊢<;>omega
 .rw[lR z]at e2;exact h.ok _ _ _ e1 e2
def jB(q:Int->Int)(v:Wy):Int:=v.r*max 0 (q v.t-q v.s-v.h)
def gF(q:Int->Int)(ws:List Wy):Int:=nJ (jB q) ws
theorem Yq:gap 1 q v=q v.t-q v.s-v.h:=by unfold gap;omega
theorem u0{fs:List Int}(h:J1 ws fs):dW (gap 1 q) ws fs<=gF q ws:=yo h.len fun j v g e1 e2=>by
 have:=h.ok _ _ _ e1 e2;rw[Yq];unfold jB;generalize q v.t-q v.s-v.h=y;by_cases c:0<=y;.rw[Int.max_eq_right c,mul_comm];exact Int.mul_le_mul_of_nonneg_right this.2 c
 .rw[Int.max_eq_left (by omega),Int.mul_zero];exact Int.mul_nonpos_of_nonpos_of_nonneg (by omega) this.1
theorem Kv{fs:List Int}(h:J1 ws fs)(hp:Pt ws fs q):gF q ws=dW (gap 1 q) ws fs:=by
 refine Int.le_antisymm (GF h.len fun j v g e1 e2=>?_) (u0 h);have hg:=h.ok _ _ _ e1 e2;have o1:0<v.r-g->q v.t<=q v.s+v.h:=fun z=>hp (j,true) v e1 (by rw[jq (s:=(j,true)) e1 e2];simp[frm,nu];omega);have o2:0<g->q v.s<=q v.t+-v.h:=fun z=>hp (j,false) v e1 (by rw[jq (s:=(j,false)) e1 e2];simp[frm,nu];omega);rw[Yq];unfold jB;generalize hy:q v.t-q v.s-v.h=y;by_cases c:g=v.r
 . subst c;by_cases c0:0<v.r;.have:=o2 c0;rw[Int.max_eq_right (by omega),mul_comm];exact Int.le_refl _
   . have:v.r=0:=by omega
     rw[this];simp
 . have:=o1 (by omega);rw[Int.max_eq_left (by omega),Int.mul_zero];by_cases c0:0<g;.have:=o2 c0;rw[show y=0 by omega];simp
   .rw[show g=0 by omega];simp
def oK(fs:List Int)(x:List aB×Int):List Int:=aug x.2 fs x.1
def flow(N:Nat)(cs:List (List aB×Int)):List Int:=cs.foldl oK (replicate N 0)
theorem p7{x:List aB×Int}:flow N (cs++[x])=aug x.2 (flow N cs) x.1:=by unfold flow;rw[List.foldl_append];rfl
def bQ(H:List aB×Int->Int):List (List aB×Int)->Int|[]=>0|x::cs=>H x+bQ H cs
theorem jo{H:List aB×Int->Int}{x:List aB×Int}:∀{cs:List (List aB×Int)},bQ H (cs++[x])=bQ H cs+H x|[]=>by simp[bQ]|y::cs=>by rw[cons_append,bQ,bQ,jo];omega
theorem iJ{H K:List aB×Int->Int}:∀{cs:List (List aB×Int)},(∀x∈cs,H x=K x)->bQ H cs=bQ K cs|[],_=>rfl|x::cs,h=>by rw[bQ,bQ,h x (by simp),iJ fun y hy=>h y (by simp[hy])]
theorem GR{H:List aB×Int->Int}:∀{cs:List (List aB×Int)},(∀x∈cs,1<=H x)->(cs.length:Int)<=bQ H cs|[],_=>by simp[bQ]|x::cs,h=>by have h1:=h x (by simp);have h2:=GR (H:=H) (cs:=cs) fun y hy=>h y (by simp[hy]);rw[bQ,length_cons];omega
def Uh(ws:List Wy)(T:Int)(x:List aB×Int):Int:=if bL ws x.1<=T then x.2*(T-bL ws x.1+1)else 0
def val(ws:List Wy)(T:Int)(cs:List (List aB×Int)):Int:=bQ (Uh ws T) cs
structure gb(m:Int)(ws:List Wy)(T v:Int):Prop where
 ex:∃q:Int->Int,q 0=0/\q (m-1)=T+1/\gF q ws=v
 le:∀q:Int->Int,q 0=0->q (m-1)=T+1->v<=gF q ws
theorem wZ{T:Int}{fs:List Int}{G:Int->Int}(fit:J1 ws fs)(dt:∀k q,dW (gap k q) ws fs=bQ (fun x=>x.2*(q (m-1)-q 0-k*bL ws x.1)) cs)(hT:∀x∈cs,bL ws x.1<=T+1)(hG:Pt ws fs G)(g0:G 0=0)(g1:G (m-1)=T+1):gb m ws T (val ws T cs):=by
 have hv:∀q:Int->Int,q 0=0->q (m-1)=T+1->dW (gap 1 q) ws fs=val ws T cs:=fun q q0 q1=>by
  rw[dt,q0,q1];refine iJ fun x hx=>?_;have:=hT x hx;unfold Uh;split;.congr 1;omega
  .rw[show T+1-0-1*bL ws x.1=0 by omega,Int.mul_zero]
 exact⟨⟨G,g0,g1,by rw[Kv fit hG,hv G g0 g1]⟩,fun q q0 q1=>by rw[<-hv q q0 q1];exact u0 fit⟩
structure yg(m:Int)(ws:List Wy)(cs:List (List aB×Int))(fs:List Int)(F:Int->Int)(d:Int):Prop where
 fit:J1 ws fs
 pt:Pt ws fs F
 z:F 0=0
 e:F (m-1)=d
 d0:0<=d
 nn:(∀v∈ws,1<=v.h)->1<=d/\∀x∈cs,1<=bL ws x.1
 ch:∀x∈cs,bL ws x.1<=d/\0<x.2/\∀s∈x.1,s.1<ws.length
 dt:∀k q,dW (gap k q) ws fs=bQ (fun x=>x.2*(q (m-1)-q 0-k*bL ws x.1)) cs
 lst:∀T,0<=T->T+1<=d->gb m ws T (val ws T cs)
theorem qU{G:Wy->Int}:∀{ws:List Wy}{n:Nat},dW G ws (replicate n 0)=0|[],n=>by unfold dW;rfl|v::ws,0=>rfl|v::ws,n+1=>by rw[replicate_succ,dW,qU];simp
theorem uv(h:(replicate n (0:Int))[j]?=some g):g=0:=(List.mem_replicate.mp (mem_of_getElem? h)).2
def F01(b p:Int):Int:=if p=0 then 0 else b
theorem yg.zero(m0:2<=m)(hh:∀v∈ws,0<=v.h)(hr:∀v∈ws,0<=v.r):∃b,yg m ws [] (replicate ws.length 0) (F01 b) b:=by
 have fit:J1 ws (replicate ws.length 0):=⟨by simp,fun j v g e1 e2=>by rw[uv e2];exact⟨Int.le_refl _,hr v (mem_of_getElem? e1)⟩⟩;have pt:∀b:Int,0<=b->(∀v∈ws,b<=v.h)->Pt ws (replicate ws.length 0) (F01 b):=fun b b0 hb s v e ho=>by obtain⟨v',g,e1,e2,_,e4⟩:=pZ ho;rw[e]at e1;cases e1;have:=uv e2;subst this;have:=hb v (mem_of_getElem? e);cases hf:s.2<;>rw[hf]at e4<;>simp[nu,hsp,F01]at e4 ⊢;split<;>split<;>omega
 have dt:∀k q,dW (gap k q) ws (replicate ws.length 0)=bQ (fun x=>x.2*(q (m-1)-q 0-k*bL ws x.1)) []:=fun k q=>by rw[qU];rfl
 have e1:∀b,F01 b (m-1)=b:=fun b=>by unfold F01;rw[if_neg (by omega)]
 by_cases c:∀v∈ws,1<=v.h;.exact⟨1,fit,pt 1 (by omega) c,rfl,e1 1,by omega,fun _=>⟨Int.le_refl _,by simp⟩,by simp,dt,fun T h1 h2=>wZ fit dt (by simp) (pt 1 (by omega) c) rfl (by rw[e1];omega)⟩
 .exact⟨0,fit,pt 0 (by omega) hh,rfl,e1 0,by omega,fun z=>absurd z c,by simp,dt,fun T h1 h2=>by omega⟩
theorem yg.at{d T:Int}{fs:List Int}{G:Int->Int}(h:yg m ws cs fs F d)(hT:d<=T+1)(hG:Pt ws fs G)(g0:G 0=0)(g1:G (m-1)=T+1):gb m ws T (val ws T cs):=wZ h.fit h.dt (fun x hx=>Int.le_trans (h.ch x hx).1 hT) hG g0 g1
theorem yg.more{d:Int}{fs:List Int}{x:Int}(h:yg m ws cs fs F d)(hes:iV m ws fs es)(hlo:(m-1,l,o)∈es)(hc:OJ ws fs es (m-1) l o.2 0 0 0 c)(hx:0<x)(hr:∀s∈c,∃v g,ws[s.1]?=some v/\fs[s.1]?=some g/\x<=nu v g s.2):∃F',yg m ws (cs++[(c,x)]) (aug x fs c) F' o.2:=by
 obtain⟨D,hD⟩:=Ay F es;have hP:=hes.pt h.pt hD;have hH:bL ws c=o.2:=by have:=hc.hrs;omega
 have e0:DY F D es 0=0:=gQ hes.cm.nd hes.cm.z;have e1:DY F D es (m-1)=o.2:=gQ hes.cm.nd hlo;have hd:d<=o.2:=by have:=lA h.pt hc.JW hc.jj;rw[h.e,h.z]at this;omega
 refine⟨DY F D es,h.fit.aug hc.nd hx hr,hP.aug hc.JW hc.jj (by rw[e0,e1];omega),e0,e1,by have:=h.d0;omega,fun z=>⟨by have:=(h.nn z).1;omega,fun y hy=>?_⟩,fun y hy=>?_,fun k q=>?_,fun T h0 h1=>?_⟩
 . rcases mem_append.mp hy with hy|hy;.exact(h.nn z).2 y hy
   .rw[mem_singleton.mp hy];show 1<=bL ws c;have:=(h.nn z).1;omega
 . rcases mem_append.mp hy with hy|hy;.have:=h.ch y hy;exact⟨by omega,this.2⟩
   .rw[mem_singleton.mp hy];refine⟨by show bL ws c<=_;omega,hx,fun s hs=>?_⟩;obtain⟨v,g,e,_⟩:=hr s hs;exact(dI e).1
 .rw[pF h.fit.len hc.JW,jo,h.dt]
 . have e3:val ws T (cs++[(c,x)])=val ws T cs:=by unfold val;rw[jo];show _+(if bL ws c<=T then _ else 0)=_;rw[if_neg (by omega)];omega
   rw[e3];by_cases q:T+1<=d;.exact h.lst T h0 q
   . refine h.at (by omega) (Js (T+1-d) hP h.pt) ?_ ?_;.have:=h.z;omega
     .have:=h.e;omega
theorem yg.least{d T:Int}{fs:List Int}(h:yg m ws cs fs F d)(hes:iV m ws fs es)(hno:¬ ∃l o,(m-1,l,o)∈es)(h0:0<=T):gb m ws T (val ws T cs):=by
 by_cases q:T+1<=d;.exact h.lst T h0 q
 . obtain⟨D,hD⟩:=Ay F es;have hP:=hes.pt (D:=max D (T+1-d)) h.pt fun p l o z=>by have:=hD p l o z;omega
   have e0:DY F (max D (T+1-d)) es 0=0:=gQ hes.cm.nd hes.cm.z;have e1:DY F (max D (T+1-d)) es (m-1)=F (m-1)+max D (T+1-d):=pG hno;refine h.at (by omega) (Js (T+1-d) hP h.pt) ?_ ?_;.have:=h.z;omega
   .have:=h.e;omega
def Fj(v:Wy)(f:Bool):Int:=7*hsp v f+1
def Oq(ws:List Wy)(fs:List Int)(P:Int->Int):Prop:=∀(s:aB)(v:Wy),ws[s.1]?=some v->j9 ws fs (frm v s.2) s=true->P (too v s.2)<=P (frm v s.2)+Fj v s.2
def ye(ws:List Wy)(c:List aB):Int:=7*bL ws c+c.length
theorem qL(e:ws[s.1]?=some v):ye ws (s::c)=Fj v s.2+ye ws c:=by unfold ye Fj;rw[bL,gW e,length_cons];omega
theorem zu{ws:List Wy}{fs:List Int}{P:Int->Int}(h:Oq ws fs P){b:Int}:∀{c:List aB}{a:Int},gU ws b c a->rZ ws fs c->P b<=P a+ye ws c|[],a,hp,_=>by have:a=b:=hp;rw[this];simp[ye,bL]|s::c,a,⟨v,e,hf,hp⟩,ho=>by have h1:=zu h hp fun u hu=>ho u (mem_cons_of_mem _ hu);obtain⟨v',e',o⟩:=ho s (by simp);rw[e]at e';cases e';have h2:=h s v e o;rw[hf]at h2;rw[qL e];omega
theorem sY{ws:List Wy}{fs:List Int}{P:Int->Int}(h:Oq ws fs P){b:Int}:∀{c:List aB}{a:Int},gU ws b c a->rZ ws fs c->P b=P a+ye ws c->∀s∈c,∀v,ws[s.1]?=some v->P (too v s.2)=P (frm v s.2)+Fj v s.2
 |[],_,_,_,_,s,hs,_,_=>by cases hs|s::c,a,⟨v,e,hf,hp⟩,ho,he,u,hu,x,ex=>by
   have ho':rZ ws fs c:=fun u hu=>ho u (mem_cons_of_mem _ hu);have h1:=zu h hp ho';obtain⟨v',e',o⟩:=ho s (by simp);rw[e]at e';cases e';have h2:=h s v e o;rw[hf]at h2;rw[qL e]at he;rcases mem_cons.mp hu with rfl|hu;.rw[e]at ex;cases ex;rw[hf];omega
   .exact sY h hp ho' (by omega) u hu x ex
def tgt(ws:List Wy)(fs:List Int)(P:Int->Int)(s:aB):Bool:=match ws[s.1]?with|some v=>j9 ws fs (frm v s.2) s&&decide (P (too v s.2)=P (frm v s.2)+Fj v s.2)|none=>false
theorem HB{fs:List Int}{P:Int->Int}(e:ws[s.1]?=some v):tgt ws fs P s=(j9 ws fs (frm v s.2) s&&decide (P (too v s.2)=P (frm v s.2)+Fj v s.2)):=by unfold tgt;rw[e]
def Hv(ws:List Wy)(fs:List Int)(P:Int->Int):Nat:=((gV ws.length).filter (tgt ws fs P)).length
theorem Aw{fs:List Int}{P:Int->Int}(h:ws.length<=12):Hv ws fs P<=24:=by have:=List.length_filter_le (tgt ws fs P) (gV ws.length);rw[xT]at this;unfold Hv;omega
theorem HQ{p q:aB->Bool}(h:∀t,q t=true->p t=true):∀(l:List aB),(l.filter q).length<=(l.filter p).length|[]=>dh|t::l=>by have ih:=HQ h l;cases hq:q t with|true=>simp[hq,h t hq,ih]|false=>cases hp:p t with|true=>simp[hq,hp];omega|false=>simp[hq,hp,ih]
theorem Iv{p q:aB->Bool}{s:aB}(h:∀t,q t=true->p t=true)(hp:p s=true)(hq:q s=false):∀{l:List aB},s∈l->(l.filter q).length<(l.filter p).length
 |[],hs=>by cases hs|t::l,hs=>by
   have le:=HQ h l;rcases mem_cons.mp hs with rfl|hs;.simp[hp,hq];omega
   .have ih:=Iv h hp hq hs;cases hq2:q t with|true=>simp[hq2,h t hq2,ih]|false=>cases hp2:p t with|true=>simp[hq2,hp2];omega|false=>simp[hq2,hp2,ih]
theorem GK{fs:List Int}(hn:(c.map (·.1)).Nodup)(hs:s∈c)(e:ws[s.1]?=some v)(e2:fs[s.1]?=some g):j9 ws (aug (nu v g s.2) fs c) p s=false:=by
 rw[jq e (uP hn hs e2)];have:nu v (g+sg (nu v g s.2) s.2) s.2=0:=by cases s.2<;>simp[nu,sg]<;>omega
 rw[this];simp
theorem Oq.aug{ws:List Wy}{fs:List Int}{P:Int->Int}(h:Oq ws fs P){a b:Int}{c:List aB}{s:aB}{v:Wy}{g:Int}(hp:gU ws b c a)(ho:rZ ws fs c)(hn:(c.map (·.1)).Nodup)(he:P b=P a+ye ws c)(hs:s∈c)(e:ws[s.1]?=some v)(e2:fs[s.1]?=some g):Oq ws (aug (nu v g s.2) fs c) P/\Hv ws (aug (nu v g s.2) fs c) P<Hv ws fs P:=by
 have Ql:=sY h hp ho he;have back:∀(t u:aB)(x:Wy),u∈c->u.1=t.1->t.2≠u.2->ws[t.1]?=some x->P (too x t.2)<P (frm x t.2)+Fj x t.2:=fun t u x hu eu ne ex=>by
  have h1:=Ql u hu x (by rw[eu];exact ex);rw[(j6 ne).1,(j6 ne).2];have h2:hsp x t.2=-hsp x u.2:=by cases h1:t.2<;>cases h2:u.2<;>simp[hsp]<;>(rw[h1,h2]at ne;exact absurd rfl ne)
  unfold Fj at*;omega
 refine⟨fun t x ex o=>?_,?_⟩
 . rcases qD ho ex o with o|⟨u,hu,eu,ne⟩;.exact h t x ex o
   .have:=back t u x hu eu ne ex;omega
 . obtain⟨v',e',o⟩:=ho s hs;rw[e]at e';cases e';refine Iv (s:=s) (fun t ht=>?_) (by rw[HB e,o,Ql s hs v e];simp) (by rw[HB e,GK hn hs e e2];rfl) (v7 (dI e).1);unfold tgt at ht ⊢;split at ht
   . rename_i x ex;simp only[and_eq_true,decide_eq_true_eq]at ht ⊢;refine⟨?_,ht.2⟩;rcases qD ho ex ht.1 with o|⟨u,hu,eu,ne⟩;.exact o
     .have:=back t u x hu eu ne ex;omega
   .cases ht
abbrev O9:=List (Option Bool)
def kj:List Wy->O9->Int|v::ws,some f::es=>Fj v f+kj ws es|_::ws,none::es=>kj ws es|_,_=>0
def Eb(N:Nat):List aB->O9|[]=>replicate N none|s::c=>(Eb N c).set s.1 (some s.2)
theorem vh{N:Nat}:∀{c:List aB},(Eb N c).length=N|[]=>by simp[Eb]|s::c=>by rw[Eb,List.length_set,vh]
theorem Az{N j:Nat}:∀{c:List aB},j<N->j∉c.map (·.1)->(Eb N c)[j]?=some none|[],h,_=>by simp[Eb,h]|s::c,h,hn=>by rw[map_cons,mem_cons,not_or]at hn;rw[Eb,getElem?_set_ne (fun z=>hn.1 z.symm)];exact Az h hn.2
theorem vV{v:Wy}{f:Bool}:∀{j:Nat}{ws:List Wy}{es:O9},ws[j]?=some v->es[j]?=some none->kj ws (es.set j (some f))=kj ws es+Fj v f|_,[],_,e,_=>by simp at e|_,_::_,[],_,e=>by simp at e|0,u::ws,x::es,e1,e2=>by simp at e1 e2;subst e1 e2;rw[List.set_cons_zero,kj,kj];omega|j+1,u::ws,x::es,e1,e2=>by have ih:=vV (f:=f) (j:=j) (ws:=ws) (es:=es) (by simpa using e1) (by simpa using e2);rw[List.set_cons_succ];cases x with|none=>rw[kj,kj,ih]|some g=>rw[kj,kj,ih];omega
theorem sJ:∀{ws:List Wy}{n:Nat},kj ws (replicate n none)=0|[],n=>by unfold kj;rfl|v::ws,0=>rfl|v::ws,n+1=>by rw[replicate_succ,kj,sJ]
theorem uR{ws:List Wy}{b:Int}:∀{c:List aB}{a:Int},gU ws b c a->(c.map (·.1)).Nodup->kj ws (Eb ws.length c)=ye ws c|[],_,_,_=>by rw[Eb,sJ];simp[ye,bL]|s::c,a,⟨v,e,_,hp⟩,hn=>by rw[map_cons,nodup_cons]at hn;rw[Eb,vV e (Az (dI e).1 hn.1),uR hp hn.2,qL e];omega
def rY:Nat->List O9|0=>[[]]|n+1=>(rY n).map (none::·)++((rY n).map (some true::·)++(rY n).map (some false::·))
theorem qe:∀{n:Nat},(rY n).length=3^n|0=>rfl|n+1=>by rw[rY,length_append,length_append,length_map,length_map,length_map,qe,Nat.pow_succ];omega
theorem qd:∀{e:O9},e∈rY e.length|[]=>by simp[rY]|x::e=>by have ih:=qd (e:=e);rw[length_cons,rY,mem_append,mem_append];cases x with|none=>exact .inl (mem_map.mpr ⟨e,ih,rfl⟩)|some f=>cases f with|true=>exact .inr (.inl (mem_map.mpr ⟨e,ih,rfl⟩))|false=>exact .inr (.inr (mem_map.mpr ⟨e,ih,rfl⟩))
structure Lf(m:Int)(ws:List Wy)(k:Nat)(fs:List Int)(P:Int->Int)(lam:Int)(seen:List O9):Prop where
 pt:Oq ws fs P
 z:P 0=0
 e:P (m-1)=lam
 nd:seen.Nodup
 sl:∀e∈seen,e.length=ws.length/\kj ws e<=lam
 cnt:k+Hv ws fs P<=25*(seen.length+1)
theorem Lf.few{lam:Int}{k:Nat}{fs:List Int}{P:Int->Int}{seen:List O9}(h:Lf m ws k fs P lam seen)(hl:ws.length<=12):k<=13286050:=by
 have h1:=lY (l2:=rY ws.length) h.nd fun e he=>by rw[<-(h.sl e he).1];exact qd
 rw[qe]at h1;have h2:3^ws.length<=3^12:=Nat.pow_le_pow_right (by decide) hl;have h3:(3:Nat)^12=531441:=by decide
 have:=h.cnt;omega
theorem Lf.zero(hl:ws.length<=12)(hh:∀v∈ws,0<=v.h):Lf m ws 0 (replicate ws.length 0) (fun _=>0) 0 []:=by refine⟨fun s v e ho=>?_,rfl,rfl,.nil,by simp,by have:=Aw (fs:=replicate ws.length 0) (P:=fun _=>0) hl;simp;omega⟩;obtain⟨v',g,e1,e2,_,e4⟩:=pZ ho;rw[e]at e1;cases e1;have:=uv e2;subst this;have:=hh v (mem_of_getElem? e);cases hf:s.2<;>rw[hf]at e4<;>simp[nu,Fj,hsp]at e4 ⊢;omega
def J6(F:Int->Int)(D:Int):List En->Int->Int|[],p=>F p+D|e::es,p=>if e.1=p then 7*e.2.2.2+(e.2.1:Int)else J6 F D es p
theorem nW{F:Int->Int}{D p:Int}{l:Nat}{o:Option aB×Int}:∀{es:List En},(es.map (·.1)).Nodup->(p,l,o)∈es->J6 F D es p=7*o.2+l
 |[],_,h=>by cases h|e::es,hn,h=>by
   rw[map_cons,nodup_cons]at hn;rw[J6];rcases mem_cons.mp h with rfl|h;.rw[if_pos rfl]
   .rw[if_neg (fun z=>hn.1 (by rw[z];exact mem_map.mpr ⟨_,h,rfl⟩))];exact nW hn.2 h
theorem vg{F:Int->Int}{D p:Int}:∀{es:List En},(¬ ∃l o,(p,l,o)∈es)->J6 F D es p=F p+D|[],_=>rfl|e::es,h=>by rw[J6,if_neg (fun z=>h ⟨e.2.1,e.2.2,by rw[<-z];simp⟩)];exact vg fun⟨l,o,z⟩=>h ⟨l,o,mem_cons_of_mem _ z⟩
theorem Ge(F:Int->Int):∀(es:List En),∃D,∀p l o,(p,l,o)∈es->7*o.2+(l:Int)<=F p+D
 |[]=>⟨0,fun _ _ _ h=>by cases h⟩|e::es=>by
   obtain⟨D,h⟩:=Ge F es;refine⟨max D (7*e.2.2.2+(e.2.1:Int)-F e.1),fun p l o z=>?_⟩;rcases mem_cons.mp z with rfl|z;.simp only;omega
   .have:=h p l o z;omega
theorem iV.pts{fs:List Int}{P:Int->Int}{D:Int}(h:iV m ws fs es)(hm:HN m ws)(hF:Pt ws fs F)(hP:Oq ws fs P)(hD:∀p l o,(p,l,o)∈es->7*o.2+(l:Int)<=P p+D):Oq ws fs (J6 P D es):=fun s v e ho=>by
 by_cases c:∃l o,(frm v s.2,l,o)∈es;.obtain⟨l,o,c⟩:=c;obtain⟨l2,o2,c2,c3⟩:=h.cl l o s v e c ho;rw[nW h.cm.nd c,nW h.cm.nd c2];have:=h.l5 hm hF c2;unfold Le at c3;unfold Fj;omega
 . rw[vg c];have h1:=hP s v e ho;by_cases c2:∃l o,(too v s.2,l,o)∈es;.obtain⟨l2,o2,c2⟩:=c2;rw[nW h.cm.nd c2];have:=hD _ _ _ c2;omega
   .rw[vg c2];omega
theorem Lf.more{lam:Int}{k:Nat}{fs:List Int}{P:Int->Int}{seen:List O9}(h:Lf m ws k fs P lam seen)(hm:HN m ws)(hF:Pt ws fs F)(hes:iV m ws fs es)(hlo:(m-1,l,o)∈es)(hc:OJ ws fs es (m-1) l o.2 0 0 0 c)(hs:s∈c)(e:ws[s.1]?=some v)(e2:fs[s.1]?=some g):∃P' U6 JX,Lf m ws (k+1) (aug (nu v g s.2) fs c) P' U6 JX:=by
 have hH:bL ws c=o.2:=by have:=hc.hrs;omega
 have hL:c.length=l:=by have:=hc.len;omega
 have hW:ye ws c=7*o.2+l:=by unfold ye;rw[hH,hL]
 have hle:lam<=ye ws c:=by have:=zu h.pt hc.JW hc.jj;rw[h.e,h.z]at this;omega
 by_cases q:lam=ye ws c;.have hA:=h.pt.aug hc.JW hc.jj hc.nd (by rw[h.e,h.z];omega) hs e e2;exact⟨P,lam,seen,hA.1,h.z,h.e,h.nd,h.sl,by have:=h.cnt;omega⟩
 . obtain⟨D,hD⟩:=Ge P es;have hP:=hes.pts hm hF h.pt hD;have e0:J6 P D es 0=0:=by rw[nW hes.cm.nd hes.cm.z];rfl
   have e1:J6 P D es (m-1)=ye ws c:=by rw[nW hes.cm.nd hlo,hW]
   have hA:=hP.aug hc.JW hc.jj hc.nd (by rw[e0,e1];omega) hs e e2;have hv:=uR hc.JW hc.nd;refine⟨J6 P D es,ye ws c,seen++[Eb ws.length c],hA.1,e0,e1,?_,fun x hx=>?_,?_⟩;.rw[nodup_append];refine⟨h.nd,by simp,fun a ha b hb ab=>?_⟩;have:=(h.sl a ha).2;rw[ab,mem_singleton.mp hb,hv]at this;omega
   . rcases mem_append.mp hx with hx|hx;.have:=h.sl x hx;exact⟨this.1,by omega⟩
     .rw[mem_singleton.mp hx];exact⟨vh,by rw[hv];exact Int.le_refl _⟩
   .have h1:=Aw (fs:=fs) (P:=J6 P D es) hm.len;have h2:=h.cnt;rw[length_append,List.length_singleton];omega
def cD(x:List aB×Int):D:=.tup [.tup (x.1.map sD),.int x.2]
theorem Sh{ns:List Int}(h:ns≠[]):∃i,ns.min?=some i/\i∈ns/\∀j∈ns,i<=j:=by cases e:ns.min? with|none=>rw[List.min?_eq_none_iff]at e;exact absurd e h|some i=>have:=List.min?_eq_some_iff.mp e;exact⟨i,rfl,this.1,this.2⟩
def Zd:D->aB|.tup [.int j,.bl f]=>(j.toNat,f)|_=>(0,true)
@[simp]theorem FT{s:aB}:Zd (sD s)=s:=rfl
def O4(ws:List Wy)(fs:List Int)(s:aB):Int:=match ws[s.1]?,fs[s.1]?with|some v,some g=>nu v g s.2|_,_=>0
def rmD(ws:List Wy)(fs:List Int)(d:D):D:=.int (O4 ws fs (Zd d))
@[simp]theorem Yo{es:List En}{p:Int}:wK false (.int p) (jE es)=some (.val (.bl (oX (es.map en) p))):=by show some (R.val (.bl ((es.map (·.1)).contains p)))=some (R.val (.bl ((Em (es.map en)).contains p)));rw[yt]
def Chk(m:Int)(ws:List Wy)(x:List aB×Int):Prop:=x.1.length<=5/\(∀s∈x.1,s.1<ws.length)/\gU ws (m-1) x.1 0/\(x.1.map (·.1)).Nodup
structure Stg(m:Int)(ws:List Wy)(bU:List (List aB×Int))(x:List aB×Int):Prop where
 iv:∃F d,yg m ws bU (flow ws.length bU) F d
 ht:∃F,Pt ws (flow ws.length bU) F/\F 0=0/\F (m-1)=bL ws x.1
 op:rZ ws (flow ws.length bU) x.1
 rm:∀s∈x.1,∃v g,ws[s.1]?=some v/\(flow ws.length bU)[s.1]?=some g/\x.2<=nu v g s.2
theorem yg.ht{d:Int}{fs:List Int}(h:yg m ws cs fs F d)(hes:iV m ws fs es)(hlo:(m-1,l,o)∈es)(hc:OJ ws fs es (m-1) l o.2 0 0 0 c):(∃F,Pt ws fs F/\F 0=0/\F (m-1)=bL ws c)/\d<=bL ws c:=by
 obtain⟨D,hD⟩:=Ay F es;have hH:bL ws c=o.2:=by have:=hc.hrs;omega
 refine⟨⟨DY F D es,hes.pt h.pt hD,gQ hes.cm.nd hes.cm.z,by rw[gQ hes.cm.nd hlo,hH]⟩,?_⟩;have:=lA h.pt hc.JW hc.jj;rw[h.e,h.z]at this;omega
def DR(m:Int)(ws:List Wy)(cs:List (List aB×Int)):Prop:=cs.Pairwise (fun a b=>bL ws a.1<=bL ws b.1)/\∀bU x rest,cs=bU++x::rest->Stg m ws bU x
theorem DR.snoc{y:List aB×Int}(h:DR m ws cs)(h1:∀x∈cs,bL ws x.1<=bL ws y.1)(h2:Stg m ws cs y):DR m ws (cs++[y]):=by
 refine⟨?_,fun bU x rest e=>?_⟩;.rw[List.pairwise_append];exact⟨h.1,by simp,fun a ha b hb=>by rw[mem_singleton.mp hb];exact h1 a ha⟩
 . rcases List.eq_nil_or_concat rest with rfl|⟨r,z,rfl⟩;.obtain⟨e1,e2⟩:=List.append_inj' e rfl;cases e2;subst e1;exact h2
   . rw[List.concat_eq_append]at e;have e':cs++[y]=(bU++x::r)++[z]:=by rw[e];simp
     exact h.2 bU x r (List.append_inj' e' rfl).1
structure Ends(m:Int)(ws:List Wy)(cs:List (List aB×Int))(fs:List Int)(F:Int->Int)(d:Int)(es:List En):Prop where
 fl:fs=flow ws.length cs
 iv:yg m ws cs fs F d
 cm:iV m ws fs es
 no:¬ ∃l o,(m-1,l,o)∈es
 ck:∀x∈cs,Chk m ws x
 st:DR m ws cs
inductive FcE(a0 a1 a2 a3 a4 a5 a6:Sl)(ρ:List Sl):Prop where|mk(s:Sl)(q0:ρ=[a0,a1,a2,a3,a4,a5,a6,s])(q1:fr s=true)
inductive JE(m:Int)(ws:List Wy)(M:Nat)(ρ:List Sl):Prop where|mk(cs:List (List aB×Int))(fs:List Int)(es:List En)(F:Int->Int)(d:Int)(s5 s6:Sl)(q0:ρ=[.val false (aP m ws),.val false (.int (m-1)),.own false (fs.map D.int),.own false (cs.map cD),.val false (jE es),s5,s6])(q1:(fr s5=true/\fr s6=true))(q2:fs=flow ws.length cs)(q3:yg m ws cs fs F d)(q4:iV m ws fs es)(q5:(∃P lam seen,Lf m ws cs.length fs P lam seen))(q6:cs.length+M=13286050)(q7:(∀x∈cs,Chk m ws x))(q8:DR m ws cs)
theorem vY(hw:13286250<=w)(h:HN m ws)(hr:∀v∈ws,0<=v.r)(k:∀cs fs F d es,cs.length<=13286050->Ends m ws cs fs F d es->Q (.own (cs.map cD)) [.val false (aP m ws)]):(run Γ w (n+4) 8 [.val false (aP m ws)]).sat Q:=by
 have hn:=h.len;have m0:=h.m0;have m1:=h.m1;refine aK (d:=f8) rfl rfl (by decide) ?_;symm;simp[f8];refine cG (fun ρ=>ρ=[.val false (aP m ws),.val false (.int (m-1)),.own false ((flow ws.length []).map D.int),.aO,.aO,.aO,.aO]) ?_ ?_;.simp[flow];show _<=16777216;omega
 rintro _ rfl;have hh:∀v∈ws,0<=v.h:=fun v hv=>(h.ok v hv).2.2;obtain⟨b0,I0⟩:∃b,yg m ws [] (flow ws.length []) (F01 b) b:=yg.zero m0 hh hr;symm;simp;apply ak;simp;refine xK (by omega) I0.pt (.inr ⟨true,rfl⟩) h I0.fit.len fun es hes=>?_;simp;apply ak;simp;refine jA (JE m ws) ?_ (k:=w) (m:=13286050) (by omega) ⟨[],flow ws.length [],es,F01 b0,b0,.aO,.aO,rfl,⟨rfl,rfl⟩,rfl,I0,hes,⟨_,_,_,Lf.zero hn hh⟩,by simp,by simp,by simp,fun bU x rest e=>by cases bU<;>cases e⟩;rintro M _⟨cs,fs,es,F,d,s5,s6,rfl,⟨h5,h6⟩,hfs,hI,hes,⟨P,lam,seen,hS⟩,hM,hin,hst⟩;have hfl:=hI.fit.len;by_cases hq:∃l o,(m-1,l,o)∈es
 . obtain⟨l,o,hlo⟩:=hq;have kt:oX (es.map en) (m-1)=true:=yE.mpr ⟨l,o,hlo⟩;have hl5:=hes.l5 h hI.pt hlo;simp[kt];apply ak;simp;refine Dv (by omega) hes hl5 hlo fun c hc=>?_;simp[h5];apply ak;have hcl:c.length<=5:=by have:=hc.len;omega
   have N5:∀s∈c,∃v g,ws[s.1]?=some v/\fs[s.1]?=some g/\0<nu v g s.2:=fun s hs=>by obtain⟨v,e,o⟩:=hc.jj s hs;obtain⟨v',g,e1,e2,_,e4⟩:=pZ o;exact⟨v',g,e1,e2,e4⟩
   simp[show c.length<=16777216 by omega];refine bH (FcE _ _ _ _ _ _ _) (rmD ws fs) ⟨.aO,rfl,rfl⟩ ?_ ?_;.rintro d hd _⟨s',rfl,hs'⟩;obtain⟨s,hs,rfl⟩:=mem_map.mp hd;obtain⟨v,g,e1,e2,_⟩:=N5 s hs;simp[hs',sD];refine tW (.inr ⟨true,rfl⟩) e1 e2 ?_;simp;refine⟨?_,_,rfl,rfl⟩;show D.int (O4 ws fs (Zd (sD s)))=_;rw[FT];unfold O4;rw[e1,e2]
   rintro _⟨s',rfl,hs'⟩;have hmap:(c.map sD).map (rmD ws fs)=(c.map (O4 ws fs)).map D.int:=by rw[map_map,map_map];rfl
   rw[hmap];have afx:c≠[]:=by rintro rfl;have:(0:Int)=m-1:=hc.JW;omega
   obtain⟨x,hx1,hx2,hx3⟩:=Sh (ns:=c.map (O4 ws fs)) (by simpa using afx);obtain⟨s,hs,hsx⟩:=mem_map.mp hx2;obtain⟨v,g,e1,e2,e3⟩:=N5 s hs;have hxr:nu v g s.2=x:=by rw[<-hsx];unfold O4;rw[e1,e2]
   have hx0:0<x:=by omega
   have hle:∀s∈c,∃v g,ws[s.1]?=some v/\fs[s.1]?=some g/\x<=nu v g s.2:=fun u hu=>by obtain⟨v,g,e1,e2,_⟩:=N5 u hu;refine⟨v,g,e1,e2,?_⟩;have:=hx3 _ (mem_map.mpr ⟨u,hu,rfl⟩);unfold O4 at this;rw[e1,e2]at this;exact this
   have hlt:∀s∈c,s.1<ws.length:=fun u hu=>by obtain⟨v,g,e1,_⟩:=N5 u hu;exact(dI e1).1
   obtain⟨F',hI'⟩:=hI.more hes hlo hc hx0 hle;have hst':DR m ws (cs++[(c,x)]):=by obtain⟨g1,g2⟩:=hI.ht hes hlo hc;refine hst.snoc (fun y hy=>Int.le_trans (hI.ch y hy).1 g2) ?_;have hI0:=hI;rw[hfs]at hI0 g1 hle;exact⟨⟨_,_,hI0⟩,g1,by rw[<-hfs];exact hc.jj,hle⟩
   have hS':=hS.more h hI.pt hes hlo hc hs e1 e2;rw[hxr]at hS';obtain⟨P',U6,JX,hS'⟩:=hS';have hB':=hS'.few hn;generalize c.map (O4 ws fs)=ns at*;simp[iz,hx1,h6];apply ak;simp[show cs.length<16777216 by omega];apply ak;simp;refine vW (.inr ⟨true,rfl⟩) (fun u hu=>by rw[hfl];exact hlt u hu) ?_;simp;apply ak;have afy:aug x fs c=flow ws.length (cs++[(c,x)]):=by rw[p7,<-hfs]
   simp;refine xK (by omega) hI'.pt (.inr ⟨true,rfl⟩) h hI'.fit.len fun es' ZW=>?_;simp;refine⟨M-1,by omega,cs++[(c,x)],aug x fs c,es',F',o.2,.val false (.tup (c.map sD)),.val false (.int x),by simp[cD],⟨rfl,rfl⟩,afy,hI',ZW,⟨P',U6,JX,by rw[length_append];exact hS'⟩,by simp;omega,fun y hy=>?_,hst'⟩;rcases mem_append.mp hy with hy|hy;.exact hin y hy
   . obtain rfl:y=(c,x):=by simpa using hy
     exact⟨hcl,hlt,hc.JW,hc.nd⟩
 .have kt:oX (es.map en) (m-1)=false:=kin_no hq;simp[kt];apply ak;simp;exact k cs fs F d es (by omega) ⟨hfs,hI,hes,hq,hin,hst⟩
theorem Rv{c:Call}{x:Nat}{k d:P}:ev c (.WD x k d) ρ=match ρ[x]?with
 |some (.gH _)=>(cC (isVar k) (ev c k) ρ).bind fun kd ρ=>(cC (isVar d) (ev c d) ρ).bind fun dd ρ=>match ρ[x]?with|some (.gH m)=>lift ((m.get kd).bind fun o=>(iK dd).map fun v=>.val (.int (o.getD v))) ρ|_=>.stuck
 |_=>.stuck:=(rfl)
theorem M8{c:Call}{x:Nat}:ex c n (.JH x false) ρ=match ρ[x]?with|some .aO=>.ok .next (ρ.set x (.gH (.k [])))|_=>.stuck:=(rfl)
theorem Ks{c:Call}{x:Nat}{k e:P}:ex c n (.dput x k e) ρ=(ev c e ρ).bind fun r ρ=>match ρ[x]?with
 |some (.gH _)=>(cC (isVar k) (ev c k) ρ).bind fun kd ρ=>match ρ[x]?,r with
   |some (.gH m),.val (.int v)=>match m.put kd v with|some m'=>.ok .next (ρ.set x (.gH m'))|none=>.stuck
   |_,_=>.stuck
 |_=>.stuck:=(rfl)
@[simp]theorem Vf{x:Nat}{k d:P}:isVar (.WD x k d)=none:=rfl
@[simp]theorem XS{kvs:List (Int×Int)}:blt .JF [.dU (.k kvs)]=if kvs.length<=16777216/\kvs.Pairwise (fun a b=>a.1<b.1)then some (.own (kvs.map jG))else none:=rfl
theorem Tj:(Dc.get (.k kvs) (.int i))=some ((kvs.find? fun kv=>decide (kv.1=i)).map (·.2)):=rfl
theorem Xi{v:Int}(h:kvs.length<lim):Dc.put (.k kvs) (.int i) v=some (.k (putD kvs i v)):=by show(if _ then _ else _)=_;rw[if_pos h]
def hsD(ws:List Wy)(d:D):D:=.int (hst ws (Zd d))
theorem Bq{ws:List Wy}:∀{c:List aB},(c.map (hst ws)).sum=bL ws c|[]=>rfl|s::c=>by rw[map_cons,sum_cons,Bq,bL]
inductive F2s(a b:Sl)(ρ:List Sl):Prop where|mk(s:Sl)(q0:ρ=[a,b,s])(q1:fr s=true)
theorem zc(hc:∀s∈c,s.1<ws.length)(hl:c.length<=1000)(k:Q (.val (.int (bL ws c))) [.val false (aP m ws),.val false (.tup (c.map sD))]):(run Γ w (n+2) 3 [.val false (aP m ws),.val false (.tup (c.map sD))]).sat Q:=by
 refine aK (d:=f3) rfl rfl (by decide) ?_;symm;simp[f3,show c.length<=16777216 by omega];refine bH (F2s _ _) (hsD ws) ⟨.aO,rfl,rfl⟩ ?_ ?_
 . rintro d hd _⟨s',rfl,hs'⟩;obtain⟨s,hs,rfl⟩:=mem_map.mp hd;have hlt:=hc s hs;have e:ws[s.1]?=some ws[s.1]:=by simp[hlt]
   simp[hs',sD];refine sV e ?_;simp;refine⟨?_,_,rfl,rfl⟩;show D.int (hst ws (Zd (sD s)))=_;rw[FT,gW e]
 rintro _⟨s',rfl,hs'⟩;have hmap:(c.map sD).map (hsD ws)=(c.map (hst ws)).map D.int:=by rw[map_map,map_map];rfl
 rw[hmap];have hsum:=Bq (ws:=ws) (c:=c);generalize c.map (hst ws)=ns at*;simp[iz,hsum];exact k
def gv(kvs:List (Int×Int))(k:Int):Int:=((kvs.find? fun kv=>decide (kv.1=k)).map (·.2)).getD 0
def YW(W:Int->Int->Int):Prop:=∀k a b,W k (a+b)=W k a+W k b
def rO(W:Int->Int->Int):List (Int×Int)->Int|[]=>0|kv::r=>W kv.1 kv.2+rO W r
theorem Ae{W:Int->Int->Int}{b:List (Int×Int)}:∀{a:List (Int×Int)},rO W (a++b)=rO W a+rO W b|[]=>by simp[rO]|x::a=>by rw[cons_append,rO,rO,Ae];omega
theorem Bv{k v:Int}:∀{r:List (Int×Int)},k∉r.map (·.1)->(r.map fun kv=>if kv.1=k then(kv.1,v)else kv)=r|[],_=>rfl|x::r,h=>by rw[map_cons,mem_cons,not_or]at h;rw[map_cons,Bv h.2,if_neg (fun z=>h.1 z.symm)]
theorem Cu{W:Int->Int->Int}(hW:YW W){k x:Int}:∀{r:List (Int×Int)},(r.map (·.1)).Nodup->k∈r.map (·.1)->rO W (r.map fun kv=>if kv.1=k then(kv.1,gv r k+x)else kv)=rO W r+W k x
 |[],_,h=>by cases h|y::r,hn,h=>by
   rw[map_cons,nodup_cons]at hn;by_cases c:y.1=k
   . have hg:gv (y::r) k=y.2:=by unfold gv;rw[find?_cons];simp[c]
     rw[hg,map_cons,if_pos c,Bv (by rw[<-c];exact hn.1),rO,rO];show W y.1 (y.2+x)+_=_;rw[hW,c];omega
   . have hg:gv (y::r) k=gv r k:=by unfold gv;rw[find?_cons];simp[c]
     have hk:k∈r.map (·.1):=by
      rcases mem_cons.mp h with h|h;.exact absurd h.symm c
      .exact h
     rw[hg,map_cons,if_neg c,rO,rO,Cu hW hn.2 hk];omega
theorem QM(h:k∉r.map (·.1)):gv r k=0:=by
 unfold gv;rw[List.find?_eq_none.mpr];.rfl
 .intro x hx;simp;intro e;exact h (mem_map.mpr ⟨x,hx,e⟩)
theorem Zo(h:∀kv∈r,0<kv.2):0<=gv r k:=by unfold gv;cases e:r.find? fun kv=>decide (kv.1=k)with|none=>simp|some x=>have:=h x (List.mem_of_find?_eq_some e);simp;omega
theorem uC{x:Int}(hn:(r.map (·.1)).Nodup):((putD r k (gv r k+x)).map (·.1)).Nodup/\(putD r k (gv r k+x)).length<=r.length+1/\(∀kv∈putD r k (gv r k+x),kv=(k,gv r k+x)\/kv∈r)/\∀W,YW W->rO W (putD r k (gv r k+x))=rO W r+W k x:=by
 have hk:(r.any fun kv=>decide (kv.1=k))=true↔k∈r.map (·.1):=by rw[any_eq_true,mem_map];exact⟨fun⟨y,h1,h2⟩=>⟨y,h1,by simpa using h2⟩,fun⟨y,h1,h2⟩=>⟨y,h1,by simpa using h2⟩⟩
 unfold putD;by_cases c:k∈r.map (·.1)
 . rw[if_pos (hk.mpr c)];have e:(r.map fun kv=>if kv.1=k then(kv.1,gv r k+x)else kv).map (·.1)=r.map (·.1):=by rw[map_map];refine map_congr_left fun y _=>?_;show(if y.1=k then _ else _:Int×Int).1=y.1;split<;>rfl
   refine⟨by rw[e];exact hn,by simp,fun kv hkv=>?_,fun W hW=>Cu hW hn c⟩;obtain⟨y,hy,rfl⟩:=mem_map.mp hkv;by_cases z:y.1=k;.rw[if_pos z,z];exact .inl rfl
   .rw[if_neg z];exact .inr hy
 . rw[if_neg fun z=>c (hk.mp z),QM c,Int.zero_add];refine⟨?_,by simp,fun kv hkv=>?_,fun W _=>?_⟩;.rw[map_append,nodup_append];exact⟨hn,by simp,fun a ha b hb e=>c (by
      have:b=k:=by simpa using hb
      rw[<-this,<-e];exact ha)⟩
   . rcases mem_append.mp hkv with hj|hj;.exact .inr hj
     .exact .inl (mem_singleton.mp hj)
   .rw[Ae];simp[rO]
theorem RL{v:Int}(h:r.Pairwise (fun a b=>a.1<b.1))(hk:∀kv∈r,kv.1<=k):(putD r k v).Pairwise (fun a b=>a.1<b.1):=by
 unfold putD;split;.rw[List.pairwise_map];refine h.imp fun{a b}hab=>?_;split<;>split<;>exact hab
 .rename_i hn;rw[List.pairwise_append];refine⟨h,by simp,fun a ha b hb=>?_⟩;have h1:=hk a ha;have h2:a.1≠k:=fun z=>hn (any_eq_true.mpr ⟨a,ha,by simpa using z⟩);rw[mem_singleton.mp hb];show a.1<k;omega
def Up:D->Int×Int|.tup [.int a,.int b]=>(a,b)|_=>(0,0)
@[simp]theorem agr{a b:Int}:Up (.tup [.int a,.int b])=(a,b):=rfl
structure Px(ws:List Wy)(cs:List (List aB×Int))(kvs:List (Int×Int)):Prop where
 nd:(kvs.map (·.1)).Nodup
 len:kvs.length<=cs.length
 nn:∀kv∈kvs,1<=kv.1/\0<kv.2
 key:∀kv∈kvs,∃x∈cs,kv.1=bL ws x.1
 so:kvs.Pairwise (fun a b=>a.1<b.1)sm:∀W,YW W->rO W kvs=bQ (fun x=>W (bL ws x.1) x.2) cs
theorem Px.put(h:Px ws cs kvs){x:List aB×Int}(h0:1<=bL ws x.1)(h1:0<x.2)(hx:∀y∈cs,bL ws y.1<=bL ws x.1):Px ws (cs++[x]) (putD kvs (bL ws x.1) (gv kvs (bL ws x.1)+x.2)):=by
 obtain⟨p1,p2,p3,p4⟩:=uC (k:=bL ws x.1) (x:=x.2) h.nd;have hl:=h.len;refine⟨p1,by simp;omega,fun kv hkv=>?_,fun kv hkv=>?_,RL h.so fun kv hkv=>?_,fun W hW=>?_⟩
 . rcases p3 kv hkv with e|e;.have:=Zo (k:=bL ws x.1) fun kv hkv=>(h.nn kv hkv).2;rw[e];exact⟨h0,by show 0<_+_;omega⟩
   .exact h.nn kv e
 . rcases p3 kv hkv with e|e;.exact⟨x,by simp,by rw[e]⟩
   .obtain⟨y,hy,e⟩:=h.key kv e;exact⟨y,by simp[hy],e⟩
 .obtain⟨y,hy,e⟩:=h.key kv hkv;rw[e];exact hx y hy
 .rw[p4 W hW,h.sm W hW,jo]
theorem G8{ws:List Wy}{b:Int}(h0:∀v∈ws,0<=v.h)(hh:∀v∈ws,v.h<=1000000):∀{c:List aB}{a:Int},gU ws b c a->bL ws c<=1000000*(c.length:Int)
 |[],_,_=>by simp[bL]|s::c,a,⟨v,e,_,hp⟩=>by
   have h1:=G8 h0 hh hp;have h2:=hh v (mem_of_getElem? e);have h3:=h0 v (mem_of_getElem? e);have h4:hst ws s<=1000000:=by rw[gW e];unfold hsp;split<;>omega
   rw[bL,length_cons];omega
theorem Px.few(h:Px ws cs kvs)(hk:∀x∈cs,Chk m ws x)(hl:ws.length<=12):kvs.length<=531441:=by
 have h1:=lY (l2:=(rY ws.length).map fun e=>kj ws e/7) h.nd fun k hk'=>by obtain⟨kv,hkv,rfl⟩:=mem_map.mp hk';obtain⟨x,hx,e⟩:=h.key kv hkv;obtain⟨c1,c2,c3,c4⟩:=hk x hx;refine mem_map.mpr ⟨Eb ws.length x.1,by have:=qd (e:=Eb ws.length x.1);rwa[vh]at this,?_⟩;rw[uR c3 c4,e];unfold ye;omega
 rw[length_map,length_map,qe]at h1;have h2:3^ws.length<=3^12:=Nat.pow_le_pow_right (by decide) hl;have h3:(3:Nat)^12=531441:=by decide
 omega
inductive JBn(m:Int)(ws:List Wy)(cs:List (List aB×Int))(r:List D)(ρ:List Sl):Prop where|mk(bU us:List (List aB×Int))(kvs:List (Int×Int))(s2 s3 s4:Sl)(q0:ρ=[.val false (aP m ws),.gH (.k kvs),s2,s3,s4])(q1:A3 (fr s2=true) (fr s3=true) (fr s4=true))(q2:r=us.map cD)(q3:bU++us=cs)(q4:Px ws bU kvs)
theorem sS(hw:13286250<=w)(h:eN m ws)(k:∀cs fs F d es kvs,kvs.length<=531441->Ends m ws cs fs F d es->Px ws cs kvs->kvs.Pairwise (fun a b=>a.1<b.1)->(∀kv∈kvs,kv.1<=5000000)->Q (.own (kvs.map jG)) [.val false (aP m ws)]):(run Γ w (n+5) 10 [.val false (aP m ws)]).sat Q:=by
 refine aK (d:=f10) rfl rfl (by decide) ?_;symm;simp[f10,M8];apply ak;simp;refine vY hw (HN.of h) (fun v hv=>(h.ok v hv).r0) fun cs fs F d es hl hE=>?_;simp;refine cO (JBn m ws cs) ?_ ?_ ⟨[],cs,[],.aO,.aO,.aO,rfl,⟨rfl,rfl,rfl⟩,rfl,rfl,⟨by simp,by simp,by simp,by simp,by simp,fun W _=>rfl⟩⟩;.rintro d r _⟨bU,us,kvs,s2,s3,s4,rfl,⟨h2,h3,h4⟩,hr,hd,hb⟩;cases us with|nil=>cases hr|cons u us=>
     obtain⟨rfl,rfl⟩:d=cD u/\r=us.map cD:=by simpa using hr
     have hu:u∈cs:=by rw[<-hd];simp
     have hck:=hE.ck u hu;have hdl:bU.length<=cs.length:=by rw[<-hd];simp
     have hkl:=hb.len;have hd2:(bU++[u])++us=cs:=by rw[append_assoc];exact hd
     simp[cD,h2,h3];apply ak;simp;refine zc hck.2.1 (by have:=hck.1;omega) ?_;simp[h4];apply ak;simp[Ks,Rv,Tj];rw[Xi (by show _<16777216;omega)];simp;refine⟨bU++[u],us,_,_,_,_,rfl,⟨rfl,rfl,rfl⟩,rfl,hd2,hb.put ((hE.iv.nn fun v hv=>(h.ok v hv).h0).2 u hu) (hE.iv.ch u hu).2.1 fun y hy=>?_⟩;have hst:=hE.st.1;rw[<-hd,List.pairwise_append]at hst;exact hst.2.2 y hy u (by simp)
 . rintro _⟨bU,us,kvs,s2,s3,s4,rfl,⟨h2,h3,h4⟩,hr,hd,hb⟩;have:us=[]:=by cases us with|nil=>rfl|cons _ _=>cases hr
   subst this;rw[append_nil]at hd;subst hd;have hkl:=hb.len;simp;apply ak;simp[show kvs.length<=16777216 by omega,hb.so];refine k bU fs F d es kvs (hb.few hE.ck (HN.of h).len) hE hb hb.so fun kv hkv=>?_;obtain⟨x,hx,e⟩:=hb.key kv hkv;have h1:=G8 (fun v hv=>((HN.of h).ok v hv).2.2) (fun v hv=>(h.ok v hv).h1) (hE.ck x hx).2.2.1;have h2:=(hE.ck x hx).1;rw[e];omega
def vt(T k v:Int):Int:=if k<=T then v*(T-k+1)else 0
def gt(T k v:Int):Int:=if k<=T then v else 0
theorem QZ{T:Int}:YW (vt T):=fun k a b=>by
 unfold vt;split;.exact Int.add_mul ..
 .rfl
theorem Uq{T:Int}:YW (gt T):=fun k a b=>by unfold gt;split<;>rfl
def cT(m:Int)(ws:List Wy)(cs:List (List aB×Int)):Prop:=(∀v∈ws,1<=v.h)/\∃fs F d es,Ends m ws cs fs F d es
def Rt(ws:List Wy)(cs:List (List aB×Int))(T:Int):Int:=bQ (fun x=>gt T (bL ws x.1) x.2) cs
def QJ(cs:List (List aB×Int)):Int:=bQ (fun x=>x.2) cs
theorem gb.uniq{T v v':Int}(h:gb m ws T v)(h':gb m ws T v'):v=v':=by obtain⟨q,q0,q1,q2⟩:=h.ex;obtain⟨r,r0,r1,r2⟩:=h'.ex;have:=h.le r r0 r1;have:=h'.le q q0 q1;omega
theorem cT.least{m:Int}{ws:List Wy}{cs:List (List aB×Int)}(h:cT m ws cs){T:Int}(h0:0<=T):gb m ws T (val ws T cs):=by obtain⟨h1h,fs,F,d,es,hE⟩:=h;exact hE.iv.least hE.cm hE.no h0
theorem vZ{H K:List aB×Int->Int}:∀{cs:List (List aB×Int)},bQ (fun x=>H x-K x) cs=bQ H cs-bQ K cs|[]=>rfl|x::cs=>by rw[bQ,bQ,bQ,vZ];omega
theorem uT{H K:List aB×Int->Int}:∀{cs:List (List aB×Int)},(∀x∈cs,H x<=K x)->bQ H cs<=bQ K cs|[],_=>Int.le_refl _|x::cs,h=>by have h1:=h x (by simp);have h2:=uT (H:=H) (K:=K) (cs:=cs) fun y hy=>h y (by simp[hy]);rw[bQ,bQ];omega
theorem yZ{T:Int}:Rt ws cs T=val ws T cs-val ws (T-1) cs:=by
 unfold Rt val;rw[<-vZ];refine iJ fun x _=>?_;show gt T (bL ws x.1) x.2=vt T (bL ws x.1) x.2-vt (T-1) (bL ws x.1) x.2;unfold gt vt;by_cases c:bL ws x.1<=T-1;.rw[if_pos (by omega),if_pos (by omega),if_pos c,<-Int.mul_sub,show T-bL ws x.1+1-(T-1-bL ws x.1+1)=1 by omega,mul_one]
 . by_cases c2:bL ws x.1<=T;.rw[if_pos c2,if_pos c2,if_neg c,show T-bL ws x.1+1=1 by omega,mul_one];omega
   .rw[if_neg c2,if_neg c2,if_neg c];rfl
theorem cT.nn{m:Int}{ws:List Wy}{cs:List (List aB×Int)}(h:cT m ws cs):∀x∈cs,1<=bL ws x.1/\0<x.2:=by obtain⟨h1h,fs,F,d,es,hE⟩:=h;exact fun x hx=>⟨(hE.iv.nn h1h).2 x hx,(hE.iv.ch x hx).2.1⟩
theorem cT.cV(h:cT m ws cs){T:Int}(h0:T<=0):val ws T cs=0:=by
 have:val ws T cs=bQ (fun _=>0) cs:=iJ fun x hx=>by have:=(h.nn x hx).1;show vt T (bL ws x.1) x.2=0;unfold vt;rw[if_neg (by omega)]
 rw[this];clear this h;induction cs with|nil=>rfl|cons x cs ih=>rw[bQ,ih];rfl
theorem cT.val_eq{cs':List (List aB×Int)}(h:cT m ws cs)(h':cT m ws cs')(T:Int):val ws T cs=val ws T cs':=by
 by_cases c:0<=T;.exact(h.least c).uniq (h'.least c)
 .rw[h.cV (by omega),h'.cV (by omega)]
theorem cT.Om{cs':List (List aB×Int)}(h:cT m ws cs)(h':cT m ws cs')(T:Int):Rt ws cs T=Rt ws cs' T:=by rw[yZ,yZ,h.val_eq h',h.val_eq h']
theorem cT.mono(h:cT m ws cs){T U:Int}(hT:T<=U):Rt ws cs T<=Rt ws cs U:=uT fun x hx=>by have:=(h.nn x hx).2;unfold gt;split<;>split<;>omega
theorem cT.Zk(h:cT m ws cs){T:Int}:Rt ws cs T<=QJ cs:=uT fun x hx=>by have:=(h.nn x hx).2;unfold gt;split<;>omega
theorem cT.YT(h:cT m ws cs){T:Int}:0<=Rt ws cs T:=by
 have h1:=h.mono (T:=min T 0) (U:=T) (by omega);have:Rt ws cs (min T 0)=0:=by rw[yZ,h.cV (by omega),h.cV (by omega)];rfl
 omega
def moD(T:Int)(d:D):Option D:=if(Up d).1<=T then some (.int ((Up d).2*(T-(Up d).1+1)))else none
theorem Ik{T:Int}:∀(kvs:List (Int×Int)),∃ns:List Int,(kvs.map jG).filterMap (moD T)=ns.map D.int/\ns.sum=rO (vt T) kvs
 |[]=>⟨[],rfl,rfl⟩|kv::r=>by
   obtain⟨ns,h1,h2⟩:=Ik (T:=T) r;have e:moD T (jG kv)=if kv.1<=T then some (.int (kv.2*(T-kv.1+1)))else none:=rfl;rw[map_cons,filterMap_cons,h1,rO,<-h2,e];unfold vt;by_cases c:kv.1<=T;.rw[if_pos c,if_pos c];exact⟨_::ns,rfl,by rw[sum_cons]⟩
   .rw[if_neg c,if_neg c];exact⟨ns,rfl,by omega⟩
inductive F2t(a b:Sl)(ρ:List Sl):Prop where|mk(s:Sl)(t:Sl)(q0:ρ=[a,b,s,t])(q1:fr s=true)(q2:fr t=true)
theorem zG{T:Int}{s:Sl}(hs:s=.own false (kvs.map jG)\/s=.val false (.lst (kvs.map jG)))(hl:kvs.length<=16000000)(h0:∀kv∈kvs,1<=kv.1/\0<kv.2)(hT:T<=1000000000000000000)(k:Q (.val (.int (rO (vt T) kvs))) [s,.val false (.int T)]):(run Γ w (n+1) 21 [s,.val false (.int T)]).sat Q:=by refine aK (d:=f21) rfl rfl (by decide) ?_;symm;rcases hs with rfl|rfl;all_goals
  simp[f21,show kvs.length<=16777216 by omega];refine tZ (F2t _ _) (moD T) ⟨.aO,.aO,rfl,rfl,rfl⟩ ?_ ?_
  . rintro d hd _⟨s,t,rfl,hs,ht⟩;obtain⟨kv,hkv,rfl⟩:=mem_map.mp hd;have:=(h0 kv hkv).1;have e:moD T (jG kv)=if kv.1<=T then some (.int (kv.2*(T-kv.1+1)))else none:=rfl;by_cases c:kv.1<=T
    . rw[if_pos c]at e;have hm:n6 (.int kv.2) (.int (T-kv.1+1))=some (.val (.int (kv.2*(T-kv.1+1)))):=by show(if _ then _ else _)=_;rw[if_pos];right;omega
      rw[e];simp[hs,ht,jG,c,hm];exact⟨_,_,rfl,rfl,rfl⟩
    .rw[if_neg c]at e;rw[e];simp[hs,ht,jG,c];exact⟨_,_,rfl,rfl,rfl⟩
  .rintro _⟨s,t,rfl,hs,ht⟩;obtain⟨ns,h1,h2⟩:=Ik (T:=T) kvs;rw[h1];simp[iz,h2];exact k
theorem zp{T:Int}(hw:13286250<=w)(h:eN m ws)(hT:T<=1000000000000000000)(k:∀cs,cT m ws cs->Q (.val (.int (val ws T cs))) [.val false (aP m ws),.val false (.int T)]):(run Γ w (n+6) 22 [.val false (aP m ws),.val false (.int T)]).sat Q:=by refine aK (d:=f22) rfl rfl (by decide) ?_;symm;simp[f22];refine sS hw h fun cs fs F d es kvs hl hE hb _ _=>?_;simp;refine zG (.inl rfl) (by omega) hb.nn hT ?_;simp;rw[hb.sm _ QZ];exact k cs ⟨fun v hv=>(h.ok v hv).h0,fs,F,d,es,hE⟩
def byD(T:Int)(d:D):Option D:=if(Up d).1<=T then some d else none
def rW(T:Int)(kvs:List (Int×Int)):List (Int×Int):=kvs.filter fun kv=>decide (kv.1<=T)
theorem Gk{T:Int}:∀{kvs:List (Int×Int)},(kvs.map jG).filterMap (byD T)=(rW T kvs).map jG
 |[]=>rfl|kv::r=>by
   have e:byD T (jG kv)=if kv.1<=T then some (jG kv)else none:=rfl;rw[map_cons,filterMap_cons,Gk,e];unfold rW;rw[List.filter_cons];by_cases c:kv.1<=T;.rw[if_pos c,if_pos (by simpa using c)];rfl
   .rw[if_neg c,if_neg (by simpa using c)]
theorem BR{T:Int}:∀{kvs:List (Int×Int)},((rW T kvs).map (·.2)).sum=rO (gt T) kvs
 |[]=>rfl|kv::r=>by
   have ih:=BR (T:=T) (kvs:=r);unfold rW at ih ⊢;rw[List.filter_cons,rO];unfold gt at*;by_cases c:kv.1<=T;.rw[if_pos (by simpa using c),if_pos c,map_cons,sum_cons,ih]
   .rw[if_neg (by simpa using c),if_neg c,ih];omega
theorem xm{T:Int}(hw:13286250<=w)(h:eN m ws)(k:∀cs kvs,kvs.length<=531441->cT m ws cs->Px ws cs kvs->Q (.own ((rW T kvs).map jG)) [.val false (aP m ws),.val false (.int T)]):(run Γ w (n+6) 20 [.val false (aP m ws),.val false (.int T)]).sat Q:=by
 refine aK (d:=f20) rfl rfl (by decide) ?_;symm;simp[f20];refine sS hw h fun cs fs F d es kvs hl hE hb _ _=>?_;simp[show kvs.length<=16777216 by omega];refine tZ (F2s _ _) (byD T) ⟨.aO,rfl,rfl⟩ ?_ ?_
 . rintro d hd _⟨s,rfl,hs⟩;obtain⟨kv,hkv,rfl⟩:=mem_map.mp hd;have e:byD T (jG kv)=if kv.1<=T then some (jG kv)else none:=rfl;by_cases c:kv.1<=T;.rw[if_pos c]at e;rw[e];simp[hs,jG,c];exact⟨_,rfl,rfl⟩
   .rw[if_neg c]at e;rw[e];simp[hs,jG,c];exact⟨_,rfl,rfl⟩
 .rintro _⟨s,rfl,hs⟩;rw[Gk];simp;exact k cs kvs hl ⟨fun v hv=>(h.ok v hv).h0,fs,F,d,es,hE⟩ hb
def RX(d:D):D:=.int (Up d).2
theorem yG{T:Int}(hw:13286250<=w)(h:eN m ws)(k:∀cs,cT m ws cs->Q (.val (.int (Rt ws cs T))) [.val false (aP m ws),.val false (.int T)]):(run Γ w (n+7) 23 [.val false (aP m ws),.val false (.int T)]).sat Q:=by
 refine aK (d:=f23) rfl rfl (by decide) ?_;symm;simp[f23];refine xm hw h fun cs kvs hl hE hb=>?_;have hcl:(rW T kvs).length<=16777216:=by have:=List.length_filter_le (fun kv:Int×Int=>decide (kv.1<=T)) kvs;unfold rW;omega
 simp[hcl];refine bH (F2t _ _) RX ⟨.aO,.aO,rfl,rfl,rfl⟩ ?_ ?_;.rintro d hd _⟨s,t,rfl,hs,ht⟩;obtain⟨kv,hkv,rfl⟩:=mem_map.mp hd;simp[hs,ht,jG,RX,Up];exact⟨_,_,rfl,rfl,rfl⟩
 . rintro _⟨s,t,rfl,hs,ht⟩;have e:((rW T kvs).map jG).map RX=((rW T kvs).map (·.2)).map D.int:=by rw[map_map,map_map];rfl
   rw[e];have e2:=BR (T:=T) (kvs:=kvs);rw[hb.sm _ Uq]at e2;generalize(rW T kvs).map (·.2)=ns at*;simp[iz,e2];exact k cs hE
def lK:List (List aB×Int)->Int->List (List aB×Int)|[],_=>[]|x::r,q=>(x.1,min q x.2)::lK r (q-min q x.2)
def PJ:List (List aB×Int)->Int->Int|[],q=>q|x::r,q=>PJ r (q-min q x.2)
theorem Kc:∀{l:List (List aB×Int)}{q:Int},(lK l q).length=l.length|[],_=>rfl|x::r,q=>by rw[lK,length_cons,Kc,length_cons]
theorem Ca:∀{l:List (List aB×Int)}{q:Int}{y:List aB×Int},y∈lK l q->∃x∈l,y.1=x.1
 |[],_,_,h=>by cases h|x::r,q,y,h=>by
   rw[lK,mem_cons]at h;rcases h with rfl|h;.exact⟨x,by simp,rfl⟩
   .obtain⟨z,hz,e⟩:=Ca h;exact⟨z,by simp[hz],e⟩
theorem Oh:∀{l:List (List aB×Int)}{q:Int},(∀x∈l,0<x.2)->0<=q->q<=QJ l->PJ l q=0
 |[],q,_,h0,h1=>by have h1:q<=0:=h1;rw[PJ];omega|x::r,q,h,h0,h1=>by
   have hx:=h x (by simp);have h1:q<=x.2+QJ r:=h1;have hr:0<=QJ r:=by
    have:∀(l:List (List aB×Int)),(∀x∈l,0<x.2)->0<=QJ l:=fun l=>by induction l with|nil=>intro _;exact Int.le_refl _|cons y l ih=>intro hl;have h2:=ih fun z hz=>hl z (by simp[hz]);have h3:=hl y (by simp);show 0<=y.2+QJ l;omega
    exact this r fun z hz=>h z (by simp[hz])
   rw[PJ];exact Oh (fun y hy=>h y (by simp[hy])) (by omega) (by omega)
inductive JCu(a0 a1:Sl)(N:Nat)(out:List (List aB×Int))(z:Int)(r:List D)(ρ:List Sl):Prop where|mk(us bU:List (List aB×Int))(q:Int)(s4 s5 s6:Sl)(q0:ρ=[a0,a1,.own false (bU.map cD),.val false (.int q),s4,s5,s6])(q1:A3 (fr s4=true) (fr s5=true) (fr s6=true))(q2:r=us.map cD)(q3:bU++lK us q=out)(q4:PJ us q=z)(q5:bU.length+us.length=N)
theorem Dp{q:Int}(hl:cs.length<=16000000)(hz:PJ cs q=0)(k:Q (.own ((lK cs q).map cD)) [.own false (cs.map cD),.val false (.int q)]):(run Γ w (n+1) 9 [.own false (cs.map cD),.val false (.int q)]).sat Q:=by
 refine aK (d:=f9) rfl rfl (by decide) ?_;symm;simp[f9];apply ak;simp;apply ak;simp;refine cO (JCu _ _ cs.length (lK cs q) 0) ?_ ?_ ⟨cs,[],q,.aO,.aO,.aO,rfl,⟨rfl,rfl,rfl⟩,rfl,rfl,hz,by simp⟩;.rintro d r _⟨us,bU,q,s4,s5,s6,rfl,⟨h4,h5,h6⟩,hr,ho,hz,hN⟩;cases us with|nil=>cases hr|cons u us=>
     obtain⟨rfl,rfl⟩:d=cD u/\r=us.map cD:=by simpa using hr
     rw[lK]at ho;rw[PJ]at hz;rw[length_cons]at hN;simp[cD,h4,h5];apply ak;simp[h6];apply ak;simp[show bU.length<16777216 by omega];apply ak;simp;have em:(if u.2<q then u.2 else q)=min q u.2:=by split<;>omega
     rw[em];exact⟨us,bU++[(u.1,min q u.2)],q-min q u.2,_,_,_,by rw[map_append];rfl,⟨rfl,rfl,rfl⟩,rfl,by rw[append_assoc];exact ho,hz,by simp;omega⟩
 . rintro _⟨us,bU,q,s4,s5,s6,rfl,⟨h4,h5,h6⟩,hr,ho,hz,hN⟩;have:us=[]:=by cases us with|nil=>rfl|cons _ _=>cases hr
   subst this;rw[lK,append_nil]at ho;rw[PJ]at hz;subst ho;subst hz;simp;apply ak;simp;apply ak;simp;exact k
theorem Gg{fs:List Int}:∀{c:List aB},aug 0 fs c=fs
 |[]=>rfl|s::c=>by
   show aug 0 (jt 0 fs s) c=fs;have:jt 0 fs s=fs:=by
    unfold jt;have h0:sg 0 s.2=0:=by cases s.2<;>rfl
    rw[h0,Int.add_zero];refine List.ext_getElem? fun i=>?_;rw[getElem?_set];split
    . rename_i e;subst e;split;.rename_i h;simp[h]
      .rename_i h;simp at h;simp[h]
    .rfl
   rw[this,Gg]
structure K6(m:Int)(ws:List Wy)(ts:List (List aB×Int))(fs:List Int):Prop where
 fit:J1 ws fs
 ht:∃F,Pt ws fs F/\F 0=0
 dt:∀k q,dW (gap k q) ws fs=bQ (fun x=>x.2*(q (m-1)-q 0-k*bL ws x.1)) ts
theorem Iw:∀{l:List (List aB×Int)}{fs:List Int}{H:List aB×Int->Int},(∀x∈l,0<x.2)->(∀c,H (c,0)=0)->(lK l 0).foldl oK fs=fs/\bQ H (lK l 0)=0
 |[],_,_,_,_=>⟨rfl,rfl⟩|x::r,fs,H,h,hH=>by
   have hx:=h x (by simp);have ih:=Iw (l:=r) (fs:=fs) (fun y hy=>h y (by simp[hy])) hH;have e:lK (x::r) 0=(x.1,0)::lK r 0:=by rw[lK,show min 0 x.2=0 by omega,Int.sub_self]
   rw[e,foldl_cons,bQ,hH,ih.2];have e2:oK fs (x.1,0)=fs:=Gg;rw[e2];exact⟨ih.1,rfl⟩
theorem oA{H:List aB×Int->Int}{b:List (List aB×Int)}:∀{a:List (List aB×Int)},bQ H (a++b)=bQ H a+bQ H b|[]=>by simp[bQ]|x::a=>by rw[cons_append,bQ,bQ,oA];omega
theorem Ends.light{d:Int}{fs:List Int}(hE:Ends m ws cs fs F d es):∀(rest bU:List (List aB×Int))(q:Int),bU++rest=cs->0<=q->K6 m ws (bU++lK rest q) ((lK rest q).foldl oK (flow ws.length bU)):=by
 have pos:∀x∈cs,0<x.2:=fun x hx=>(hE.iv.ch x hx).2.1;have stage:∀bU rest,bU++rest=cs->K6 m ws bU (flow ws.length bU):=fun bU rest e=>by cases rest with|nil=>rw[append_nil]at e;subst e;rw[<-hE.fl];exact⟨hE.iv.fit,⟨F,hE.iv.pt,hE.iv.z⟩,hE.iv.dt⟩|cons x r=>have s:=hE.st.2 bU x r e.symm;obtain⟨F0,d0,iv⟩:=s.iv;exact⟨iv.fit,⟨F0,iv.pt,iv.z⟩,iv.dt⟩
 have zero:∀(rest ts:List (List aB×Int))(gs:List Int),(∀x∈rest,0<x.2)->K6 m ws ts gs->K6 m ws (ts++lK rest 0) ((lK rest 0).foldl oK gs):=fun rest ts gs hp h=>by have hz:=fun H hH=>Iw (l:=rest) (fs:=gs) (H:=H) hp hH;rw[(hz (fun _=>0) fun _=>rfl).1];refine⟨h.fit,h.ht,fun k q=>?_⟩;rw[oA,(hz (fun x=>x.2*(q (m-1)-q 0-k*bL ws x.1)) fun c=>by simp).2,h.dt,Int.add_zero]
 intro rest;induction rest with|nil=>intro bU q e _;rw[lK,append_nil];exact stage bU [] e|cons x r ih=>
   intro bU q e q0;have hx:=pos x (by rw[<-e];simp);have hr:∀y∈r,0<y.2:=fun y hy=>pos y (by rw[<-e];simp[hy]);rw[lK];by_cases c:x.2<=q
   . have e1:min q x.2=x.2:=by omega
     rw[e1];have:=ih (bU++[x]) (q-x.2) (by rw[append_assoc];exact e) (by omega);rw[append_assoc,p7]at this;exact this
   . have e1:min q x.2=q:=by omega
     rw[e1,Int.sub_self,foldl_cons];have s:=hE.st.2 bU x r e.symm;have ck:=hE.ck x (by rw[<-e];simp);obtain⟨F1,p1,p2,p3⟩:=s.ht;obtain⟨F0,d0,iv⟩:=s.iv;have g:K6 m ws (bU++[(x.1,q)]) (oK (flow ws.length bU) (x.1,q)):=by
      show K6 m ws _ (aug q (flow ws.length bU) x.1);refine⟨?_,⟨F1,p1.aug ck.2.2.1 s.op (by rw[p2,p3];omega),p2⟩,fun k qq=>?_⟩
      . by_cases z:q=0;.subst z;rw[Gg];exact iv.fit
        .refine iv.fit.aug ck.2.2.2 (by omega) fun u hu=>?_;obtain⟨v,g,h1,h2,h3⟩:=s.rm u hu;exact⟨v,g,h1,h2,by omega⟩
      .rw[pF iv.fit.len ck.2.2.1,iv.dt,jo]
     have:=zero r _ _ hr g;rw[append_assoc]at this;exact this
theorem Gx{ws:List Wy}{T:Int}:∀{cs:List (List aB×Int)},cs.Pairwise (fun a b=>bL ws a.1<=bL ws b.1)->(∀x∈cs,0<x.2)->0<=Rt ws cs T/\bQ (fun x=>x.2*(T+1-bL ws x.1)) (lK cs (Rt ws cs T))=val ws T cs
 |[],_,_=>⟨Int.le_refl _,rfl⟩|x::r,hp,h=>by
   have hx:=h x (by simp);have hp:=List.pairwise_cons.mp hp;obtain⟨i0,ih⟩:=Gx (T:=T) hp.2 fun y hy=>h y (by simp[hy]);have e1:Rt ws (x::r) T=gt T (bL ws x.1) x.2+Rt ws r T:=rfl;have e2:val ws T (x::r)=vt T (bL ws x.1) x.2+val ws T r:=rfl;by_cases c:bL ws x.1<=T
   . have g1:gt T (bL ws x.1) x.2=x.2:=by unfold gt;rw[if_pos c]
     have g2:vt T (bL ws x.1) x.2=x.2*(T+1-bL ws x.1):=by unfold vt;rw[if_pos c];congr 1;omega
     rw[e1,e2,g1,g2,lK,show min (x.2+Rt ws r T) x.2=x.2 by omega,show x.2+Rt ws r T-x.2=Rt ws r T by omega,bQ,ih];exact⟨by omega,rfl⟩
   . have z:∀y∈x::r,¬ bL ws y.1<=T:=fun y hy=>by
      rcases mem_cons.mp hy with rfl|hy;.exact c
      .have:=hp.1 y hy;omega
     have r0:Rt ws (x::r) T=0:=by
      have:Rt ws (x::r) T=bQ (fun _=>0) (x::r):=iJ fun y hy=>by unfold gt;rw[if_neg (z y hy)]
      rw[this];have:∀l:List (List aB×Int),bQ (fun _=>0) l=0:=fun l=>by induction l with|nil=>rfl|cons y l ih=>rw[bQ,ih];rfl
      exact this _
     have v0:val ws T (x::r)=0:=by
      have:val ws T (x::r)=bQ (fun _=>0) (x::r):=iJ fun y hy=>by unfold Uh;rw[if_neg (z y hy)]
      rw[this];have:∀l:List (List aB×Int),bQ (fun _=>0) l=0:=fun l=>by induction l with|nil=>rfl|cons y l ih=>rw[bQ,ih];rfl
      exact this _
     rw[r0,v0];exact⟨Int.le_refl _,(Iw (fs:=[]) h fun c=>by simp).2⟩
def late(ws:List Wy):Int:=nJ (fun v=>v.h) ws
theorem BL{ws:List Wy}{b:Int}{t:aB}{v:Wy}(e:ws[t.1]?=some v):∀{c:List aB}{a:Int},gU ws b c a->t∈c->frm v t.2∈qG ws c a/\too v t.2∈qG ws c a
 |[],_,_,h=>by cases h|s::c,a,⟨v',e',hf,hp⟩,h=>by
   have et:qC ws s=too v' s.2:=by unfold qC;rw[e']
   rw[qG,et];rcases mem_cons.mp h with rfl|h;.rw[e]at e';cases e';refine⟨by rw[hf];simp,mem_cons_of_mem _ ?_⟩;cases c<;>simp[qG]
   .have:=BL e hp h;exact⟨mem_cons_of_mem _ this.1,mem_cons_of_mem _ this.2⟩
theorem Ar{ws:List Wy}{b:Int}:∀{c:List aB}{a:Int},gU ws b c a->(qG ws c a).Nodup->(c.map (·.1)).Nodup
 |[],_,_,_=>by simp|s::c,a,⟨v,e,hf,hp⟩,hn=>by
   have et:qC ws s=too v s.2:=by unfold qC;rw[e]
   rw[qG,et,nodup_cons]at hn;rw[map_cons,nodup_cons];refine⟨fun hm=>?_,Ar hp hn.2⟩;obtain⟨t,ht,ets⟩:=mem_map.mp hm;have h2:=BL (t:=t) (by rw[ets];exact e) hp ht;by_cases z:t.2=s.2;.rw[z,hf]at h2;exact hn.1 h2.1
   .rw[(j6 z).2,hf]at h2;exact hn.1 h2.2
theorem Ux(hh:∀v∈ws,0<=v.h)(hp:gU ws b c a)(hn:(c.map (·.1)).Nodup):0<=late ws+bL ws c:=by
 have h1:=pF (k:=1) (x:=1) (q:=fun _=>0) (fs:=replicate ws.length 0) (by simp) hp;rw[qU]at h1;have h2:dW (gap 1 fun _=>0) ws (aug 1 (replicate ws.length 0) c)<=late ws:=by
  refine yo (by rw[lV];simp) fun j v g e1 e2=>?_;have hv:=hh v (mem_of_getElem? e1);have hg:g=0\/g=1\/g=-1:=by
   by_cases z:j∈c.map (·.1);.obtain⟨s,hs,rfl⟩:=mem_map.mp z;have hl:s.1<ws.length:=(dI e1).1;rw[uP hn hs (g:=0) (by simp[hl])]at e2;cases e2;cases s.2<;>simp[sg]
   .rw[lR z]at e2;exact .inl (uv e2)
  unfold gap;rcases hg with rfl|rfl|rfl<;>simp<;>omega
 omega
def uf(m:Int)(L:Int)(i:Nat):List (Int×Int):=(0,0)::(List.range i).map fun(j:Nat)=>(1+(j:Int),L)
theorem j4{L:Int}{i:Nat}:(a,b)∈uf m L i↔(a=0/\b=0)\/(1<=a/\a<1+(i:Int)/\b=L):=by
 unfold uf;rw[mem_cons,mem_map];constructor
 . rintro(h|⟨j,hj,h⟩);.cases h;exact .inl ⟨rfl,rfl⟩
   .cases h;have:=mem_range.mp hj;exact .inr ⟨by omega,by omega,rfl⟩
 . rintro(⟨rfl,rfl⟩|⟨h1,h2,rfl⟩);.exact .inl rfl
   .exact .inr ⟨(a-1).toNat,mem_range.mpr (by omega),by rw[Prod.mk.injEq];exact⟨by omega,rfl⟩⟩
theorem GD{L:Int}{i:Nat}:uf m L (i+1)=uf m L i++[(1+(i:Int),L)]:=by unfold uf;rw[List.range_succ,map_append];rfl
theorem Uu{L:Int}{i:Nat}:((uf m L i).map (·.1)).Nodup:=by
 unfold uf;rw[map_cons,map_map,nodup_cons];refine⟨fun h=>?_,?_⟩;.obtain⟨j,_,e⟩:=mem_map.mp h;have e:1+(j:Int)=0:=e;omega
 .refine List.Pairwise.map _ (fun a b(h:a≠b)=>?_) List.nodup_range;show 1+(a:Int)≠1+(b:Int);omega
def bD(p:Int×Int):Int×D:=(p.1,.int p.2)
theorem O7{bs:List (Int×Int)}:Em (bs.map bD)=bs.map (·.1):=by simp[Em,bD,Function.comp_def]
theorem W3{bs:List (Int×Int)}:dsV (bs.map bD)=bs.map fun p=>.int p.2:=by simp[dsV,bD,Function.comp_def]
theorem Xr{bs:List (Int×Int)}(h:p∉bs.map (·.1)):oX (bs.map bD) p=false:=by cases e:oX (bs.map bD) p with|false=>rfl|true=>have e:(Em (bs.map bD)).contains p=true:=e;rw[O7,contains_iff_mem]at e;exact absurd e h
theorem Ng{c:Call}{x:Nat}{e:Int}:ex c n (.JM x k e) ρ=match ρ[x]?with|some .aO=>.ok .next (ρ.set x (.cF [(k,.int e)]))|some (.cF _)=>.ok .next (ρ.set x (.cF [(k,.int e)]))|some (.val false _)=>.ok .next (ρ.set x (.cF [(k,.int e)]))|_=>.stuck:=(rfl)
def hD4(d:D):D:=match d with|.tup [_,_,_,h]=>h|_=>d
@[simp]theorem agd{a b c h:D}:hD4 (.tup [a,b,c,h])=h:=rfl
theorem xM:∀{ws:List Wy},(ws.map Wy.h).sum=late ws|[]=>rfl|v::ws=>by rw[map_cons,sum_cons,xM];rfl
inductive F6c(a0 a1 a2 a3 a4 a5:Sl)(ρ:List Sl):Prop where|mk(s:Sl)(q0:ρ=[a0,a1,a2,a3,a4,a5,s])(q1:fr s=true)
inductive JFc(m:Int)(ws:List Wy)(a0 a1:Sl)(i:Nat)(ρ:List Sl):Prop where|mk(s4:Sl)(q0:ρ=[a0,a1,.val false (.int (late ws)),.cF ((uf m (late ws) i).map bD),s4,.aO])(q1:fr s4=true)
def Vk(es:List En)(p:Int):Int:=DY (fun _=>0) 0 es p
def lbD(es:List En):D->D|.int p=>.int (Vk es p)|d=>d
theorem zm{s:Sl}{fs:List Int}(hw:100<=w)(hs:Ue s fs)(h:HN m ws)(hl:fs.length=ws.length)(hF:Pt ws fs F)(k:∀es,xG m ws fs (uf m (late ws) (m-1).toNat) es->Q (.own (((List.range m.toNat).map fun(i:Nat)=>Vk es (i:Int)).map D.int)) [.val false (aP m ws),s]):(run Γ w (n+4) 18 [.val false (aP m ws),s]).sat Q:=by
 have m0:=h.m0;have m1:=h.m1;have hn:=h.len;have hh:∀v∈ws,0<=v.h:=fun v hv=>(h.ok v hv).2.2;have hlt:0<=late ws:=by
  have:∀(l:List Wy),(∀v∈l,0<=v.h)->0<=late l:=fun l=>by induction l with|nil=>intro _;exact Int.le_refl _|cons v l ih=>intro hl;have h1:=hl v (by simp);have h2:=ih fun u hu=>hl u (by simp[hu]);show 0<=v.h+late l;omega
  exact this ws hh
 refine aK (d:=f18) rfl rfl (by decide) ?_;refine cG (fun ρ=>ρ=[.val false (aP m ws),s,.val false (.int (late ws)),.aO,.aO,.aO]) ?_ ?_
 . simp[f18,show ws.length<=16777216 by omega];refine bH (F6c _ _ _ _ _ _) hD4 ⟨.aO,rfl,rfl⟩ ?_ ?_;.rintro d hd _⟨s',rfl,hs'⟩;obtain⟨v,_,rfl⟩:=mem_map.mp hd;simp[hs',Wy.d];exact⟨_,rfl,rfl⟩
   . rintro _⟨s',rfl,hs'⟩;have e:(ws.map Wy.d).map hD4=(ws.map Wy.h).map D.int:=by rw[map_map,map_map];rfl
     rw[e];have e2:=xM (ws:=ws);generalize ws.map Wy.h=ns at*;simp[iz,e2]
 rintro _ rfl;symm;simp[Ng];refine cG (JFc m ws (.val false (aP m ws)) s (m-1).toNat) ?_ ?_
 . simp[show m<=1000000000 by omega,show-1000000000<=m by omega];rw[show m.toNat-1=(m-1).toNat by omega];refine gq (JFc m ws (.val false (aP m ws)) s) ?_ ?_ ⟨.aO,rfl,rfl⟩
   . rintro i _ hi⟨s4,rfl,h4⟩;have hk:oX ((uf m (late ws) i).map bD) (1+(i:Int))=false:=Xr fun z=>by obtain⟨⟨a,b⟩,hab,e⟩:=mem_map.mp z;have e:a=1+(i:Int):=e;rcases j4.mp hab with⟨h1,_⟩|⟨h1,h2,_⟩<;>omega
     have hp:fM ((uf m (late ws) i).map bD) (1+(i:Int)) (.int (late ws))=(uf m (late ws) (i+1)).map bD:=by rw[mF hk,GD,map_append];rfl
     simp[h4];apply ak;simp[hp];refine⟨fun _=>⟨_,rfl,rfl⟩,?_⟩;have:(uf m (late ws) i).length=i+1:=by simp[uf]
     show _<16777216;omega
   .rintro _⟨s4,rfl,h4⟩;exact⟨rfl,_,rfl,h4⟩
 rintro _⟨s4,rfl,h4⟩;have hb:∀a b,(a,b)∈uf m (late ws) (m-1).toNat->0<=a/\a<m:=fun a b hab=>by rcases j4.mp hab with⟨h1,_⟩|⟨h1,h2,_⟩<;>omega
 have hZ:∀a b c,(a,b)∈uf m (late ws) (m-1).toNat->gU ws 0 c a->rZ ws fs c->0<=b+bL ws c:=fun a b c hab hp ho=>by
  obtain⟨c',q1,q2,q3,q4,q5⟩:=short h hF (hb a b hab) _ (dh) hp ho;have h1:=Ux hh q1 (Ar q1 q5);have h2:bL ws c'<=bL ws c:=by unfold Le at q4;omega
  rcases j4.mp hab with⟨rfl,rfl⟩|⟨_,_,rfl⟩;.have:=lA hF hp ho;omega
  .omega
 have ZX:∀{n:Nat}{Q:R->List Sl->Prop}(s':Sl),Ue s' fs->(∀es,xG m ws fs (uf m (late ws) (m-1).toNat) es->Q (.val (jE es)) [.val false (aP m ws),s',vM (uf m (late ws) (m-1).toNat)])->(run Γ w (n+3) 5 [.val false (aP m ws),s',vM (uf m (late ws) (m-1).toNat)]).sat Q:=fun s' hs' k'=>tU hw hF hb (j4.mpr (.inl ⟨rfl,rfl⟩)) Uu hZ hs' h hl k';generalize hbs:uf m (late ws) (m-1).toNat=bs at*;symm;rcases hs with rfl|⟨b,rfl⟩;all_goals
  simp[O7,W3];refine ZX _ (by first|exact .inl rfl|exact .inr ⟨_,rfl⟩) fun es hes=>?_;simp;apply ak;simp[show m<=1000000000 by omega,show-1000000000<=m by omega];refine⟨fun _=>?_,by show _<=16777216;omega⟩;refine bH (F6c _ _ _ _ _ _) (lbD es) ⟨.aO,rfl,rfl⟩ ?_ ?_
  . rintro d hd _⟨s',rfl,hs'⟩;obtain⟨i,hi,rfl⟩:=mem_map.mp hd;have hi:=mem_range.mp hi;obtain⟨l,o,z,_⟩:∃l o,((i:Int),l,o)∈es/\True:=by
     have hmem:∃b,((i:Int),b)∈bs:=by
      rw[<-hbs];by_cases c:i=0;.exact⟨0,j4.mpr (.inl ⟨by omega,rfl⟩)⟩
      .exact⟨late ws,j4.mpr (.inr ⟨by omega,by omega,rfl⟩)⟩
     obtain⟨b,hb'⟩:=hmem;obtain⟨l,o,z,_⟩:=hes.bg _ _ hb';exact⟨l,o,z,trivial⟩
    have gz:=wg hes.cm.nd z;have afz:Vk es (i:Int)=o.2:=gQ hes.cm.nd z;simp[hs',jE,gz,yl,lbD,afz];exact⟨_,rfl,rfl⟩
  . rintro _⟨s',rfl,hs'⟩;have e:((List.range m.toNat).map fun(k:Nat)=>D.int (k:Int)).map (lbD es)=((List.range m.toNat).map fun(i:Nat)=>Vk es (i:Int)).map D.int:=by rw[map_map,map_map];rfl
    rw[e];have hk:=k es hes;generalize((List.range m.toNat).map fun(i:Nat)=>Vk es (i:Int))=ns at*;simp;exact hk
def lgD(fs:List Int)(cl:List Int):D:=.tup [.lst (fs.map D.int),.lst (cl.map D.int)]
inductive JLi(m q:Int)(ws:List Wy)(ts:List (List aB×Int))(r:List D)(ρ:List Sl):Prop where|mk(bU us:List (List aB×Int))(s3 s4:Sl)(q0:ρ=[.val false (aP m ws),.val false (.int q),.own false ((flow ws.length bU).map D.int),s3,s4])(q1:(fr s3=true/\fr s4=true))(q2:r=us.map cD)(q3:bU++us=ts)
theorem Iz:(flow N cs).length=N:=by
 have:∀(cs:List (List aB×Int))(fs:List Int),(cs.foldl oK fs).length=fs.length:=fun cs=>by induction cs with|nil=>intro fs;rfl|cons x cs ih=>intro fs;rw[foldl_cons,ih];exact lV
 unfold flow;rw[this];simp
theorem Eu{q:Int}(hw:13286250<=w)(h:eN m ws)(q0:0<=q)(q1:∀cs,cT m ws cs->q<=QJ cs)(k:∀cs fs cl,cT m ws cs->cs.Pairwise (fun a b=>bL ws a.1<=bL ws b.1)->K6 m ws (lK cs q) fs->Q (.val (lgD fs cl)) [.val false (aP m ws),.val false (.int q)]):(run Γ w (n+5) 19 [.val false (aP m ws),.val false (.int q)]).sat Q:=by
 have hn:=h.len;have hN:=HN.of h;refine aK (d:=f19) rfl rfl (by decide) ?_;refine cG (fun ρ=>ρ=[.val false (aP m ws),.val false (.int q),.own false ((flow ws.length []).map D.int),.aO,.aO]) ?_ ?_;.simp[f19,flow];show _<=16777216;omega
 rintro _ rfl;symm;simp;refine vY hw hN (fun v hv=>(h.ok v hv).r0) fun cs fs F d es hcs hE=>?_;have hEd:cT m ws cs:=⟨fun v hv=>(h.ok v hv).h0,fs,F,d,es,hE⟩;have hL:=hE.light cs [] q rfl q0;have hfl:(lK cs q).foldl oK (flow ws.length [])=flow ws.length (lK cs q):=rfl;rw[hfl,nil_append]at hL;have hck:=hE.ck;simp;refine Dp (by omega) (Oh (fun x hx=>(hE.iv.ch x hx).2.1) q0 (q1 cs hEd)) ?_;simp;refine cO (JLi m q ws (lK cs q)) ?_ ?_ ⟨[],lK cs q,.aO,.aO,rfl,⟨rfl,rfl⟩,rfl,rfl⟩;.rintro d r _⟨bU,us,s3,s4,rfl,⟨h3,h4⟩,hr,hd⟩;cases us with|nil=>cases hr|cons u us=>
     obtain⟨rfl,rfl⟩:d=cD u/\r=us.map cD:=by simpa using hr
     have hd2:(bU++[u])++us=lK cs q:=by rw[append_assoc];exact hd
     obtain⟨x,hx,e⟩:=Ca (l:=cs) (q:=q) (y:=u) (by rw[<-hd];simp);simp[cD,h3,h4];apply ak;simp;refine vW (.inr ⟨true,rfl⟩) (fun s hs=>by rw[Iz];exact(hck x hx).2.1 s (by rw[<-e];exact hs)) ?_;simp;exact⟨bU++[u],us,_,_,by rw[p7],⟨rfl,rfl⟩,rfl,hd2⟩
 . rintro _⟨bU,us,s3,s4,rfl,⟨h3,h4⟩,hr,hd⟩;have:us=[]:=by cases us with|nil=>rfl|cons _ _=>cases hr
   subst this;rw[append_nil]at hd;subst hd;obtain⟨F1,p1,p2⟩:=hL.ht;simp;apply ak;simp;refine zm (by omega) (.inl rfl) hN hL.fit.len p1 fun es' ZW=>?_;have hk:=fun cl=>k cs (flow ws.length (lK cs q)) cl hEd hE.st.1 hL;generalize((List.range m.toNat).map fun(i:Nat)=>Vk es' (i:Int))=ns at*;simp;exact hk ns
theorem vm{T:Int}(hw:13286250<=w)(h:eN m ws)(k:∀cs fs ts,cT m ws cs->K6 m ws ts fs->bQ (fun x=>x.2*(T+1-bL ws x.1)) ts=val ws T cs->Q (.val (.lst (fs.map D.int))) [.val false (aP m ws),.val false (.int T)]):(run Γ w (n+8) 24 [.val false (aP m ws),.val false (.int T)]).sat Q:=by refine aK (d:=f24) rfl rfl (by decide) ?_;symm;simp[f24];refine yG hw h fun cs hE=>?_;simp;refine Eu hw h hE.YT (fun cs' hE'=>by rw[hE.Om hE'];exact hE'.Zk) fun cs' fs cl hE' hp hL=>?_;rw[hE.Om hE']at hL;simp[lgD];exact k cs' fs _ hE' hL (Gx hp fun x hx=>(hE'.nn x hx).2).2
@[simp]theorem Ym{c:Call}{i n:Nat}{a elt:P}{is:List Nat}{one:Bool}{test:Option P}{ρ:List Sl}:ev c (.kZ i a n is one test elt) ρ=(Gv i (ev c a) ρ).bind fun du ρ₁=>if du.1.length<=lim then(oE c is one test elt du.1 (ρ₁++replicate n .aO)).bind fun xs ρ₂=>.ok (.own xs) (aW du.2 (some i) (ρ₂.take ρ₁.length))else .stuck:=(rfl)
@[simp]theorem aaC{i:Nat}{f:Ev}{ρ:List Sl}:Gv i f ρ=(f ρ).bind fun r ρb=>(lift (items r.d) ρb).bind fun es ρb=>match ρb[i]?with|some (.val _ d)=>(lift (items d) ρb).bind fun ds ρb=>.ok ((es.zip ds).map fun p=>D.tup [p.1,p.2],ρb) ρb|some (.own _ ds)=>.ok ((es.zip ds).map fun p=>D.tup [p.1,p.2],ρb) (ρb.set i (.lent ds))|some (.lent ds)=>.ok ((es.zip ds).map fun p=>D.tup [p.1,p.2],ρb) ρb|_=>.stuck:=rfl
def jX:List Wy->List Int->List Wy|w::ws,l::ls=>{w with r:=l}::jX ws ls|_,_=>[]
theorem eZ:∀{ws:List Wy}{ls:List Int},ls.length=ws.length->(jX ws ls).length=ws.length|[],[],_=>rfl|[],_::_,h=>by simp at h|_::_,[],h=>by simp at h|w::ws,l::ls,h=>by simp[jX,eZ (ws:=ws) (ls:=ls) (by simpa using h)]
theorem yO:∀{ws:List Wy}{ls:List Int}{k:Nat}{u:Wy},(jX ws ls)[k]?=some u->∃v l,ws[k]?=some v/\ls[k]?=some l/\u={v with r:=l}|[],_,k,u,h=>by simp[jX]at h|_::_,[],k,u,h=>by simp[jX]at h|w::ws,l::ls,0,u,h=>by simp[jX]at h;exact⟨w,l,rfl,rfl,h.symm⟩|w::ws,l::ls,k+1,u,h=>by simp only[jX,getElem?_cons_succ]at h ⊢;exact yO h
theorem zJ:∀{ws:List Wy}{ls:List Int}{k:Nat}{v:Wy}{l:Int},ws[k]?=some v->ls[k]?=some l->(jX ws ls)[k]?=some {v with r:=l}|[],_,k,v,l,h,_=>by simp at h|_::_,[],k,v,l,_,h=>by simp at h|w::ws,x::ls,0,v,l,h,h'=>by simp at h h';subst h h';simp[jX]|w::ws,x::ls,k+1,v,l,h,h'=>by simp only[jX,getElem?_cons_succ]at h h' ⊢;exact zJ h h'
def zrD:D->D|.tup [.tup [a,b,_,e],l]=>.tup [a,b,l,e]|d=>d
@[simp]theorem agq{a b c e l:D}:zrD (.tup [.tup [a,b,c,e],l])=.tup [a,b,l,e]:=rfl
theorem FZ:∀{ws:List Wy}{ls:List Int},((((ws.map Wy.d).zip (ls.map D.int)).map fun p=>D.tup [p.1,p.2]).map zrD)=(jX ws ls).map Wy.d|[],_=>by simp[jX]|_::_,[]=>by simp[jX]|w::ws,l::ls=>by have:=FZ (ws:=ws) (ls:=ls);simp only[map_cons,List.zip_cons_cons,jX,this];rfl
def LX(s:Sl)(ls:List Int):Prop:=(∃b,s=.own b (ls.map D.int))\/(∃b,s=.val b (.lst (ls.map D.int)))\/(∃b,s=.val b (.tup (ls.map D.int)))
inductive FY(a b c:Sl)(ρ:List Sl):Prop where|mk(s:Sl)(t:Sl)(q0:ρ=[a,b,c,s,t])(q1:fr s=true)(q2:fr t=true)
theorem Eg{s1:Sl}(hn:ws.length<=12)(hs:LX s1 ls)(k:Q (.val (aP m (jX ws ls))) [.val false (aP m ws),s1]):(run Γ w (n+1) 17 [.val false (aP m ws),s1]).sat Q:=by refine aK (d:=f17) rfl rfl (by decide) ?_;symm;rcases hs with⟨b,rfl⟩|⟨b,rfl⟩|⟨b,rfl⟩;all_goals
  simp[f17];refine⟨fun _=>?_,by show _<=16777216;omega⟩;refine bH (FY _ _ _) zrD ⟨.aO,.aO,rfl,rfl,rfl⟩ ?_ ?_;.rintro d hd _⟨s,t,rfl,hs,ht⟩;obtain⟨⟨x,y⟩,hx,rfl⟩:=mem_map.mp hd;obtain⟨v,_,rfl⟩:=mem_map.mp (of_mem_zip hx).1;simp[hs,ht,Wy.d];exact⟨_,_,rfl,rfl,rfl⟩
  rintro _⟨s,t,rfl,hs,ht⟩;have e:=FZ (ws:=ws) (ls:=ls);generalize(((ws.map Wy.d).zip (ls.map D.int)).map fun p=>D.tup [p.1,p.2]).map zrD=X at*;subst e;simp;apply ak;simp;exact k
def ji:List Wy->List Int->List Wy|v::ws,l::ls=>⟨v.t,v.s,l,v.h⟩::ji ws ls|_,_=>[]
theorem iU:∀{ws:List Wy}{ls:List Int},ls.length=ws.length->(ji ws ls).length=ws.length|[],[],_=>rfl|[],_::_,h=>by simp at h|_::_,[],h=>by simp at h|w::ws,l::ls,h=>by simp[ji,iU (ws:=ws) (ls:=ls) (by simpa using h)]
theorem zf:∀{ws:List Wy}{ls:List Int}{k:Nat}{u:Wy},(ji ws ls)[k]?=some u->∃v l,ws[k]?=some v/\ls[k]?=some l/\u=⟨v.t,v.s,l,v.h⟩|[],_,k,u,h=>by simp[ji]at h|_::_,[],k,u,h=>by simp[ji]at h|w::ws,l::ls,0,u,h=>by simp[ji]at h;exact⟨w,l,rfl,rfl,h.symm⟩|w::ws,l::ls,k+1,u,h=>by simp only[ji,getElem?_cons_succ]at h ⊢;exact zf h
def ztD:D->D|.tup [.tup [a,b,_,e],l]=>.tup [b,a,l,e]|d=>d
@[simp]theorem afS{a b c e l:D}:ztD (.tup [.tup [a,b,c,e],l])=.tup [b,a,l,e]:=rfl
theorem Gu:∀{ws:List Wy}{ls:List Int},((((ws.map Wy.d).zip (ls.map D.int)).map fun p=>D.tup [p.1,p.2]).map ztD)=(ji ws ls).map Wy.d|[],_=>by simp[ji]|_::_,[]=>by simp[ji]|w::ws,l::ls=>by have:=Gu (ws:=ws) (ls:=ls);simp only[map_cons,List.zip_cons_cons,ji,this];rfl
def je(ws:List Wy)(fo ba:List Int):List Wy:=jX ws fo++ji ws ba
inductive F4l(a b c d:Sl)(ρ:List Sl):Prop where|mk(s:Sl)(t:Sl)(q0:ρ=[a,b,c,d,s,t])(q1:fr s=true)(q2:fr t=true)
theorem tL{s1 s2:Sl}(hn:ws.length<=12)(hl1:fo.length=ws.length)(hl2:ba.length=ws.length)(h1:LX s1 fo)(h2:LX s2 ba)(k:Q (.val (aP m (je ws fo ba))) [.val false (aP m ws),s1,s2]):(run Γ w (n+2) 26 [.val false (aP m ws),s1,s2]).sat Q:=by
 refine aK (d:=f26) rfl rfl (by decide) ?_;refine cG (fun ρ=>ρ=[.val false (aP m ws),s1,s2,.own false ((ji ws ba).map Wy.d)]) ?_ ?_;.rcases h2 with⟨b,rfl⟩|⟨b,rfl⟩|⟨b,rfl⟩;all_goals
    simp[f26];refine⟨fun _=>?_,by show _<=16777216;omega⟩;refine bH (F4l _ _ _ _) ztD ⟨.aO,.aO,rfl,rfl,rfl⟩ ?_ ?_;.rintro d hd _⟨s,t,rfl,hs,ht⟩;obtain⟨⟨x,y⟩,hx,rfl⟩:=mem_map.mp hd;obtain⟨v,_,rfl⟩:=mem_map.mp (of_mem_zip hx).1;simp[hs,ht,Wy.d];exact⟨_,_,rfl,rfl,rfl⟩
    rintro _⟨s,t,rfl,hs,ht⟩;have e:=Gu (ws:=ws) (ls:=ba);generalize(((ws.map Wy.d).zip (ba.map D.int)).map fun p=>D.tup [p.1,p.2]).map ztD=X at*;subst e;simp
 rintro _ rfl;have hrl:=eZ (ws:=ws) hl1;have htl:=iU (ws:=ws) hl2;symm;have hh1:=h1;rcases h1 with⟨b,rfl⟩|⟨b,rfl⟩|⟨b,rfl⟩;all_goals
  simp;refine Eg hn (by first|exact .inl ⟨_,rfl⟩|exact .inr (.inl ⟨_,rfl⟩)|exact .inr (.inr ⟨_,rfl⟩)) ?_;simp;refine⟨by show _<=16777216;omega,?_⟩;have e:D.tup [.int m,.tup ((jX ws fo).map Wy.d++(ji ws ba).map Wy.d)]=aP m (je ws fo ba):=by unfold aP je;rw[map_append]
  rw[e];exact k
theorem Be(h6:ws.length<=6)(k:Q (.val .non) [.val false (aP m ws)]):(run Γ w (n+1) 25 [.val false (aP m ws)]).sat Q:=by refine aK (d:=f25) rfl rfl (by decide) ?_;symm;simp[f25,show ¬(6:Int)<(ws.length:Int)by omega,show ¬ 6<ws.length by omega];exact k
def IW(d:D):D:=match d with|.tup [_,_,r,_]=>r|_=>d
@[simp]theorem aes{a b c e:D}:IW (.tup [a,b,c,e])=c:=rfl
inductive F2o(a b:Sl)(ρ:List Sl):Prop where|mk(s:Sl)(q0:ρ=[a,b,s])(q1:fr s=true)
def cA(ws:List Wy):List Int:=ws.map Wy.r
theorem sU(h6:ws.length<=6)(k:Q (.val (aP m (je ws (cA ws) (cA ws)))) [.val false (aP m ws)]):(run Γ w (n+3) 27 [.val false (aP m ws)]).sat Q:=by
 refine aK (d:=f27) rfl rfl (by decide) ?_;symm;simp[f27];refine Be h6 ?_;simp;apply ak;simp[show ws.length<=16777216 by omega];refine bH (F2o _ _) IW ⟨.aO,rfl,rfl⟩ ?_ ?_;.rintro d hd _⟨s,rfl,hs⟩;obtain⟨v,_,rfl⟩:=mem_map.mp hd;simp[hs,Wy.d];exact⟨_,rfl,rfl⟩
 rintro _⟨s,rfl,hs⟩;have e:(ws.map Wy.d).map IW=(cA ws).map D.int:=by unfold cA;rw[map_map,map_map];rfl
 rw[e];have hl:(cA ws).length=ws.length:=length_map _;generalize cA ws=ls at*;simp;apply ak;simp;refine tL (by omega) hl hl (.inr (.inl ⟨_,rfl⟩)) (.inr (.inl ⟨_,rfl⟩)) ?_;simp;exact k
def fits(ws:List Wy)(ls:List Int):Prop:=ls.length=ws.length/\∀(j:Nat)v l,ws[j]?=some v->ls[j]?=some l->0<=l/\l<=v.r
theorem qx{H:Wy->Int}{b:List Wy}:∀{a:List Wy},nJ H (a++b)=nJ H a+nJ H b|[]=>by simp[nJ]|v::a=>by rw[cons_append,nJ,nJ,qx];omega
def Lb(v:Wy):Int×Int×Int:=(v.s,v.t,v.h)
theorem Al{k:Int}{q:Int->Int}:∀{ws us:List Wy}{fs:List Int},ws.map Lb=us.map Lb->dW (gap k q) ws fs=dW (gap k q) us fs
 |[],[],_,_=>rfl|[],_::_,_,h=>by simp at h|_::_,[],_,h=>by simp at h|v::ws,u::us,[],_=>rfl|v::ws,u::us,f::fs,h=>by
   rw[map_cons,map_cons,List.cons.injEq]at h;have e:gap k q v=gap k q u:=by have h1:=h.1;unfold Lb at h1;rw[Prod.mk.injEq,Prod.mk.injEq]at h1;unfold gap;rw[h1.1,h1.2.1,h1.2.2]
   rw[dW,dW,e,Al h.2]
theorem vp:∀{ws:List Wy}{ls:List Int},ls.length=ws.length->(jX ws ls).map Lb=ws.map Lb|[],[],_=>rfl|[],_::_,h=>by simp at h|_::_,[],h=>by simp at h|w::ws,l::ls,h=>by rw[jX,map_cons,map_cons,vp (by simpa using h)];rfl
theorem Bc:∀{ws:List Wy}{as bs:List Int},as.length=ws.length->bs.length=ws.length->(ji ws as).map Lb=(ji ws bs).map Lb|[],[],[],_,_=>rfl|[],_::_,_,h,_=>by simp at h|[],[],_::_,_,h=>by simp at h|_::_,[],_,h,_=>by simp at h|_::_,_::_,[],_,h=>by simp at h|w::ws,a::as,b::bs,h,h'=>by rw[ji,ji,map_cons,map_cons,Bc (as:=as) (bs:=bs) (by simpa using h) (by simpa using h')];rfl
theorem My{a b c d:List Int}(h1:a.length=ws.length)(h2:b.length=ws.length)(h3:c.length=ws.length)(h4:d.length=ws.length):(je ws a b).map Lb=(je ws c d).map Lb:=by unfold je;rw[map_append,map_append,vp h1,vp h3,Bc h2 h4]
def wH(as bs:List Int):Prop:=∀(j:Nat)a b,as[j]?=some a->bs[j]?=some b->a<=b
theorem wH.tail{as bs:List Int}(h:wH (a::as) (b::bs)):wH as bs:=fun j x y e1 e2=>h (j+1) x y (by simpa using e1) (by simpa using e2)
theorem xr{q:Int->Int}:∀{ws:List Wy}{as bs:List Int},as.length=ws.length->bs.length=ws.length->wH as bs->gF q (jX ws as)<=gF q (jX ws bs)|[],[],[],_,_,_=>Int.le_refl _|[],_::_,_,h,_,_=>by simp at h|[],[],_::_,_,h,_=>by simp at h|_::_,[],_,h,_,_=>by simp at h|_::_,_::_,[],_,h,_=>by simp at h|w::ws,a::as,b::bs,h,h',hl=>by have ih:=xr (q:=q) (ws:=ws) (as:=as) (bs:=bs) (by simpa using h) (by simpa using h') hl.tail;have h0:=hl 0 a b rfl rfl;have h1:jB q {w with r:=a}<=jB q {w with r:=b}:=Int.mul_le_mul_of_nonneg_right h0 (by omega);show jB q {w with r:=a}+gF q (jX ws as)<=jB q {w with r:=b}+gF q (jX ws bs);omega
theorem xR{q:Int->Int}:∀{ws:List Wy}{as bs:List Int},as.length=ws.length->bs.length=ws.length->wH as bs->gF q (ji ws as)<=gF q (ji ws bs)|[],[],[],_,_,_=>Int.le_refl _|[],_::_,_,h,_,_=>by simp at h|[],[],_::_,_,h,_=>by simp at h|_::_,[],_,h,_,_=>by simp at h|_::_,_::_,[],_,h,_=>by simp at h|w::ws,a::as,b::bs,h,h',hl=>by have ih:=xR (q:=q) (ws:=ws) (as:=as) (bs:=bs) (by simpa using h) (by simpa using h') hl.tail;have h0:=hl 0 a b rfl rfl;have h1:jB q ⟨w.t,w.s,a,w.h⟩<=jB q ⟨w.t,w.s,b,w.h⟩:=Int.mul_le_mul_of_nonneg_right h0 (by omega);show jB q ⟨w.t,w.s,a,w.h⟩+gF q (ji ws as)<=jB q ⟨w.t,w.s,b,w.h⟩+gF q (ji ws bs);omega
theorem vC(h:eN m ws)(h6:ws.length<=6)(h1:fo.length=ws.length)(h2:ba.length=ws.length)(hf:∀l∈fo,0<=l/\l<=1000000000)(hb:∀l∈ba,0<=l/\l<=1000000000):eN m (je ws fo ba):=by
 refine⟨h.m0,h.m1,by unfold je;rw[length_append,eZ h1,iU h2];omega,fun u hu=>?_⟩;rcases mem_append.mp hu with hu|hu;.obtain⟨k,hk,e⟩:=getElem_of_mem hu;obtain⟨v,l,e1,e2,rfl⟩:=yO (ws:=ws) (ls:=fo) (k:=k) (u:=u) (by rw[getElem?_eq_getElem hk,e]);have vo:=h.ok v (mem_of_getElem? e1);have:=hf l (mem_of_getElem? e2);exact⟨vo.s0,vo.s1,vo.t0,vo.t1,vo.ne,this.1,this.2,vo.h0,vo.h1⟩
 .obtain⟨k,hk,e⟩:=getElem_of_mem hu;obtain⟨v,l,e1,e2,rfl⟩:=zf (ws:=ws) (ls:=ba) (k:=k) (u:=u) (by rw[getElem?_eq_getElem hk,e]);have vo:=h.ok v (mem_of_getElem? e1);have:=hb l (mem_of_getElem? e2);exact⟨vo.t0,vo.t1,vo.s0,vo.s1,fun e=>vo.ne e.symm,this.1,this.2,vo.h0,vo.h1⟩
theorem uA:∀{ws:List Wy}{ls:List Int}{k:Nat}{v:Wy}{l:Int},ws[k]?=some v->ls[k]?=some l->(ji ws ls)[k]?=some ⟨v.t,v.s,l,v.h⟩|[],_,k,v,l,h,_=>by simp at h|_::_,[],k,v,l,_,h=>by simp at h|w::ws,x::ls,0,v,l,h,h'=>by simp at h h';subst h h';simp[ji]|w::ws,x::ls,k+1,v,l,h,h'=>by simp only[ji,getElem?_cons_succ]at h h' ⊢;exact uA h h'
structure Fth(ws:List Wy)(F fo:List Int):Prop where
 len:fo.length=ws.length
 at_:∀(j:Nat)v g,ws[j]?=some v->F[ws.length+j]?=some g->fo[j]?=some (v.r-g)
theorem j5(e:ws[j]?=some v):(cA ws)[j]?=some v.r:=by unfold cA;rw[getElem?_map,e];rfl
theorem Ej{T v1 v2:Int}{F:List Int}{ts:List (List aB×Int)}(h:eN m ws)(hL:K6 m (je ws (cA ws) (cA ws)) ts F)(hs:bQ (fun x=>x.2*(T+1-bL (je ws (cA ws) (cA ws)) x.1)) ts=v2)(l2:gb m (je ws (cA ws) (cA ws)) T v2)(hf:Fth ws F fo)(hb:ba.length=ws.length)(hba:∀(j:Nat)v g,ws[j]?=some v->F[ws.length+j]?=some g->ba[j]?=some g)(l1:gb m (je ws fo ba) T v1):v1=v2:=by
 have hR:(cA ws).length=ws.length:=length_map _;have hrl:=eZ (ws:=ws) hR;have ZZ:=eZ (ws:=ws) hf.len;have hFl:F.length=ws.length+ws.length:=by rw[hL.fit.len];unfold je;rw[length_append,hrl,iU hR]
 have Ff:∀j,j<ws.length+ws.length->∃g,F[j]?=some g:=fun j hj=>⟨F[j]'(by omega),by simp[show j<F.length by omega]⟩;have U7:∀(j:Nat)v,ws[j]?=some v->(je ws (cA ws) (cA ws))[j]?=some {v with r:=v.r}:=fun j v e=>by have hj:=(dI e).1;unfold je;rw[getElem?_append_left (by omega)];exact zJ e (j5 e)
 have U8:∀(j:Nat)v,ws[j]?=some v->(je ws (cA ws) (cA ws))[ws.length+j]?=some ⟨v.t,v.s,v.r,v.h⟩:=fun j v e=>by unfold je;rw[getElem?_append_right (by omega),hrl,show ws.length+j-ws.length=j by omega];exact uA e (j5 e)
 have both:∀(j:Nat)v g g',ws[j]?=some v->F[j]?=some g->F[ws.length+j]?=some g'->(0<=g/\g<=v.r)/\(0<=g'/\g'<=v.r)/\¬(0<g/\0<g'):=fun j v g g' e e1 e2=>by have q1:=hL.fit.ok _ _ _ (U7 j v e) e1;have q2:=hL.fit.ok _ _ _ (U8 j v e) e2;refine⟨q1,q2,fun⟨p1,p2⟩=>?_⟩;obtain⟨G,hG,_⟩:=hL.ht;have o1:=hG (j,false) _ (U7 j v e) (by rw[jq (s:=(j,false)) (U7 j v e) e1];simp[nu];exact p1);have o2:=hG (ws.length+j,false) _ (U8 j v e) (by rw[jq (s:=(ws.length+j,false)) (U8 j v e) e2];simp[nu];exact p2);have hh:=(h.ok v (mem_of_getElem? e)).h0;simp[too,frm,hsp]at o1 o2;omega
 have fit:J1 (je ws fo ba) F:=by
  refine⟨by rw[hFl];unfold je;rw[length_append,ZZ,iU hb],fun j u g e1 e2=>?_⟩;by_cases c:j<ws.length;.unfold je at e1;rw[getElem?_append_left (by omega)]at e1;obtain⟨v,l,a1,a2,rfl⟩:=yO e1;obtain⟨g',a3⟩:=Ff (ws.length+j) (by omega);have b1:=both j v g g' a1 e2 a3;have b2:=hf.at_ j v g' a1 a3;rw[a2]at b2;cases b2;show 0<=g/\g<=v.r-g';omega
  . unfold je at e1;rw[getElem?_append_right (by omega),ZZ]at e1;obtain⟨v,l,a1,a2,rfl⟩:=zf e1;have ej:ws.length+(j-ws.length)=j:=by omega
    have a3:=hba _ v g a1 (by rw[ej];exact e2);rw[a2]at a3;cases a3;obtain⟨g0,a4⟩:=Ff (j-ws.length) (by have:=(dI a1).1;omega);have b1:=both _ v g0 g a1 a4 (by rw[ej];exact e2);exact⟨b1.2.1.1,Int.le_refl _⟩
 refine Int.le_antisymm ?_ ?_
 . obtain⟨q,q0,q1,q2⟩:=l2.ex;have:=l1.le q q0 q1;have d1:gF q (jX ws fo)<=gF q (jX ws (cA ws)):=xr hf.len hR fun j a b e1 e2=>by
    have hj:=(dI e1).1;rw[hf.len]at hj;have ev:ws[j]?=some ws[j]:=by simp[hj]
    obtain⟨g',a3⟩:=Ff (ws.length+j) (by omega);obtain⟨g,a4⟩:=Ff j (by omega);have b1:=both j _ g g' ev a4 a3;rw[hf.at_ j _ g' ev a3]at e1;rw[j5 ev]at e2;cases e1;cases e2;omega
   have d2:gF q (ji ws ba)<=gF q (ji ws (cA ws)):=xR hb hR fun j a b e1 e2=>by
    have hj:=(dI e1).1;rw[hb]at hj;have ev:ws[j]?=some ws[j]:=by simp[hj]
    obtain⟨g',a3⟩:=Ff (ws.length+j) (by omega);obtain⟨g,a4⟩:=Ff j (by omega);have b1:=both j _ g g' ev a4 a3;rw[hba j _ g' ev a3]at e1;rw[j5 ev]at e2;cases e1;cases e2;omega
   have e1:gF q (je ws fo ba)=gF q (jX ws fo)+gF q (ji ws ba):=qx;have e2:gF q (je ws (cA ws) (cA ws))=gF q (jX ws (cA ws))+gF q (ji ws (cA ws)):=qx;omega
 . obtain⟨q,q0,q1,q2⟩:=l1.ex;rw[<-q2,<-hs];have d:=hL.dt 1 q;rw[q0,q1]at d;have d2:bQ (fun x=>x.2*(T+1-bL (je ws (cA ws) (cA ws)) x.1)) ts=dW (gap 1 q) (je ws (cA ws) (cA ws)) F:=by rw[d];refine iJ fun x _=>?_;congr 1;omega
   rw[d2,Al (My hR hR hf.len hb)];exact u0 fit
@[simp]theorem O6{i n:Nat}{a elt:P}{is:List Nat}{one:Bool}{test:Option P}:isVar (.kZ i a n is one test elt)=none:=rfl
theorem aen{ds:List D}{b:Ys}{ps:List P}:J8 (.lst ds) (part (.blt b ps) (.int i)) (part (.con .non) .non)=some (.own (cut ds (some i) none)):=rfl
theorem Gw{F:List Int}(h:n<=F.length):cut F (some (n:Int)) none=F.drop n:=by unfold cut dF;simp;rw[Nat.min_eq_left h,List.take_of_length_le (by simp)]
inductive F3w(a b:Sl)(ρ:List Sl):Prop where|mk(s:Sl)(t:Sl)(q0:ρ=[a,b,s,t])(q1:fr s=true)(q2:fr t=true)
theorem aeP:∀{fs:List Int},((fs.map D.int).zip (ws.map Wy.d)).map (fun p=>D.tup [p.1,p.2])=(fs.zip ws).map fun p=>D.tup [.int p.1,p.2.d]:=by intro fs;rw[List.zip_map,map_map];rfl
theorem Hx{bs:List Bool}:(bs.map D.bl).mapM yN=some bs:=by induction bs with|nil=>rfl|cons b bs ih=>simp[ih]
theorem wA(hn:ws.length<=12)(hf:fits ws ls)(k:Q (.val (.bl true)) [.val false (aP m ws),.val false (.tup (ls.map D.int))]):(run Γ w (n+1) 16 [.val false (aP m ws),.val false (.tup (ls.map D.int))]).sat Q:=by
 have hl:=hf.1;refine aK (d:=f16) rfl rfl (by decide) ?_;symm;simp[f16];rw[aeP];refine⟨fun _=>?_,by show _<=16777216;omega⟩;refine bH (F3w _ _) (fun _=>.bl true) ⟨.aO,.aO,rfl,rfl,rfl⟩ ?_ ?_
 . rintro d hd _⟨s,t,rfl,hs,ht⟩;obtain⟨⟨l,v⟩,hp,rfl⟩:=mem_map.mp hd;obtain⟨j,hj,e⟩:=getElem_of_mem hp;have e1:ls[j]?=some l:=by
    have hj':j<ls.length:=by rw[List.length_zip]at hj;omega
    rw[List.getElem_zip]at e;simp[hj'];exact congrArg Prod.fst e
   have e2:ws[j]?=some v:=by
    have hj':j<ws.length:=by rw[List.length_zip]at hj;omega
    rw[List.getElem_zip]at e;simp[hj'];exact congrArg Prod.snd e
   have:=hf.2 j v l e2 e1;simp[hs,ht,Wy.d,this.1,this.2];exact⟨_,_,rfl,rfl,rfl⟩
 . rintro _⟨s,t,rfl,hs,ht⟩;have e:((ls.zip ws).map fun p=>D.tup [.int p.1,p.2.d]).map (fun _=>D.bl true)=((ls.zip ws).map fun _=>true).map D.bl:=by rw[map_map,map_map];rfl
   rw[e,Hx];simp;rw[show((ls.zip ws).all fun _=>true)=true from by rw[all_eq_true];intro _ _;rfl];exact k
theorem oH(hn:ws.length<=12)(hf:fits ws ls)(k:Q (.val (.bl true)) [.val false (aP m ws),.val false (.tup (ls.map D.int))]):(run Γ w (n+2) 28 [.val false (aP m ws),.val false (.tup (ls.map D.int))]).sat Q:=by have hl:=hf.1;refine aK (d:=f28) rfl rfl (by decide) ?_;symm;simp[f28,hl];refine wA hn hf ?_;simp;exact k
def tV:List Wy->List Int->List Int|v::ws,l::ls=>(v.r-l)::tV ws ls|_,_=>[]
theorem gO:∀{ws:List Wy}{ls:List Int},ls.length=ws.length->(tV ws ls).length=ws.length|[],[],_=>rfl|[],_::_,h=>by simp at h|_::_,[],h=>by simp at h|w::ws,l::ls,h=>by simp[tV,gO (ws:=ws) (ls:=ls) (by simpa using h)]
theorem lC:∀{ws:List Wy}{ls:List Int}{k:Nat}{v:Wy}{l:Int},ws[k]?=some v->ls[k]?=some l->(tV ws ls)[k]?=some (v.r-l)|[],_,k,v,l,h,_=>by simp at h|_::_,[],k,v,l,_,h=>by simp at h|w::ws,x::ls,0,v,l,h,h'=>by simp at h h';subst h h';simp[tV]|w::ws,x::ls,k+1,v,l,h,h'=>by simp only[tV,getElem?_cons_succ]at h h' ⊢;exact lC h h'
def zbD:D->D|.tup [.tup [_,_,.int r,_],.int l]=>.int (r-l)|d=>d
@[simp]theorem age{a b e:D}{r l:Int}:zbD (.tup [.tup [a,b,.int r,e],.int l])=.int (r-l):=rfl
theorem zx:∀{ws:List Wy}{ls:List Int},((((ws.map Wy.d).zip (ls.map D.int)).map fun p=>D.tup [p.1,p.2]).map zbD)=(tV ws ls).map D.int|[],_=>by simp[tV]|_::_,[]=>by simp[tV]|w::ws,l::ls=>by have:=zx (ws:=ws) (ls:=ls);simp only[map_cons,List.zip_cons_cons,tV,this];rfl
theorem Dt(h6:ws.length<=6)(hf:fits ws ls)(k:Q (.val (aP m (je ws ls (tV ws ls)))) [.val false (aP m ws),.val false (.tup (ls.map D.int))]):(run Γ w (n+3) 29 [.val false (aP m ws),.val false (.tup (ls.map D.int))]).sat Q:=by
 refine aK (d:=f29) rfl rfl (by decide) ?_;symm;simp[f29];refine Be h6 ?_;simp;apply ak;simp;refine oH (by omega) hf ?_;simp;apply ak;simp;refine⟨fun _=>?_,by show _<=16777216;omega⟩;refine bH (F3w _ _) zbD ⟨.aO,.aO,rfl,rfl,rfl⟩ ?_ ?_;.rintro d hd _⟨s,t,rfl,hs,ht⟩;obtain⟨⟨x,y⟩,hx,rfl⟩:=mem_map.mp hd;obtain⟨v,_,rfl⟩:=mem_map.mp (of_mem_zip hx).1;obtain⟨l,_,rfl⟩:=mem_map.mp (of_mem_zip hx).2;simp[hs,ht,Wy.d];exact⟨_,_,rfl,rfl,rfl⟩
 rintro _⟨s,t,rfl,hs,ht⟩;rw[zx];simp;refine tL (by omega) hf.1 (gO hf.1) (.inr (.inr ⟨_,rfl⟩)) (.inl ⟨_,rfl⟩) ?_;simp;exact k
theorem fY(h:eN m ws):∀l∈cA ws,0<=l/\l<=1000000000:=fun l hl=>by obtain⟨v,hv,rfl⟩:=mem_map.mp hl;exact⟨(h.ok v hv).r0,(h.ok v hv).r1⟩
structure Y6(m T:Int)(ws:List Wy)(fo:List Int):Prop where
 fit:fits ws fo
 opt:∀v1 v2,gb m (je ws (cA ws) (cA ws)) T v2->gb m (je ws fo (tV ws fo)) T v1->v1=v2
theorem Hk{T:Int}(hw:13286250<=w)(h:eN m ws)(h6:ws.length<=6)(h0:0<=T)(k:∀fo,Y6 m T ws fo->Q (.val (.tup (fo.map D.int))) [.val false (aP m ws),.val false (.int T)]):(run Γ w (n+9) 30 [.val false (aP m ws),.val false (.int T)]).sat Q:=by
 have hR:(cA ws).length=ws.length:=length_map _;have hN:=vC h h6 hR hR (fY h) (fY h);refine aK (d:=f30) rfl rfl (by decide) ?_;symm;simp[f30];refine sU h6 ?_;simp;refine vm hw hN fun cs F ts hE hL hsum=>?_;have hFl:F.length=ws.length+ws.length:=by rw[hL.fit.len];unfold je;rw[length_append,eZ hR,iU hR]
 simp[aen,Aj,Gw (F:=F) (n:=ws.length) (by omega)];apply ak;simp[<-List.map_drop];refine⟨fun _=>?_,by show _<=16777216;omega⟩;have hdl:(F.drop ws.length).length=ws.length:=by rw[List.length_drop];omega
 have hgs:∀j,(F.drop ws.length)[j]?=F[ws.length+j]?:=fun j=>List.getElem?_drop;generalize F.drop ws.length=gs at*;refine bH (FY _ _ _) zbD ⟨.aO,.aO,rfl,rfl,rfl⟩ ?_ ?_;.rintro d hd _⟨s,t,rfl,hs,ht⟩;obtain⟨⟨x,y⟩,hx,rfl⟩:=mem_map.mp hd;obtain⟨v,_,rfl⟩:=mem_map.mp (of_mem_zip hx).1;obtain⟨l,_,rfl⟩:=mem_map.mp (of_mem_zip hx).2;simp[hs,ht,Wy.d];exact⟨_,_,rfl,rfl,rfl⟩
 rintro _⟨s,t,rfl,hs,ht⟩;rw[zx];have bl:=gO hdl;have hb1:∀(j:Nat)v g,ws[j]?=some v->gs[j]?=some g->0<=g/\g<=v.r:=fun j v g e1 e2=>by
  rw[hgs]at e2;have e3:(je ws (cA ws) (cA ws))[ws.length+j]?=some ⟨v.t,v.s,v.r,v.h⟩:=by unfold je;rw[getElem?_append_right (by rw[eZ hR];omega),eZ hR,show ws.length+j-ws.length=j by omega];exact uA e1 (j5 e1)
  have q:=hL.fit.ok _ _ _ e3 e2;exact q
 have hfit:fits ws (tV ws gs):=⟨bl,fun j v l e1 e2=>by
  have hj:=(dI e1).1;have eg:gs[j]?=some gs[j]:=by simp[show j<gs.length by omega]
  rw[lC e1 eg]at e2;cases e2;have:=hb1 j v _ e1 eg;omega⟩;have hop:Y6 m T ws (tV ws gs):=⟨hfit,fun v1 v2 l2 l1=>by
  refine Ej h hL (by rw[hsum];exact(hE.least h0).uniq l2) l2 ⟨bl,fun j v g e1 e2=>?_⟩ (gO bl) (fun j v g e1 e2=>?_) l1;.rw[<-hgs]at e2;exact lC e1 e2
  .rw[<-hgs]at e2;rw[lC e1 (lC e1 e2)];congr 1;omega⟩;simp;exact k _ hop
theorem gK{T:Int}(hw:13286250<=w)(h:eN m ws)(h0:0<=T)(hT:T<=1000000000000000000)(k:∀v,gb m ws T v->Q (.val (.int v)) [.val false (aP m ws),.val false (.int T)]):(run Γ w (n+6) 22 [.val false (aP m ws),.val false (.int T)]).sat Q:=zp hw h hT fun cs hE=>k _ (hE.least h0)
theorem Hm{T:Int}(h:eN m ws)(h6:ws.length<=6)(hf:fits ws fo):eN m (je ws fo (tV ws fo)):=by
 have key:∀(j:Nat)l,fo[j]?=some l->∃v,ws[j]?=some v/\v∈ws/\0<=l/\l<=v.r:=fun j l e=>by
  have hj:=(dI e).1;rw[hf.1]at hj;have ev:ws[j]?=some ws[j]:=by simp[hj]
  exact⟨_,ev,getElem_mem hj,hf.2 j _ l ev e⟩
 refine vC h h6 hf.1 (gO hf.1) (fun l hl=>?_) (fun l hl=>?_);.obtain⟨j,hj,e⟩:=getElem_of_mem hl;obtain⟨v,_,hv,q1,q2⟩:=key j l (by rw[getElem?_eq_getElem hj,e]);have:=(h.ok v hv).r1;omega
 . obtain⟨j,hj,e⟩:=getElem_of_mem hl;have hj':j<fo.length:=by rw[gO hf.1]at hj;rw[hf.1];exact hj
   have e1:fo[j]?=some fo[j]:=by simp[hj']
   obtain⟨v,ev,hv,q1,q2⟩:=key j _ e1;have e2:=lC ev e1;rw[getElem?_eq_getElem hj,e]at e2;cases e2;have:=(h.ok v hv).r1;omega
theorem Dm{T:Int}(hw:13286250<=w)(h:eN m ws)(h6:ws.length<=6)(h0:0<=T)(hT:T<=1000000000000000000)(hb:Y6 m T ws fo)(k:Q (.val (.bl true)) [.val false (aP m ws),.val false (.int T),.val false (.tup (fo.map D.int))]):(run Γ w (n+7) 31 [.val false (aP m ws),.val false (.int T),.val false (.tup (fo.map D.int))]).sat Q:=by have hR:(cA ws).length=ws.length:=length_map _;have hN:=vC h h6 hR hR (fY h) (fY h);have hN1:=Hm (T:=T) h h6 hb.fit;refine aK (d:=f31) rfl rfl (by decide) ?_;symm;simp[f31];refine sU h6 ?_;simp;refine gK hw hN h0 hT fun v2 l2=>?_;simp;apply ak;simp;refine oH (by omega) hb.fit ?_;simp;refine Dt h6 hb.fit ?_;simp;refine gK hw hN1 h0 hT fun v1 l1=>?_;obtain rfl:=hb.opt v1 v2 l2 l1;simp;exact k
theorem Ih{at0:Int}(hD:Dr ds)(hd:0<ds.length)(a0:0<=at0)(k:∀T,0<=T->T<=1000000000000000000->Q (.val (.int T)) [.own true (ds.map D.int),.val false (.int at0)]):(run Γ w (n+2) 36 [.own true (ds.map D.int),.val false (.int at0)]).sat Q:=by
 refine aK (d:=Z2) rfl rfl (by decide) ?_;symm;simp[Z2];refine cH hd a0 (by omega) (by omega) fun c c0 c1=>?_;simp;apply ak;simp;refine⟨fun _=>?_,fun _=>?_⟩;.symm;simp;refine cH hd (by omega) (by omega) (by omega) fun d d0 d1=>?_;simp;exact k d d0 (by omega)
 . symm;simp;refine⟨fun _=>?_,fun _=>?_⟩;.symm;simp;refine rG hD hd (by omega) (by omega) (by omega) fun d d0 d1=>?_;simp;exact k d d0 (by omega)
   .symm;simp;refine rG hD hd (by omega) (by omega) (by omega) fun d d0 d1=>?_;simp;exact k _ (by omega) (by omega)
inductive F9l(a0 a1 a2 a3 a4 a5 a6 a7 a8:Sl)(ρ:List Sl):Prop where|mk(s:Sl)(q0:ρ=[a0,a1,a2,a3,a4,a5,a6,a7,a8,s])(q1:fr s=true)
def Ds(ws:List Wy)(fo:List Int)(d:D):D:=match ws[(lE d).toNat]?,fo[(lE d).toNat]?with|some v,some l=>({v with r:=l}:Wy).d|_,_=>d
theorem G3(hl:fo.length=ws.length):((List.range ws.length).map fun(k:Nat)=>D.int (k:Int)).map (Ds ws fo)=(jX ws fo).map Wy.d:=by
 rw[map_map];refine List.ext_getElem? fun i=>?_;by_cases hi:i<ws.length
 . have e1:ws[i]?=some ws[i]:=by simp[hi]
   have e2:fo[i]?=some (fo[i]'(by omega)):=by simp[show i<fo.length by omega]
   rw[getElem?_map,List.getElem?_range hi,getElem?_map,zJ e1 e2];show some (Ds ws fo (.int (i:Int)))=_;unfold Ds;show some (match ws[(i:Int).toNat]?,fo[(i:Int).toNat]?with|some v,some l=>({v with r:=l}:Wy).d|_,_=>.int i)=_;rw[toNat_natCast,e1,e2];rfl
 .rw[List.getElem?_eq_none (by simp;omega),List.getElem?_eq_none (by rw[length_map,eZ hl];omega)]
@[simp]theorem slT2{a b c e:D}:J8 (.tup [a,b,c,e]) (part (.con .non) .non) (part (.con (.int 2)) (.int 2))=some (.val (.tup [a,b])):=rfl
inductive JLn(ws:List Wy)(fo ba:List Int)(a0 a1 a2:Sl)(i:Nat)(ρ:List Sl):Prop where|mk(s4:Sl)(s5:Sl)(s6:Sl)(s7:Sl)(s8:Sl)(q0:ρ=[a0,a1,a2,.own false (((jX ws fo)++(ji ws ba).take i).map Wy.d),s4,s5,s6,s7,s8])(q1:A5 (fr s4=true) (fr s5=true) (fr s6=true) (fr s7=true) (fr s8=true))
theorem rA{s1 s2:Sl}(h6:ws.length<=6)(hl1:fo.length=ws.length)(hl2:ba.length=ws.length)(h1:LX s1 fo)(h2:LX s2 ba)(k:Q (.val (aP m (je ws fo ba))) [.val false (aP m ws),s1,s2]):(run Γ w (n+1) 37 [.val false (aP m ws),s1,s2]).sat Q:=by
 refine aK (d:=f37) rfl rfl (by decide) ?_;refine cG (fun ρ=>ρ=[.val false (aP m ws),s1,s2,.own false ((jX ws fo).map Wy.d),.aO,.aO,.aO,.aO,.aO]) ?_ ?_;.rcases h1 with⟨b,rfl⟩|⟨b,rfl⟩|⟨b,rfl⟩;all_goals
    simp[f37,show(ws.length:Int)<=1000000000 by omega];refine⟨fun _=>?_,by show _<=16777216;omega⟩;refine bH (F9l _ _ _ _ _ _ _ _ _) (Ds ws fo) ⟨.aO,rfl,rfl⟩ ?_ ?_
    . rintro d hd _⟨s,rfl,hs⟩;obtain⟨i,hi,rfl⟩:=mem_map.mp hd;have hi:=mem_range.mp hi;have e1:ws[i]?=some ws[i]:=by simp[hi]
      have e2:fo[i]?=some (fo[i]'(by omega)):=by simp[show i<fo.length by omega]
      have a1:=cY (f:=Wy.d) e1;have a2:=cY (f:=D.int) e2;have er:Ds ws fo (.int (i:Int))=({ws[i]with r:=fo[i]'(by omega)}:Wy).d:=by unfold Ds;show(match ws[(i:Int).toNat]?,fo[(i:Int).toNat]?with|some v,some l=>({v with r:=l}:Wy).d|_,_=>.int i)=_;rw[toNat_natCast,e1,e2]
      rw[er];simp[hs,a1,a2,Wy.d];exact⟨by decide,_,rfl,rfl⟩
    .rintro _⟨s,rfl,hs⟩;rw[G3 hl1];simp
 rintro _ rfl;have hrl:=eZ (ws:=ws) hl1;have htl:=iU (ws:=ws) hl2;refine cG (JLn ws fo ba (.val false (aP m ws)) s1 s2 ws.length) ?_ ?_
 . simp[show(ws.length:Int)<=1000000000 by omega];refine gq (JLn ws fo ba (.val false (aP m ws)) s1 s2) ?_ ?_ ⟨.aO,.aO,.aO,.aO,.aO,by simp,rfl,rfl,rfl,rfl,rfl⟩
   . rintro i _ hi⟨s4,s5,s6,s7,s8,rfl,h4,h5,h6',h7,h8⟩;have e1:ws[i]?=some ws[i]:=by simp[hi]
     have e2:ba[i]?=some (ba[i]'(by omega)):=by simp[show i<ba.length by omega]
     have a1:=cY (f:=Wy.d) e1;have a2:=cY (f:=D.int) e2;have et:=uA e1 e2;have etk:(ji ws ba).take (i+1)=(ji ws ba).take i++[⟨ws[i].t,ws[i].s,ba[i]'(by omega),ws[i].h⟩]:=by rw[List.take_add_one,et];rfl
     generalize ws[i]=v at*;generalize ba[i]'(by omega)=l at*;have hlen:((jX ws fo)++(ji ws ba).take i).length<16777216:=by rw[length_append,length_take];omega
     rcases h2 with⟨b,rfl⟩|⟨b,rfl⟩|⟨b,rfl⟩;all_goals simp[h4];apply ak;simp[a1,Wy.d,h5,h6',h7,h8];apply ak;simp[a2,show(jX ws fo).length+min i (ji ws ba).length<16777216 by omega];exact⟨.val false (.int i),.val false (.int v.s),.val false (.int v.t),.val false (.int v.r),.val false (.int v.h),by rw[etk];simp[Wy.d],rfl,rfl,rfl,rfl,rfl⟩
   .rintro _⟨s4,s5,s6,s7,s8,rfl,h4,h5,h6',h7,h8⟩;exact⟨rfl,_,_,_,_,_,rfl,h4,h5,h6',h7,h8⟩
 rintro _⟨s4,s5,s6,s7,s8,rfl,_⟩;rw[List.take_of_length_le (by omega)];symm;simp;have e:D.tup [.int m,.tup ((jX ws fo).map Wy.d++(ji ws ba).map Wy.d)]=aP m (je ws fo ba):=by unfold aP je;rw[map_append]
 rw[e];exact k
theorem Gj{S:List Int}:dZ (n+1) (.tup (S.map D.int))=true:=by rw[dZ,all_eq_true];intro d hd;obtain⟨i,_,rfl⟩:=mem_map.mp hd;cases n<;>rfl
theorem FW{l:List Int}:cm .ne (.tup (l.map D.int)) (.tup (l.map D.int))=some false:=by show zj _ _=_;unfold zj;rw[Gj];show some (!(gB (l.map D.int) (l.map D.int)))=_;rw[lZ];simp
theorem zK(k:Q (.val (.bl true)) [.val false (.int i)]):(run Γ w (n+1) 38 [.val false (.int i)]).sat Q:=by refine aK (d:=Z5) rfl rfl (by decide) ?_;symm;simp[Z5];exact k
theorem Jm{ws:List Wy}{fo:List Int}(hf:fits ws fo){i:Nat}(hi:i<ws.length):∃v l,ws[i]?=some v/\at' ((cA ws).map D.int) (i:Int)=some (.int v.r)/\at' (fo.map D.int) (i:Int)=some (.int l)/\fo[i]?=some l/\0<=l/\l<=v.r:=by
 have e1:ws[i]?=some ws[i]:=by simp[hi]
 have hi2:i<fo.length:=by rw[hf.1];exact hi
 have e2:fo[i]?=some fo[i]:=by simp[hi2]
 exact⟨_,_,e1,cY (j5 e1),cY e2,e2,hf.2 i _ _ e1 e2⟩
def K1(ws:List Wy)(fo:List Int)(d:D):D:=.int ((tV ws fo).getD (lE d).toNat 0)
theorem Gq(hl:fo.length=ws.length):((List.range ws.length).map fun(k:Nat)=>D.int (k:Int)).map (K1 ws fo)=(tV ws fo).map D.int:=by
 rw[map_map];have hb:=gO hl;refine ext_getElem (by simp[hb]) fun i h1 h2=>?_;have hi:i<(tV ws fo).length:=by simpa using h2
 simp[K1,lE,hi]
inductive J86(a0 a1 a2 a3 a4:Sl)(_:Nat)(ρ:List Sl):Prop where|mk(s5:Sl)(s6:Sl)(s7:Sl)(s8:Sl)(s9:Sl)(q0:ρ=[a0,a1,a2,a3,a4,s5,s6,s7,s8,s9])(q1:A5 (fr s5=true) (fr s6=true) (fr s7=true) (fr s8=true) (fr s9=true))
inductive K86(a0 a1 a2 a3 a4 a5 a6 a7 a9:Sl)(_:Nat)(ρ:List Sl):Prop where|mk(s8:Sl)(q0:ρ=[a0,a1,a2,a3,a4,a5,a6,a7,s8,a9])(q1:fr s8=true)
inductive F10(a0 a1 a2 a3 a4 a5 a6 a7 a8 a9:Sl)(ρ:List Sl):Prop where|mk(s:Sl)(q0:ρ=[a0,a1,a2,a3,a4,a5,a6,a7,a8,a9,s])(q1:fr s=true)
theorem Kr(ns:List Int)(hn:ns.length<=63):∃as,run Γ 100000000 40 39 [.val false (.lst (ns.map D.int))]=.ok (.val (.bl true)) as:=by
 suffices h:(run Γ 100000000 40 39 [.val false (.lst (ns.map D.int))]).sat fun r _=>r=.val (.bl true)by obtain⟨a,ρ,e,rfl⟩:=sat_iff.mp h;exact⟨ρ,e⟩
 refine aK (d:=f39) rfl rfl (by decide) ?_;symm;simp[f39];refine M7 (M:=300) hn (by omega) fun ds hdl hD=>?_;have hd:0<ds.length:=by omega
 simp;apply ak;simp;refine Fw hD hd (by omega) (by omega) (by omega) (by omega) fun m ws hk _ h6'=>?_;have h6:ws.length<=6:=by omega
 have hR:(cA ws).length=ws.length:=length_map _;have hN:=vC hk h6 hR hR (fY hk) (fY hk);simp;apply ak;simp[show ws.length<=16777216 by omega];refine bH (F10 _ _ _ _ _ _ _ _ _ _) IW ⟨.aO,rfl,rfl⟩ ?_ ?_;.rintro d hd _⟨s,rfl,hs⟩;obtain⟨v,_,rfl⟩:=mem_map.mp hd;simp[hs,Wy.d];exact⟨_,rfl,rfl⟩
 rintro _⟨s,rfl,hs⟩;have e:(ws.map Wy.d).map IW=(cA ws).map D.int:=by unfold cA;rw[map_map,map_map];rfl
 rw[e];have hat:=@Jm ws;have Z0:∀(fo:List Int)T,Y6 m T ws fo->∀v1 v2,gb m (je ws (cA ws) (cA ws)) T v2->gb m (je ws fo (tV ws fo)) T v1->v1=v2:=fun fo T hb=>hb.opt;generalize cA ws=R0 at*;simp;apply ak;simp;refine rA h6 hR hR (.inr (.inl ⟨_,rfl⟩)) (.inr (.inl ⟨_,rfl⟩)) ?_;simp;apply ak;simp;refine gq (J86 _ _ _ _ _) ?_ ?_ ⟨.aO,.aO,.aO,.aO,.aO,rfl,rfl,rfl,rfl,rfl,rfl⟩
 . rintro i _ hi⟨s5,s6,s7,s8,s9,rfl,h5,h6s,h7,h8,h9⟩;simp[h5];apply ak;simp;generalize hsp:(200:Int)+3*(i:Int)=sp;refine Ih hD hd (by omega) fun T T0 T1=>?_;simp[h6s];apply ak;simp;obtain⟨r,ρ,eb,fo,hb,rfl,rfl⟩:=sat_iff.mp (Hk (w:=100000000) (n:=30) (T:=T) (Q:=fun r ρ=>∃fo,Y6 m T ws fo/\r=.val (.tup (fo.map D.int))/\ρ=[.val false (aP m ws),.val false (.int T)]) (by omega) hk h6 T0 fun fo hb=>⟨fo,hb,rfl,rfl⟩);have hfl:=hb.fit.1;have hN1:=Hm (T:=T) hk h6 hb.fit;have hop:=Z0 fo T hb;rw[eb];simp[h7];apply ak;simp[hfl,hR];apply ak;simp[hR,show(ws.length:Int)<=1000000000 by omega];refine gq (K86 _ _ _ _ _ _ _ _ _) ?_ ?_ ⟨s8,rfl,h8⟩;.rintro j _ hj⟨s8,rfl,h8⟩;obtain⟨v,l,_,a1,a2,_,l0,l1⟩:=hat hb.fit hj;simp[h8];apply ak;simp[a2];refine zK ?_;simp[a1,a2,show ¬ l<0 by omega,show ¬ v.r<l by omega];exact⟨_,rfl,rfl⟩
   rintro _⟨s8,rfl,h8⟩;simp;apply ak;simp[hR,show(ws.length:Int)<=1000000000 by omega];refine⟨fun _=>?_,by show _<=16777216;omega⟩;refine bH (F10 _ _ _ _ _ _ _ _ _ _) (K1 ws fo) ⟨.aO,rfl,rfl⟩ ?_ ?_
   . rintro d hd _⟨s,rfl,hs⟩;obtain⟨j,hj,rfl⟩:=mem_map.mp hd;obtain⟨v,l,ev,a1,a2,ef,l0,l1⟩:=hat hb.fit (mem_range.mp hj);have eb2:K1 ws fo (.int (j:Int))=.int (v.r-l):=by show D.int ((tV ws fo).getD (j:Int).toNat 0)=_;rw[toNat_natCast,List.getD_eq_getElem?_getD,lC ev ef];rfl
     rw[eb2];simp[hs,a1,a2];exact⟨_,rfl,rfl⟩
   rintro _⟨s,rfl,hs⟩;rw[Gq hfl];simp[h9];apply ak;simp;refine rA h6 hfl (gO hfl) (.inr (.inr ⟨_,rfl⟩)) (.inl ⟨_,rfl⟩) ?_;simp;refine gK (by omega) hN1 T0 T1 fun v1 l1=>?_;simp;refine gK (by omega) hN T0 T1 fun v2 l2=>?_;obtain rfl:=hop v1 v2 l2 l1;simp;apply ak;simp;rw[eb];simp[FW];refine Dm (by omega) hk h6 T0 T1 hb ?_;simp;exact⟨_,_,_,_,_,rfl,rfl,rfl,rfl,h8,rfl⟩
 .rintro _⟨s5,s6,s7,s8,s9,rfl,_⟩;symm;simp
end T
end
structure PySem.W.Fast:Prop where(tw17066733806571322906 tw16805077130852115521 tw10156033031308704632 tw5636476689833553891 tw12531864338064269620 tw3730489995452780600 tw18001423646343375114 tw6773445928343494426 tw14238069139814085042 tw10744251966675932993 tw13368654210959093940 tw4856117634385395461 tw17381976000051014687 tw3214556420355998167 tw6223660305427526045 tw5918968694264697010 tw10364053419737856947 tw15651433950658212726 tw13622011023378653509 tw9115377371655797077 tw15964876288005082008 tw3942739480098865329 tw17715040787318874389 tw478934608146629386 tw10640974126062071566 tw8534336420637414372 tw5465607299621193523 tw340930681814465712 tw12987345084463595358 tw17034371971440505528 tw5671087907258246299 tw9761526797542672451 tw9478792660779972571 tw1790640842106338335 tw15352306323285412002 tw11719078811580942559 tw764237238799024545 tw13287358286674656721 tw9493300527723782053 tw8589403824596628017 tw12151045856137156041 tw8658147308909309344 tw6784723933281787705 tw14544682213203453351 tw18308029196828836040 tw12089225120265292930 tw6451924462301245956 tw10011162984531613236 tw2062198165650597414 tw11285638880698123415 tw7801716231125384388 tw18240564172795175506 tw10135101696535220412 tw2542897296626372648 tw12606272311748532000 tw4961948637627697177 tw13026689358646585267 tw18421859443024283166 tw1085215613079515814 tw14462452769604817690 tw6616086886817159638 tw3597479767375176191 tw16533049277527963028 tw9874928231632697473 tw10381491024801760420 tw3175187732668488836 tw10669367866545368035 tw16215511424418093024 tw8171918036325291482 tw2702192746162826527 tw10619635716351389533 tw7672469490723431195 tw8134014404552587306 tw11031707544202642387 tw10745289739973108488 tw8754178901727237362 tw13918785007676695710 tw15364070886567932833 tw417457161740938815 tw2506405023344562399 tw2998568246747536570 tw16383864920420628184 tw11283067152641327521 tw3412161851099084229 tw4527521651218457 tw9184104586118814553 tw9684602845928914798 tw11838008955256169023 tw12272514985172060680 tw7236024562439344832 tw7906399153602040211 tw9656920706370750752 tw6454870274686031923 tw17994827485091161626 tw7153123932102278109 tw316787740761475723 tw11956910595572390960:True)
namespace T
open PySem L2 PySem.Spec PyProof.Rows HH
theorem Zc{P:List Value → Prop}{n:Nat}(h:∀(a:Value)(us:List Value),us.length=n → P (a::us))(us:List Value)(hl:us.length=n+1):P us:=by cases us with|nil=>cases hl|cons a us=>exact h a us (Nat.succ.inj hl)
theorem lk0{P:List Value → Prop}(h:P [])(us:List Value)(hl:us.length=0):P us:=by cases us with|nil=>exact h|cons a us=>cases hl
theorem wO{P:List Value → Prop}(h:∀a,P [a]):∀us:List Value,us.length=1 → P us:=Zc fun a=>lk0 (h a)
theorem gR{P:List Value → Prop}(h:∀a b,P [a,b]):∀us:List Value,us.length=2 → P us:=Zc fun a=>wO (h a)
theorem rP{P:List Value → Prop}(h:∀a b c,P [a,b,c]):∀us:List Value,us.length=3 → P us:=Zc fun a=>gR (h a)
theorem lk4{P:List Value → Prop}(h:∀a b c d,P [a,b,c,d]):∀us:List Value,us.length=4 → P us:=Zc fun a=>rP (h a)
theorem lk5{P:List Value → Prop}(h:∀a b c d e,P [a,b,c,d,e]):∀us:List Value,us.length=5 → P us:=Zc fun a=>lk4 (h a)
local macro_rules|`(term|‹$p›)=>`(fun _ _ _ _ _ _=>$p)
structure Txt(K:PySem.W.Frag):Prop where
 D0:bw K "step_places" s0
 D1:bw K "step_hours" s1
 D2:bw K "step_room" s2
 D3:bw K "steps_hours" s3
 D4:bw K "open_steps" s4
 D5:bw K "shortest_come" s5
 D6:bw K "steps_to" s6
 D7:bw K "stream_with" s7
 D8:bw K "chains_to_end" s8
 D9:bw K "cut_to_rate" s9
 D10:bw K "bends_of" ni
 D11:bw K "is_whole" J5
 D12:bw K "whole_within" s12
 D13:bw K "is_row" s13
 D14:bw K "is_way" s14
 D15:bw K "made_net" s15
 D16:bw K "within_rooms" s16
 D17:bw K "with_rooms" s17
 D18:bw K "found_clocks" s18
 D19:bw K "light_stream" s19
 D20:bw K "bends_by" s20
 D21:bw K "most_of" s21
 D22:bw K "most_by" s22
 D23:bw K "rate_by" s23
 D24:bw K "stream_by" s24
 D25:bw K "few_enough" s25
 D26:bw K "lanes_net" s26
 D27:bw K "open_net" s27
 D28:bw K "is_forth" s28
 D29:bw K "laned_net" s29
 D30:bw K "best_forth" s30
 D31:bw K "forth_right" s31
 D32:bw K "_law_all" s32
 D33:bw K "_law_draw" s33
 D34:bw K "_law_wide" s34
 D35:bw K "_law_net" s35
 D36:bw K "_law_last" s36
 D37:bw K "_law_laned" s37
 D38:bw K "_law_whole" s38
 D39:bw K "law" s39
 CT:PySem.W.nsIn K mainGlobals "abs"=some none
 JT:PySem.W.nsIn K mainGlobals "all"=some none
 nZ:PySem.W.nsIn K mainGlobals "bool"=some none
 jP:PySem.W.nsIn K mainGlobals "enumerate"=some none
 uo:PySem.W.nsIn K mainGlobals "int"=some none
 aV:PySem.W.nsIn K mainGlobals "isinstance"=some none
 aY:PySem.W.nsIn K mainGlobals "len"=some none
 gY:PySem.W.nsIn K mainGlobals "list"=some none
 JV:PySem.W.nsIn K mainGlobals "max"=some none
 mQ:PySem.W.nsIn K mainGlobals "min"=some none
 bz:PySem.W.nsIn K mainGlobals "range"=some none
 lF:PySem.W.nsIn K mainGlobals "reversed"=some none
 rH:PySem.W.nsIn K mainGlobals "sorted"=some none
 jg:PySem.W.nsIn K mainGlobals "sum"=some none
 bj:PySem.W.nsIn K mainGlobals "tuple"=some none
 gD:PySem.W.nsIn K mainGlobals "zip"=some none
 gC:∃t,PySem.W.nsIn K mainGlobals "LEAST_PLACES"=some (some (Value.int 2 t))jb:∃t,PySem.W.nsIn K mainGlobals "MOST_HOURS"=some (some (Value.int 1000000 t))jc:∃t,PySem.W.nsIn K mainGlobals "MOST_LANED"=some (some (Value.int 6 t))ie:∃t,PySem.W.nsIn K mainGlobals "MOST_PLACES"=some (some (Value.int 6 t))jO:∃t,PySem.W.nsIn K mainGlobals "MOST_ROOM"=some (some (Value.int 1000000000 t))jQ:∃t,PySem.W.nsIn K mainGlobals "MOST_WAYS"=some (some (Value.int 12 t))
noncomputable def ig{K:PySem.W.Frag}(T:Txt K):Nat->Addr:=fun k=>0
structure Oks(Pg:Program)(w:World)(K:PySem.W.Frag)(mg:Str->Option Value)(base:Heap)(cl:Nat->Addr)(n:Nat):Prop where
 c0:aQ Pg w K mg base n (run Γ 100000000 n) 0 "step_places" 2
 c1:aQ Pg w K mg base n (run Γ 100000000 n) 1 "step_hours" 2
 c2:aQ Pg w K mg base n (run Γ 100000000 n) 2 "step_room" 3
 c3:aQ Pg w K mg base n (run Γ 100000000 n) 3 "steps_hours" 2
 c4:aQ Pg w K mg base n (run Γ 100000000 n) 4 "open_steps" 2
 c5:aQ Pg w K mg base n (run Γ 100000000 n) 5 "shortest_come" 3
 c6:aQ Pg w K mg base n (run Γ 100000000 n) 6 "steps_to" 3
 c7:aQ Pg w K mg base n (run Γ 100000000 n) 7 "stream_with" 3
 c8:aQ Pg w K mg base n (run Γ 100000000 n) 8 "chains_to_end" 1
 c9:aQ Pg w K mg base n (run Γ 100000000 n) 9 "cut_to_rate" 2
 c10:aQ Pg w K mg base n (run Γ 100000000 n) 10 "bends_of" 1
 c11:aQ Pg w K mg base n (run Γ 100000000 n) 11 "is_whole" 1
 c12:aQ Pg w K mg base n (run Γ 100000000 n) 12 "whole_within" 3
 c13:aQ Pg w K mg base n (run Γ 100000000 n) 13 "is_row" 1
 c14:aQ Pg w K mg base n (run Γ 100000000 n) 14 "is_way" 2
 c15:aQ Pg w K mg base n (run Γ 100000000 n) 15 "made_net" 2
 c16:aQ Pg w K mg base n (run Γ 100000000 n) 16 "within_rooms" 2
 c17:aQ Pg w K mg base n (run Γ 100000000 n) 17 "with_rooms" 2
 c18:aQ Pg w K mg base n (run Γ 100000000 n) 18 "found_clocks" 2
 c19:aQ Pg w K mg base n (run Γ 100000000 n) 19 "light_stream" 2
 c20:aQ Pg w K mg base n (run Γ 100000000 n) 20 "bends_by" 2
 c21:aQ Pg w K mg base n (run Γ 100000000 n) 21 "most_of" 2
 Z1:aQ Pg w K mg base n (run Γ 100000000 n) 22 "most_by" 2
 c23:aQ Pg w K mg base n (run Γ 100000000 n) 23 "rate_by" 2
 c24:aQ Pg w K mg base n (run Γ 100000000 n) 24 "stream_by" 2
 c25:aQ Pg w K mg base n (run Γ 100000000 n) 25 "few_enough" 1
 c26:aQ Pg w K mg base n (run Γ 100000000 n) 26 "lanes_net" 3
 c27:aQ Pg w K mg base n (run Γ 100000000 n) 27 "open_net" 1
 c28:aQ Pg w K mg base n (run Γ 100000000 n) 28 "is_forth" 2
 c29:aQ Pg w K mg base n (run Γ 100000000 n) 29 "laned_net" 2
 c30:aQ Pg w K mg base n (run Γ 100000000 n) 30 "best_forth" 2
 c31:aQ Pg w K mg base n (run Γ 100000000 n) 31 "forth_right" 3
 c32:aQ Pg w K mg base n (run Γ 100000000 n) 32 "_law_all" 2
 c33:aQ Pg w K mg base n (run Γ 100000000 n) 33 "_law_draw" 3
 c34:aQ Pg w K mg base n (run Γ 100000000 n) 34 "_law_wide" 3
 c35:aQ Pg w K mg base n (run Γ 100000000 n) 35 "_law_net" 4
 c36:aQ Pg w K mg base n (run Γ 100000000 n) 36 "_law_last" 2
 c37:aQ Pg w K mg base n (run Γ 100000000 n) 37 "_law_laned" 3
 c38:aQ Pg w K mg base n (run Γ 100000000 n) 38 "_law_whole" 1
 c39:aQ Pg w K mg base n (run Γ 100000000 n) 39 "law" 1
set_option maxHeartbeats 0 in
theorem Jx{Pg:Program}{w:World}{K:PySem.W.Frag}{mg:Str->Option Value}{base:Heap}(T:Txt K)(X:K.In base)(G:base.Ns mainGlobals mg):∀n,Oks Pg w K mg base (ig T) n
 |0=>{
   c0:=bB (ps:=["net","step"]) X G T.D0 rfl ‹gR fun _ _=>rfl›
   c1:=bB (ps:=["net","step"]) X G T.D1 rfl ‹gR fun _ _=>rfl›
   c2:=bB (ps:=["net","stream","step"]) X G T.D2 rfl ‹rP fun _ _ _=>rfl›
   c3:=bB (ps:=["net","steps"]) X G T.D3 rfl ‹gR fun _ _=>rfl›
   c4:=bB (ps:=["net","stream"]) X G T.D4 rfl ‹gR fun _ _=>rfl›
   c5:=bB (ps:=["net","stream","begun"]) X G T.D5 rfl ‹rP fun _ _ _=>rfl›
   c6:=bB (ps:=["net","come","place"]) X G T.D6 rfl ‹rP fun _ _ _=>rfl›
   c7:=bB (ps:=["stream","steps","loads"]) X G T.D7 rfl ‹rP fun _ _ _=>rfl›
   c8:=bB (ps:=["net"]) X G T.D8 rfl ‹wO fun _=>rfl›
   c9:=bB (ps:=["pairs","rate"]) X G T.D9 rfl ‹gR fun _ _=>rfl›
   c10:=bB (ps:=["net"]) X G T.D10 rfl ‹wO fun _=>rfl›
   c11:=bB (ps:=["thing"]) X G T.D11 rfl ‹wO fun _=>rfl›
   c12:=bB (ps:=["thing","least","most"]) X G T.D12 rfl ‹rP fun _ _ _=>rfl›
   c13:=bB (ps:=["thing"]) X G T.D13 rfl ‹wO fun _=>rfl›
   c14:=bB (ps:=["many","thing"]) X G T.D14 rfl ‹gR fun _ _=>rfl›
   c15:=bB (ps:=["many","ways"]) X G T.D15 rfl ‹gR fun _ _=>rfl›
   c16:=bB (ps:=["net","stream"]) X G T.D16 rfl ‹gR fun _ _=>rfl›
   c17:=bB (ps:=["net","rooms"]) X G T.D17 rfl ‹gR fun _ _=>rfl›
   c18:=bB (ps:=["net","stream"]) X G T.D18 rfl ‹gR fun _ _=>rfl›
   c19:=bB (ps:=["net","rate"]) X G T.D19 rfl ‹gR fun _ _=>rfl›
   c20:=bB (ps:=["net","last"]) X G T.D20 rfl ‹gR fun _ _=>rfl›
   c21:=bB (ps:=["bends","last"]) X G T.D21 rfl ‹gR fun _ _=>rfl›
   Z1:=bB (ps:=["net","last"]) X G T.D22 rfl ‹gR fun _ _=>rfl›
   c23:=bB (ps:=["net","last"]) X G T.D23 rfl ‹gR fun _ _=>rfl›
   c24:=bB (ps:=["net","last"]) X G T.D24 rfl ‹gR fun _ _=>rfl›
   c25:=bB (ps:=["net"]) X G T.D25 rfl ‹wO fun _=>rfl›
   c26:=bB (ps:=["net","forth","back"]) X G T.D26 rfl ‹rP fun _ _ _=>rfl›
   c27:=bB (ps:=["net"]) X G T.D27 rfl ‹wO fun _=>rfl›
   c28:=bB (ps:=["net","forth"]) X G T.D28 rfl ‹gR fun _ _=>rfl›
   c29:=bB (ps:=["net","forth"]) X G T.D29 rfl ‹gR fun _ _=>rfl›
   c30:=bB (ps:=["net","last"]) X G T.D30 rfl ‹gR fun _ _=>rfl›
   c31:=bB (ps:=["net","last","forth"]) X G T.D31 rfl ‹rP fun _ _ _=>rfl›
   c32:=bB (ps:=["script","many"]) X G T.D32 rfl ‹gR fun _ _=>rfl›
   c33:=bB (ps:=["draws","at","many"]) X G T.D33 rfl ‹rP fun _ _ _=>rfl›
   c34:=bB (ps:=["draws","at","many"]) X G T.D34 rfl ‹rP fun _ _ _=>rfl›
   c35:=bB (ps:=["draws","at","places","most"]) X G T.D35 rfl ‹lk4 fun _ _ _ _=>rfl›
   c36:=bB (ps:=["draws","at"]) X G T.D36 rfl ‹gR fun _ _=>rfl›
   c37:=bB (ps:=["net","forth","back"]) X G T.D37 rfl ‹rP fun _ _ _=>rfl›
   c38:=bB (ps:=["thing"]) X G T.D38 rfl ‹wO fun _=>rfl›
   c39:=bB (ps:=["script"]) X G T.D39 rfl ‹wO fun _=>rfl›}|n+1=>have ih:=Jx (Pg:=Pg) (w:=w) (base:=base) T X G n
   {c0:=bA (ps:=["net","step"]) X G T.D0 rfl rfl ‹gR fun _ _=>rfl› fun _ _ F=>d0 (cl:=ig T) F
    c1:=bA (ps:=["net","step"]) X G T.D1 rfl rfl ‹gR fun _ _=>rfl› fun _ _ F=>d1 (cl:=ig T) F
    c2:=bA (ps:=["net","stream","step"]) X G T.D2 rfl rfl ‹rP fun _ _ _=>rfl› fun _ _ F=>d2 (cl:=ig T) F
    c3:=bA (ps:=["net","steps"]) X G T.D3 rfl rfl ‹gR fun _ _=>rfl› fun _ _ F=>d3 (cl:=ig T) F (mg_none_of X G T.jg) ih.c1
    c4:=bA (ps:=["net","stream"]) X G T.D4 rfl rfl ‹gR fun _ _=>rfl› fun _ _ F=>d4 (cl:=ig T) F (mg_none_of X G T.aY) (mg_none_of X G T.bz) ih.c0 ih.c2
    c5:=bA (ps:=["net","stream","begun"]) X G T.D5 rfl rfl ‹rP fun _ _ _=>rfl› fun _ _ F=>d5 (cl:=ig T) F (mg_none_of X G T.aY) (mg_none_of X G T.gY) ih.c4 ih.c1 ih.c0
    c6:=bA (ps:=["net","come","place"]) X G T.D6 rfl rfl ‹rP fun _ _ _=>rfl› fun _ _ F=>d6 (cl:=ig T) F (mg_none_of X G T.lF) (mg_none_of X G T.bj) ih.c0
    c7:=bA (ps:=["stream","steps","loads"]) X G T.D7 rfl rfl ‹rP fun _ _ _=>rfl› fun _ _ F=>d7 (cl:=ig T) F (mg_none_of X G T.gY)
    c8:=bA (ps:=["net"]) X G T.D8 rfl rfl ‹wO fun _=>rfl› fun _ _ F=>d8 (cl:=ig T) F (mg_none_of X G T.aY) (mg_none_of X G T.mQ) ih.c5 ih.c2 ih.c6 ih.c7
    c9:=bA (ps:=["pairs","rate"]) X G T.D9 rfl rfl ‹gR fun _ _=>rfl› fun _ _ F=>d9 (cl:=ig T) F (mg_none_of X G T.mQ)
    c10:=bA (ps:=["net"]) X G T.D10 rfl rfl ‹wO fun _=>rfl› fun _ _ F=>d10 (cl:=ig T) F (mg_none_of X G T.rH) ih.c8 ih.c3
    c11:=bA (ps:=["thing"]) X G T.D11 rfl rfl ‹wO fun _=>rfl› fun _ _ F=>d11 (cl:=ig T) F (mg_none_of X G T.nZ) (mg_none_of X G T.uo) (mg_none_of X G T.aV)
    c12:=bA (ps:=["thing","least","most"]) X G T.D12 rfl rfl ‹rP fun _ _ _=>rfl› fun _ _ F=>d12 (cl:=ig T) F ih.c11
    c13:=bA (ps:=["thing"]) X G T.D13 rfl rfl ‹wO fun _=>rfl› fun _ _ F=>d13 (cl:=ig T) F (mg_none_of X G T.aV) (mg_none_of X G T.gY) (mg_none_of X G T.bj)
    c14:=bA (ps:=["many","thing"]) X G T.D14 rfl rfl ‹gR fun _ _=>rfl› fun _ _ F=>d14 (cl:=ig T) F (mg_none_of X G T.aY) (T.jb.elim fun t e=>⟨t,mg_of X G e⟩) (T.jO.elim fun t e=>⟨t,mg_of X G e⟩) ih.c13 ih.c12
    c15:=bA (ps:=["many","ways"]) X G T.D15 rfl rfl ‹gR fun _ _=>rfl› fun _ _ F=>d15 (cl:=ig T) F (mg_none_of X G T.jP) (mg_none_of X G T.aY) (mg_none_of X G T.bj) (T.gC.elim fun t e=>⟨t,mg_of X G e⟩) (T.ie.elim fun t e=>⟨t,mg_of X G e⟩) (T.jQ.elim fun t e=>⟨t,mg_of X G e⟩) ih.c13 ih.c14 ih.c12
    c16:=bA (ps:=["net","stream"]) X G T.D16 rfl rfl ‹gR fun _ _=>rfl› fun _ _ F=>d16 (cl:=ig T) F (mg_none_of X G T.JT) (mg_none_of X G T.gD)
    c17:=bA (ps:=["net","rooms"]) X G T.D17 rfl rfl ‹gR fun _ _=>rfl› fun _ _ F=>d17 (cl:=ig T) F (mg_none_of X G T.bj) (mg_none_of X G T.gD)
    c18:=bA (ps:=["net","stream"]) X G T.D18 rfl rfl ‹gR fun _ _=>rfl› fun _ _ F=>d18 (cl:=ig T) F (mg_none_of X G T.bz) (mg_none_of X G T.jg) ih.c5
    c19:=bA (ps:=["net","rate"]) X G T.D19 rfl rfl ‹gR fun _ _=>rfl› fun _ _ F=>d19 (cl:=ig T) F (mg_none_of X G T.aY) ih.c8 ih.c9 ih.c18 ih.c7
    c20:=bA (ps:=["net","last"]) X G T.D20 rfl rfl ‹gR fun _ _=>rfl› fun _ _ F=>d20 (cl:=ig T) F ih.c10
    c21:=bA (ps:=["bends","last"]) X G T.D21 rfl rfl ‹gR fun _ _=>rfl› fun _ _ F=>d21 (cl:=ig T) F (mg_none_of X G T.jg)
    Z1:=bA (ps:=["net","last"]) X G T.D22 rfl rfl ‹gR fun _ _=>rfl› fun _ _ F=>d22 (cl:=ig T) F ih.c10 ih.c21
    c23:=bA (ps:=["net","last"]) X G T.D23 rfl rfl ‹gR fun _ _=>rfl› fun _ _ F=>d23 (cl:=ig T) F (mg_none_of X G T.jg) ih.c20
    c24:=bA (ps:=["net","last"]) X G T.D24 rfl rfl ‹gR fun _ _=>rfl› fun _ _ F=>d24 (cl:=ig T) F ih.c19 ih.c23
    c25:=bA (ps:=["net"]) X G T.D25 rfl rfl ‹wO fun _=>rfl› fun _ _ F=>d25 (cl:=ig T) F (mg_none_of X G T.aY) (T.jc.elim fun t e=>⟨t,mg_of X G e⟩)
    c26:=bA (ps:=["net","forth","back"]) X G T.D26 rfl rfl ‹rP fun _ _ _=>rfl› fun _ _ F=>d26 (cl:=ig T) F (mg_none_of X G T.bj) (mg_none_of X G T.gD) ih.c17
    c27:=bA (ps:=["net"]) X G T.D27 rfl rfl ‹wO fun _=>rfl› fun _ _ F=>d27 (cl:=ig T) F ih.c25 ih.c26
    c28:=bA (ps:=["net","forth"]) X G T.D28 rfl rfl ‹gR fun _ _=>rfl› fun _ _ F=>d28 (cl:=ig T) F (mg_none_of X G T.aY) ih.c16
    c29:=bA (ps:=["net","forth"]) X G T.D29 rfl rfl ‹gR fun _ _=>rfl› fun _ _ F=>d29 (cl:=ig T) F (mg_none_of X G T.gD) ih.c25 ih.c28 ih.c26
    c30:=bA (ps:=["net","last"]) X G T.D30 rfl rfl ‹gR fun _ _=>rfl› fun _ _ F=>d30 (cl:=ig T) F (mg_none_of X G T.aY) (mg_none_of X G T.bj) (mg_none_of X G T.gD) ih.c27 ih.c24
    c31:=bA (ps:=["net","last","forth"]) X G T.D31 rfl rfl ‹rP fun _ _ _=>rfl› fun _ _ F=>d31 (cl:=ig T) F ih.c28 ih.c29 ih.Z1 ih.c27
    c32:=bA (ps:=["script","many"]) X G T.D32 rfl rfl ‹gR fun _ _=>rfl› fun _ _ F=>d32 (cl:=ig T) F (mg_none_of X G T.CT) (mg_none_of X G T.aY) (mg_none_of X G T.bz)
    c33:=bA (ps:=["draws","at","many"]) X G T.D33 rfl rfl ‹rP fun _ _ _=>rfl› fun _ _ F=>d33 (cl:=ig T) F (mg_none_of X G T.aY)
    c34:=bA (ps:=["draws","at","many"]) X G T.D34 rfl rfl ‹rP fun _ _ _=>rfl› fun _ _ F=>d34 (cl:=ig T) F (mg_none_of X G T.aY)
    c35:=bA (ps:=["draws","at","places","most"]) X G T.D35 rfl rfl ‹lk4 fun _ _ _ _=>rfl› fun _ _ F=>d35 (cl:=ig T) F (mg_none_of X G T.JV) (mg_none_of X G T.mQ) (mg_none_of X G T.bz) ih.c33 ih.c34 ih.c15
    c36:=bA (ps:=["draws","at"]) X G T.D36 rfl rfl ‹gR fun _ _=>rfl› fun _ _ F=>d36 (cl:=ig T) F ih.c33 ih.c34
    c37:=bA (ps:=["net","forth","back"]) X G T.D37 rfl rfl ‹rP fun _ _ _=>rfl› fun _ _ F=>d37 (cl:=ig T) F (mg_none_of X G T.aY) (mg_none_of X G T.bz) (mg_none_of X G T.bj)
    c38:=bA (ps:=["thing"]) X G T.D38 rfl rfl ‹wO fun _=>rfl› fun _ _ F=>d38 (cl:=ig T) F (mg_none_of X G T.nZ) (mg_none_of X G T.uo) (mg_none_of X G T.aV)
    c39:=bA (ps:=["script"]) X G T.D39 rfl rfl ‹wO fun _=>rfl› fun _ _ F=>d39 (cl:=ig T) F (mg_none_of X G T.aV) (mg_none_of X G T.aY) (mg_none_of X G T.bz) (mg_none_of X G T.bj) ih.c32 ih.c37 ih.c36 ih.c35 ih.c38 ih.c30 ih.c31 ih.Z1}
theorem Vg{K:PySem.W.Frag}{x:Str}{i:Int}{t:Tok}(a:PySem.W.nsIn K mainGlobals x=some (some (Value.int i t))):∃t,PySem.W.nsIn K mainGlobals x=some (some (Value.int i t)):=⟨t,a⟩
set_option maxHeartbeats 0 in
theorem Ug{Pg:Program}{w:World}{K:PySem.W.Frag}{mg:Str->Option Value}{h:Heap}{fa:Addr}(T:Txt K)(X:K.In h)(G:h.Ns mainGlobals mg)(hmg:mg "law"=some (.ref fa)):∃fd:FuncData,(∀(s:Shared)(u:Value),BindsTo s fd ⟨[u],[]⟩ [("script",u)])/\∀base:Heap,K.In base->base.Ns mainGlobals mg->m5 Pg w K mg base Ft 40 fa fd ["script"] (Mm K 1 (run Γ 100000000 40 39)):=by
 obtain⟨f,fd,a,F⟩:=T.D39.ex;have e:=hmg.symm.trans (mg_of X G a);cases e;refine⟨fd,fun s u=>?_,fun base kb nb=>?_⟩;.obtain⟨oc,od,kV,doc,pm,an,cdv,ct,osl,rfl,lk,hcd⟩:=F.ex;exact .of_eq rfl
 .have ih:=Jx (Pg:=Pg) (w:=w) (base:=base) T kb nb 39;exact d39 (cl:=ig T) (k:=39) (n:=100000000) (c:=run Γ 100000000 39) F (mg_none_of X G T.aV) (mg_none_of X G T.aY) (mg_none_of X G T.bz) (mg_none_of X G T.bj) ih.c32 ih.c37 ih.c36 ih.c35 ih.c38 ih.c30 ih.c31 ih.Z1
end T
open PySem PySem.W PyProof.Rows
set_option maxRecDepth 100000 in
set_option maxHeartbeats 0 in
theorem PySem.Challenge.cw_hourhaul_k86_best_forth_told_holds : PySem.Challenge.rw_hourhaul_k86_best_forth_told.Holds := by
 w_on;o_law;k_head;(case hw=>w_witness2);k_fill;refine L2.Fx (l:=PySem.Challenge.rw_hourhaul_k86_best_forth_told) (n:=63) (k:=40) (x:="script") (CX:=L2.Ft) (sp:=fun K=>HH.Mm K 1 (HH.run T.Γ 100000000 40 39)) rfl (by decide) rfl ⟨rfl,by decide,by decide⟩ (fun w h Y=>PySem.W.kIn_of Y) ?F ?S ?C;case F=>
  intro w mg fa h KX G hmg;refine T.Ug ?T KX G hmg;constructor;iterate 40(· refine' HH.Um ?a ?l ?c ?k;case a|l|c|k=>k_is)
  iterate 16(· k_is)
  . (refine' T.Vg ?a);(case a=>k_is)
  . (refine' T.Vg ?a);(case a=>k_is)
  . (refine' T.Vg ?a);(case a=>k_is)
  . (refine' T.Vg ?a);(case a=>k_is)
  . (refine' T.Vg ?a);(case a=>k_is)
  . (refine' T.Vg ?a);(case a=>k_is)
 case S=>intro K H a ns hl hO hS;obtain⟨as,e⟩:=T.Kr ns hl;exact HH.Eh hS e
 case C=>exact fun H s e s' z=>z
