import PyProof.Rows.All
import Wide.All
import OpenK.AllK
import Wide.FinOn
import Lean
import PyProof.EqAt
import PyProof.EqKinds
import PyProof.TupleCall
import PySem.Str
import PySem.Builtin.Int.W1All
import PyProof.NeKinds
import PyProof.ZipIter
import PyProof.SumWalkG
import PyProof.MinMaxWalk
import PyProof.WalksMore
import PyProof.SeqI3
import PyProof.WalkInts
import PyProof.Rows.CallKwBuiltin
import PyProof.Rows.Tup
import PyProof.CollectIter
import PyProof.EnumMake
import PyProof.TupleOfSeq
import PyProof.ListNew
import PyProof.ReprLoop
import PyProof.StationsW
import PyProof.ExcClass3
import PyProof.Rows.CatchBare
import OpenK.KOwn
import KE.KIsAll
import PyProof.NsDelKeeps
import PyProof.RulesAs
import PyProof.ExcArgsOwn
import PyProof.ListRange
import KE.RegKIsAll
import KE.KRevIter
import PyProof.Rows.SortRuns
import KE.KSortTup
import PyProof.DictWalks
import KE.KDictList
import KE.KItemsList
import PyProof.ExcBaseAll.ValueError
import PySem.Challenge.RW_hourhaul_k87_forth_judged
set_option Elab.async false
set_option linter.all false
set_option maxRecDepth 100000
set_option genInjectivity false
set_option genSizeOf false
set_option compiler.extract_closed false
set_option bootstrap.genMatcherCode false
open PySem renaming wpAny_bind→av,Value→aX,Shared→a_,Addr→bd,wpAny_pure→cr,starEach→cv,wpAny→cy,model→cS,mainGlobals→dc,Program→df,Expr→dr,compareOp→eg,World→ek,wpAny_mono→et,eval→eu,wpAny_newObj_type→ew,bootBuiltins→ey,Around→ez,Heap→eA,Stmt→eJ,foldedSetIterable→eS,sizeLine_eq→fe,wpAny_pyIter_tuple→fi,wpAny_field→fm,IsPair→ft,binaryOp→fw,swapsWith→fx,wpAny_callSpecial?_slot→fR,wpAny_loadPart'→fS,cLine→fT,behindInMarks→gc,wpAny_truthy_bool→gx,wpAny_pyIter_list→gy,wpAny_seqItems→gL,wpAny_call_entry→gN,wpAny_setField_rec→gX,sysModules→g9,wpAny_passesOwn→hE,FuncData→hJ,wpAny_holding→hQ,Builtin→im,attributeBase→ix,tupleKind_room_in1→iA,backTo→iF,IsZip→i5,assignEach→i8,relabel→i9,sliceBounds→je,Scope→jp,getItem→jS,callType_new→jV,cellsFrom→j_,wpAny_rule→kb,NameKind→ke,holding→ki,Keyword→kn,swapsWithSole→ko,swappedStores→kq,assign→ku,wpAny_typeOf→kL,codeAny→kN,call_meets→kP,letOwnedTupleGo→kQ,codeAny_builtin→kS,wpAny_nextOf_list_end→kT,wpAny_updateSeq_pair→k4,keywordEach→k9,ZipApart→lf,Operator→lh,IsPart→li,tupleKind→ll,callerA→ln,PassesOwn→lp,wpAny_standAt→lR,wpAny_onRaise→lS,plainId_quiet→lT,wpAny_Call_Name_kw→l6,typeIs_int→l7,rawInt→l8,wpAny_pyIter_enum→mf,valueAt→mh,seqIndex_neg→mi,concat_meets→mu,Meets→mw,wpAny_eqBool_int→mI,noFill_tuple_add→mM,unsupported→mN,subscripted→mP,seqIndex_of→mT,wpAny_specialOf→m4,wpAny_execs_nil→m9,setItem→nh,notedBy→nk,BindsTo→nl,wpAny_letOwnedTupleGo_enum→nm,typeLookup→nq,pyNext→ny,newFunctionEnv→nB,backToKw→nI,atKey→nK,CmpOp→n_,wpAny_binaryOp_repeat_ref→og,wpAny_comprehension_free→om,wpAny_attempt→oo,seq_tuple_add→ot,assignInOrder→ox,wpAny_pyNext_enum_itemD→oz,field→oB,bindL→oC,bindC→oD,wpAny_pyNext_enum_endD→oQ,wpAny_nextOf_list_item→oT,wpAny_getItem_list_neg→o3,pyIter→pf,codeAny_mono→pz,call_meetsIn→pE,wpAny_isTrue_Compare1→p4,builtinLookup_eq_fast→p5,wpAny_loadName_local→p9,wpAny_letGo→p_,bindName→qq,bindArgs→qr,Model→qB,wpAny_loadName_cell→qE
open List renaming getElem?_set_self→bx,replicate→b_,size_toArray→cx,getElem?_append_left→cK,mem_map→cU,map_cons→c_,mem_of_getElem?→da,mem_cons→de,length_map→dy,mem_cons_of_mem→dE,range→dP,mem_singleton→dV,length_append→dZ,length_cons→ea,map_map→ec,getElem?_append_right→er,nodup_cons→eK,getElem?_set_ne→eP,getElem?_map→eR,mem_append→eW,append_assoc→fb,getElem?_cons_succ→fk,mem_append_right→fq,getElem?_eq_getElem→fv,map_append→fy,append_nil→fE,map_congr_left→fF,lookup_cons→fI,all_eq_true→fP,getD_eq_getElem?_getD→f_,find?_cons→gl,eq_nil_of_length_eq_zero→gE,replicate_succ→gS,cons_append→gT,mem_cons_self→hU,take_of_length_le→hX,getElem?_zip_eq_some→h9,filterMap_cons→ia,drop_eq_getElem_cons→ib,getElem?_replicate→ip,getElem?_of_mem→iy,of_mem_zip→iE,not_mem_nil→iO,getElem_mem→iP,contains_iff_mem→i7,getD→jv,length_range→jI,mem_range→j4,getElem_of_mem→kc,mem_filter→kw,length_filter_le→ky,pairwise_append→kD,length→kF,nodup_append→kM,drop_eq_nil_iff→kR,pairwise_cons→kU,getElem?_take→kX,filter_append→k3,length_take→k7,ext_getElem→k_,any_cons→lc,map_nil→lm,take_add_one→lw,zip_cons_cons→lP,mem_flatMap→lU,length_drop→lV,take_append_of_le_length→md,reverse_cons→ml,getElem?_set→mr,flatten_cons→ms,any_eq_true→m3,getElem?_cons_zero→m_,sum_cons→nv,nil_append→nz,foldl_cons→nE,min?_eq_some_iff→nX,length_singleton→n3,length_replicate→n4,eq_nil_or_concat→n5,countP_mono_left→n7,concat_eq_append→n8,mem_append_left→oj,getElem?_mapIdx→ol,toArray→o4,foldl→qk,all_cons→qA
open PySem.Heap renaming get?_push_size→cw,lt_size→dl,size_push→ei,get?_update_other→hY,get?_update_self→iS,SameBut→pS,IsTuple→pV
open Or renaming inl→cE,inr→dA
open PySem.PassesOwn renaming never→du
open Sum renaming inl→dL,inr→ly
open Bool renaming false_ne_true→dQ,and_eq_true→fN,false_eq_true→iq,and_eq_false_iff→kA,or_eq_false_iff→kH,and_false→kK,or_eq_true→l9,eq_iff_iff→me,not_eq_true'→mn,false_and→mE
open Nat renaming ne_of_lt→dS,lt_of_lt_of_le→d_,lt_irrefl→hV,le_trans→h_,le_of_lt→k8,le_of_not_lt→ma,zero_add→nL,mul_comm→nN,lt_trans→nS,le_mul_of_pos_left→nV,pow_le_pow_right→oy,ne_of_gt→qf
open PySem.Value renaming ref→dY,int→eh,none→eL,type→e_,bool→jh,notImplemented→kC
open Option.some renaming inj→eF
open PyProof.Rows renaming callWith_type1→eH,Keyed→gd,IntsAre→gI,wpS_bind→hB,slot_tuple_getitem→ic,SortSt→iN,SortKind→i3,pendingOf→jZ,wpS_pure→ka,envOfC→lb,AllBare→lx,assignInOrder_cons→l_,subscriptTail→oq,listUpdate_at→ow,IsTup→oI,wpS_get→oN,wpS_forRange→oP,subscriptTail_builtinR→o_,seqObj→pc,minRun'→pp,seqEpoch_at→qc,failedOf→qo,arrOf→qv
open PySem.NameKind renaming free→eI,cell→gi
open Int renaming le_refl→eM,mul_le_mul_of_nonneg_right→i4,toNat_of_nonneg→ja,toNat_natCast→lB,add_assoc→ng,mul_zero→n9,sub_zero→qa,mul_comm→qh
open Pure renaming pure→eT
open False renaming elim→fg
open Option renaming map_eq_some_iff→fh,map_some→kf,isSome_iff_exists→mB
open PySem.Obj renaming mapSeq→ga
open Ne renaming symm→gu
open PySem.Shared renaming heap→g_
open ForInStep renaming yield→h8
open PySem.SeqAt renaming EqAt→ii
open Function renaming comp_def→io
open PySem.Str renaming ofString→iL
open PySem.Around renaming under_plainId→iX
open PySem.Builtin.Tuple renaming tupleExact→i6
open Array renaming length_toList→i_,toList_inj→lI,getD→mA
open PySem.Calls renaming spliced_cons→jx,callWith_builtin→kg,spliced_nil→lj,Name_function_global→my,evalArgs_plain→oe
open True renaming intro→kl
open PyProof.Rows.IntsAre renaming length→kx
open PySem.Builtin.SmallTypes renaming ownedTupleIsFree→kB,nextOf→k5
open PyProof.Rows.IsTup renaming new→kG
open PySem.Builtin.List renaming listExtendWith→k6,listTooLong→m2
open Prod.mk renaming injEq→mv
open PySem.Heap.SameBut renaming update→mx
open PySem.Builtin.Slice renaming slicePlaces→mS,sliceAdjust→qb
open List(foldl toArray map forIn_cons forIn_nil length_nil map_set range_succ)
open PySem.W(mg_none_of mg_of keepIn methodObj kitAny kitx_dict)
open PySem.Heap(IsList)
open Nat(le_refl le_succ)
open PySem.Builtin.SmallTypes(ownedTupleHandOut)
open PySem.Builtin.Tuple(tupleItemsOf)
open Option(isSome_map getD_none)
open PySem.Builtin.Slice(sliceApplied)
open PySem.Builtin.List(listLengthHint listSameRef)
open Array(toList)
open PySem.F(slot_tuple_add entry_tuple_add args_tuple_add_2 slot_tuple_mul plainAttrs_list slot_dict_get)
open PySem.SeqAt.EqAt(int_str str_int)
open PySem.SeqAt.RcAt(lists_lengths)
open Int(mul_one mul_add mul_neg)
open PySem.SeqAt.RcNeAt(none_int none_str bool_int bool_str int_none int_bool int_int int_list str_none str_bool str_str str_list list_int list_str)
theorem dM{h:PySem.Heap}{o b:PySem.Obj}{a:PySem.Addr}(e:h.get? a=some o):(h.push b).get? a=some o:=PySem.Heap.get?_push_of_some _ e
theorem dJ{b:Type}{l:List b}{i:Nat}{a:b}(h:l[i]?=some a):∃h:i<l.length,l[i]=a:=List.getElem?_eq_some_iff.mp h
theorem fG{b:Type}{l:List b}{i j:Nat}{a:b}(h:j≠i):(l.set i a)[j]?=l[j]?:=List.getElem?_set_ne (gu h)
theorem vU{n:Nat}:0<=n:=Nat.zero_le n
theorem dw{n:Nat}:n<=n:=Nat.le_refl n
section
namespace L2
open PySem PySem.Spec PyProof.Rows
variable{w:ek}{h:eA}{t' i:Nat}{M:qB}{A:ez}{s:a_}{pos:Pos}{pins:List (bd×Obj)}{op:n_}{K:PySem.W.Frag}{tg:dr}{us:List aX}
noncomputable abbrev Key:=Sum Int Str
noncomputable def oH:Key->aX->Bool|.inl k,v=>Value.isInt k v|.inr x,v=>Value.isStrOf x v
noncomputable def ad5(w:ek):Key->Int|.inl k=>hashInt k|.inr x=>hashStr w x
theorem bK:∀{k:Key}{v:aX},oH k v=true->(∃i t,k=dL i/\v=eh i t)\/(∃x t,k=ly x/\v=Value.str x t)|.inl i,v,h=>by obtain⟨t,e⟩:=Value.isInt_shape (k:=i) (v:=v) h;exact .inl ⟨i,t,rfl,e⟩|.inr x,v,h=>by obtain⟨t,e⟩:=Value.isStrOf_shape (x:=x) (v:=v) h;exact .inr ⟨x,t,rfl,e⟩
theorem FW(i:Int)(t:Tok):oH (.inl i) (.int i t)=true:=by simp[oH,Value.isInt]
theorem Fq(x:Str)(t:Tok):oH (.inr x) (.str x t)=true:=by simp[oH,Value.isStrOf]
theorem RD(a b:Int):decide ((dL a:Key)=dL b)=(a==b):=by
 by_cases e:a=b;.subst e;simp
 .have h:¬(dL a:Key)=dL b:=λq=>e (Sum.inl.inj q);rw[decide_eq_false h];exact(beq_eq_false_iff_ne.mpr e).symm
theorem T5(a b:Str):decide ((ly a:Key)=ly b)=decide (a=b):=by
 by_cases e:a=b;.subst e;simp
 .have h:¬(ly a:Key)=ly b:=λq=>e (Sum.inr.inj q);rw[decide_eq_false h,decide_eq_false e]
theorem Tv(a:Int)(b:Str):decide ((dL a:Key)=ly b)=false:=decide_eq_false (λq=>nomatch q)
theorem SM(a:Str)(b:Int):decide ((ly a:Key)=dL b)=false:=decide_eq_false (λq=>nomatch q)
noncomputable def bj(prog:df)(w:ek):PySem.KeyKind prog w Key where
 is:=oH;hash:=ad5 w;inj:=λv a b g f=>by
  rcases bK g with⟨i,t,rfl,rfl⟩|⟨x,t,rfl,rfl⟩
  . rcases bK f with⟨j,u,rfl,e⟩|⟨y,u,rfl,e⟩;.injection e with e1 _;rw[e1]
    .exact nomatch e
  . rcases bK f with⟨j,u,rfl,e⟩|⟨y,u,rfl,e⟩;.exact nomatch e
    .injection e with e1 _;rw[e1]
 byValue:=λk v h=>by rcases bK h with⟨i,t,rfl,rfl⟩|⟨x,t,rfl,rfl⟩<;>rfl
 pyHash:=λc h=>by
  rcases bK c with⟨i,t,rfl,rfl⟩|⟨x,t,rfl,rfl⟩;.exact wpAny_pyHash_int h
  .exact wpAny_pyHash_str h
 eqBool:=λl c h=>by
  rcases bK l with⟨i,t,rfl,rfl⟩|⟨x,t,rfl,rfl⟩
  . rcases bK c with⟨j,u,rfl,rfl⟩|⟨y,u,rfl,rfl⟩;.rw[RD]at h;exact mI h
    .rw[Tv]at h;exact int_str i t y u _ _ _ _ h
  . rcases bK c with⟨j,u,rfl,rfl⟩|⟨y,u,rfl,rfl⟩;.rw[SM]at h;exact str_int x t j u _ _ _ _ h
    .rw[T5]at h;exact wpAny_eqBool_str h
 «strs»:=λk x t v h=>by
  rcases bK h with⟨i,u,rfl,e⟩|⟨y,u,rfl,e⟩;.exact nomatch e
  .injection e with e1 _;subst e1;cases v<;>rfl
theorem xR(prog:df)(w:ek)(i:Int)(t:Tok):(bj prog w).is (.inl i) (.int i t)=true:=FW i t
theorem wB(prog:df)(w:ek)(x:Str)(t:Tok):(bj prog w).is (.inr x) (.str x t)=true:=Fq x t
inductive V where|non|bl(b:Bool)|int(i:Int)|str(x:Str)|byt(b:Array UInt8)|flt(b:UInt64)|ref(a:bd)|ty(n:String)deriving DecidableEq
noncomputable def RelV:V->aX->Prop|.non,u=>u=eL|.bl b,u=>u=jh b|.int i,u=>∃t,u=eh i t|.str x,u=>∃t,u=Value.str x t|.byt b,u=>∃t,u=Value.bytes b t|.flt b,u=>∃t,u=Value.float b t|.ref a,u=>u=dY a|.ty n,u=>u=e_ n
noncomputable abbrev Vals:List V->List aX->Prop:=Paired RelV
theorem Vals.length{xs:List V}{us:List aX}(r:Vals xs us):xs.length=us.length:=Paired.length r
theorem Vals.get:∀{xs:List V}{us:List aX}{i:Nat}{x:V},Vals xs us->xs[i]?=some x->∃u,us[i]?=some u/\RelV x u|_,_,_,_,.nil,e=>by simp at e|_,_,0,_,.cons r _,e=>by simp at e;subst e;exact⟨_,rfl,r⟩|_,_,i+1,x,.cons _ t,e=>by obtain⟨u,h1,a⟩:=Vals.get (i:=i) (x:=x) t (by simpa using e);exact⟨u,by simpa using h1,a⟩
theorem Vals.set{x:V}{u:aX}(r:RelV x u):∀{xs:List V}{us:List aX}(i:Nat),Vals xs us->Vals (xs.set i x) (us.set i u)|_,_,_,.nil=>.nil|_,_,0,.cons _ t=>.cons r t|_,_,i+1,.cons q t=>.cons q (Vals.set r i t)
theorem Vals.append:∀{xs ys:List V}{us ws:List aX},Vals xs us->Vals ys ws->Vals (xs++ys) (us++ws)|_,_,_,_,.nil,s=>s|_,_,_,_,.cons r t,s=>.cons r (Vals.append t s)
theorem Vals.take:∀{xs:List V}{us:List aX}(n:Nat),Vals xs us->Vals (xs.take n) (us.take n)|_,_,0,_=>.nil|_,_,_+1,.nil=>.nil|_,_,n+1,.cons r t=>.cons r (Vals.take n t)
theorem Vals.drop:∀{xs:List V}{us:List aX}(n:Nat),Vals xs us->Vals (xs.drop n) (us.drop n)|_,_,0,r=>r|_,_,_+1,.nil=>.nil|_,_,n+1,.cons _ t=>Vals.drop n t
noncomputable def pq:Option V->Option aX->Prop|some v,some u=>RelV v u|none,none=>True|_,_=>False
noncomputable def KV{κ:Type}:List (κ×V)->List (κ×aX)->Prop:=Paired λ(p:κ×V)(q:κ×aX)=>p.1=q.1/\RelV p.2 q.2
noncomputable def kV:Key->V|.inl i=>.int i|.inr x=>.str x
inductive HO where|lst(xs:List V)|tup(xs:List V)|dK(kvs:List (Key×V))|dT(kvs:List (List Key×V))|set(S:Int->Bool)(n:Nat)|ins(C dx:bd)(fs:List (Str×V))|own(x:bd)|xd(fs:List (Str×V))|met(f x:bd)|rY(lo hi:Int)|dz(o:Obj)(u:HO)|Vy(ps:Array aX)|ext(φ:eA->Prop)
noncomputable abbrev Hp:=bd->Option HO
variable{H:Hp}
noncomputable def upd(H:Hp)(a:bd)(o:HO):Hp:=λb=>if b=a then some o else H b
theorem aP{a:bd}{o:HO}:upd H a o a=some o:=by unfold upd;rw[if_pos rfl]
theorem aC{a b:bd}{o:HO}(h:b≠a):upd H a o b=H b:=by unfold upd;rw[if_neg h]
theorem vA{a:bd}{o u:HO}:upd (upd H a o) a u=upd H a u:=by funext b;unfold upd;split<;>rfl
theorem XJ{a b:bd}{o u:HO}(h:H a=some o)(h':H b=some u)(d:o≠u):a≠b:=by intro e;subst e;rw[h]at h';exact d (eF h')
theorem gw{a b:bd}{o:HO}(h:H a=some o)(h':H b=none):a≠b:=by intro e;subst e;rw[h]at h';cases h'
section
variable(P:df)(w:ek)
noncomputable def bJ(H:Hp)(h:eA)(a:bd):HO->Prop|.lst xs=>xs.length<=sizeLine/\∃(b:List aX)(n:Nat),Vals xs b/\h.get? a=some {cls:=.type "list",data:=.seq b.toArray n}|.tup xs=>xs.length<=sizeLine/\∃b:List aX,Vals xs b/\oI h a b.toArray|.dK kvs=>kvs.length<=sizeLine/\(a==g9)=false/\∃vs,KV kvs vs/\h.DictOf (bj P w) a vs|.dT kvs=>kvs.length<=sizeLine/\(a==g9)=false/\∃xs:List (List Key×bd×aX),Paired (λ(p:List Key×V)(q:List Key×bd×aX)=>p.1=q.1/\H q.2.1=some (.tup (p.1.map kV))/\RelV p.2 q.2.2) kvs xs/\∃o es ep,h.get? a=some o/\o.ExactDict/\o.data=.dict es ep/\es.toList=xs.map (entryOfKey (ll (bj P w)))/\(xs.map (·.1)).Nodup|.set S n=>h.SetOf (intKind P w) a S n|.ins C e fs=>H e=some (.own a)/\fs.length<=1000/\e≠a/\h.get? a=some (PySem.W.instObj C e)/\∃c,h.Ns1 e c/\(∀f,pq (fs.lookup f) (c f))/\PySem.Within c (fs.map (·.1))|.own _=>∃o,h.get? a=some o|.xd fs=>∃c,h.Ns1 a c/\∀f,pq (fs.lookup f) (c f)|.rY lo hi=>∃t u v,h.get? a=some {cls:=.type "range",data:=.fields #[.int lo t,.int hi u,.int 1 v]}|.dz o u=>h.get? a=some o/\bJ H h a u|.Vy ps=>h.get? a=some {cls:=.none,data:=.fields ps}|.met f x=>h.get? a=some (methodObj (.ref f) (.ref x))|.ext g=>g h/\(∃o,h.get? a=some o)/\∀h1 j:eA,g h1->(∀o,h1.get? a=some o->j.get? a=some o)->g j
noncomputable def ni(H:Hp)(h:eA):Prop:=∀a o,H a=some o->bJ P w H h a o
end
section
variable{P:df}{w:ek}{H H':Hp}{h h':eA}{a:bd}{o:HO}
theorem bJ.lt(x:bJ P w H h a o):a<h.objs.size:=by cases o with|lst xs=>obtain⟨_,_,_,_,e⟩:=x;exact dl e|tup xs=>obtain⟨_,_,_,p⟩:=x;exact p.lt|dK kvs=>obtain⟨_,_,_,_,o,_,_,e,_⟩:=x;exact dl e|dT kvs=>obtain⟨_,_,_,_,o,_,_,e,_⟩:=x;exact dl e|set S n=>obtain⟨o,_,_,_,e,_⟩:=x;exact dl e|ins C b fs=>obtain⟨_,_,_,e,_⟩:=x;exact dl e|own y=>obtain⟨_,e⟩:=x;exact dl e|xd fs=>obtain⟨_,⟨_,_,_,e,_⟩,_⟩:=x;exact dl e|rY lo hi=>obtain⟨_,_,_,e⟩:=x;exact dl e|dz c u=>obtain⟨e,_⟩:=x;exact dl e|Vy ps=>exact dl (show h.get? a=some _ from x)|met f y=>exact dl (show h.get? a=some _ from x)|ext g=>obtain⟨_,⟨_,e⟩,_⟩:=x;exact dl e
theorem Paired.Ss{g j:Type}{F G:g->j->Prop}:∀{c:List g}{e:List j},Paired F c e->(∀a b,F a b->G a b)->Paired G c e|_,_,.nil,_=>.nil|_,_,.cons r t,f=>.cons (f _ _ r) (Paired.Ss t f)
theorem bJ.stay(x:bJ P w H h a o)(k:∀b u,(b=a\/H b=some (.own a))->h.get? b=some u->h'.get? b=some u)(ho:∀b,H b=some (.own a)->H' b=some (.own a))(ht:∀b xs,H b=some (.tup xs)->H' b=some (.tup xs)):bJ P w H' h' a o:=by induction o with|lst xs=>obtain⟨z,j,n,r,e⟩:=x;exact⟨z,j,n,r,k _ _ (.inl rfl) e⟩|tup xs=>obtain⟨z,j,r,g,e,c⟩:=x;exact⟨z,j,r,g,k _ _ (.inl rfl) e,c⟩|dK kvs=>obtain⟨z,y,vs,r,g,es,ep,e,c⟩:=x;exact⟨z,y,vs,r,g,es,ep,k _ _ (.inl rfl) e,c⟩|dT kvs=>obtain⟨z,y,xs,r,g,es,ep,e,c⟩:=x;exact⟨z,y,xs,Paired.Ss r λp q z=>⟨z.1,ht _ _ z.2.1,z.2.2⟩,g,es,ep,k _ _ (.inl rfl) e,c⟩|set S n=>obtain⟨g,es,ep,t,e,c⟩:=x;exact⟨g,es,ep,t,k _ _ (.inl rfl) e,c⟩|ins C G fs=>obtain⟨d,z,ne,e,l,⟨m,es,ep,B,c⟩,r⟩:=x;exact⟨ho _ d,z,ne,k _ _ (.inl rfl) e,l,⟨m,es,ep,k _ _ (.inr d) B,c⟩,r⟩|own y=>obtain⟨g,e⟩:=x;exact⟨g,k _ _ (.inl rfl) e⟩|xd fs=>obtain⟨l,⟨m,es,ep,e,c⟩,r⟩:=x;exact⟨l,⟨m,es,ep,k _ _ (.inl rfl) e,c⟩,r⟩|rY lo hi=>obtain⟨t,u,v,e⟩:=x;exact⟨t,u,v,k _ _ (.inl rfl) e⟩|dz g u E=>obtain⟨e,q⟩:=x;exact⟨k _ _ (.inl rfl) e,E q⟩|Vy ps=>have e:h.get? a=some {cls:=.none,data:=.fields ps}:=x;show h'.get? a=some {cls:=.none,data:=.fields ps};exact k a _ (.inl rfl) e|met f y=>have e:h.get? a=some (methodObj (.ref f) (.ref y)):=x;show h'.get? a=some (methodObj (.ref f) (.ref y));exact k a _ (.inl rfl) e|ext I=>obtain⟨p,⟨o,e⟩,st⟩:=x;exact⟨st _ _ p λo q=>k _ _ (.inl rfl) q,⟨o,k _ _ (.inl rfl) e⟩,st⟩
theorem ni.lt(x:ni P w H h)(e:H a=some o):a<h.objs.size:=(x a o e).lt
theorem ni.fresh(x:ni P w H h)(e:h.objs.size<=a):H a=none:=by cases q:H a with|none=>rfl|some u=>exact absurd (d_ (x.lt q) e) (hV _)
theorem ni.kept(x:ni P w H h)(k:∀b u,h.get? b=some u->h'.get? b=some u):ni P w H h':=λa o e=>(x a o e).stay (λb u _ q=>k b u q) (λ_ q=>q) λ_ _ q=>q
theorem ni.laid(x:ni P w H h)(k:∀b u,h.get? b=some u->h'.get? b=some u)(l:h.objs.size<=a)(f:bJ P w (upd H a o) h' a o):ni P w (upd H a o) h':=λb u e=>by
 have g:=x.fresh l;by_cases j:b=a;.subst j;rw[aP]at e;cases e;exact f
 .rw[aC j]at e;exact(x b u e).stay (λc v _ q=>k c v q) (λc q=>by rw[aC (gw q g)];exact q) λc xs q=>by rw[aC (gw q g)];exact q
end
noncomputable def Rd(H:Hp)(a:bd)(u:HO):Prop:=H a=some u\/∃o,H a=some (.dz o u)
theorem Rd.ok{P:df}{a:bd}{u:HO}(r:Rd H a u)(x:ni P w H h):bJ P w H h a u:=by
 rcases r with r|⟨o,r⟩;.exact x a u r
 .obtain⟨_,q⟩:=x a _ r;exact q
noncomputable def XM:Option HO->Prop|some (.lst _)=>True|some (.dK _)=>True|some (.dT _)=>True|some (.set _ _)=>True|some (.ins _ _ _)=>True|some (.ext _)=>True|_=>False
section
variable{P:df}{w:ek}{H:Hp}{h h':eA}{x e:bd}{o':HO}
theorem ni.write(ok:ni P w H h)(g:XM (H x))(he:e=x\/H e=some (.own x))(k:∀b u,b≠e->h.get? b=some u->h'.get? b=some u)(l:∃u,h'.get? e=some u)(m:bJ P w (upd H x o') h' x o'):ni P w (upd H x o') h':=λb u q=>by
 have f:∀c y,H c=some (.own y)->c≠x:=λc y r z=>by subst z;rw[r]at g;exact g
 have n:∀c xs,H c=some (.tup xs)->c≠x:=λc xs r z=>by subst z;rw[r]at g;exact g
 by_cases j:b=x;.subst j;rw[aP]at q;cases q;exact m
 . rw[aC j]at q;by_cases a:b=e
   . have o:H b=some (.own x):=by
      rcases he with z|z;.exact absurd (a.trans z) j
      .rw[a];exact z
     rw[q]at o;cases o;obtain⟨v,p⟩:=l;exact⟨v,by rw[a];exact p⟩
   . refine(ok b u q).stay (λc v hc r=>k c v ?_ r) (λc r=>by rw[aC (f c b r)];exact r) λc xs r=>by rw[aC (n c xs r)];exact r
     rcases hc with rfl|hc;.exact a
     . rintro rfl;rcases he with z|z;.exact f c b hc z
       .rw[hc]at z;cases z;exact j rfl
end
structure Un(fs ex:List bd)(H H':Hp)(h h':eA):Prop where
 keep:∀b o,h.get? b=some o->H b=none->b∉fs->b∉ex->h'.get? b=some o
 slot:∀b o,h.get? b=some o->H b=none->b∈fs->b∉ex->∃sl,h'.get? b=some {o with slots:=sl}free:∀b o,h.get? b=some o->H b=none->b∉ex->H' b=none
 there:∀b o,h.get? b=some o->b∉ex->∃o',h'.get? b=some o'
 tups:∀b xs,H b=some (.tup xs)->H' b=some (.tup xs)vX:∀b o u,H b=some (.dz o u)->H' b=some (.dz o u)yr:∀b ps,H b=some (.Vy ps)->∃more,H' b=some (.Vy (ps++more))
section
variable{fs fs' ex ex':List bd}{H H1 H2:Hp}{h h1 h2 h':eA}{a x e:bd}{o:HO}
theorem Un.any(u:Un fs ex H H1 h h1){b:bd}{c:Obj}(q:h.get? b=some c)(n:H b=none)(f:b∉ex):∃sl,h1.get? b=some {c with slots:=sl}:=by
 by_cases g:b∈fs;.exact u.slot b c q n g f
 .exact⟨c.slots,u.keep b c q n g f⟩
theorem Un.kept(k:∀b u,h.get? b=some u->h'.get? b=some u):Un fs ex H H h h':=⟨λb c q _ _ _=>k b c q,λb c q _ _ _=>⟨c.slots,k b c q⟩,λ_ _ _ n _=>n,λb c q _=>⟨c,k b c q⟩,λ_ _ q=>q,λ_ _ _ q=>q,λ_ ps q=>⟨#[],by rw[q];simp⟩⟩
theorem Un.refl:Un fs ex H H h h:=Un.kept λ_ _ q=>q
theorem Un.laid(k:∀b u,h.get? b=some u->h'.get? b=some u)(f:h.objs.size<=a)(c:H a=none):Un fs ex H (upd H a o) h h' where
 keep:=λb u q _ _ _=>k b u q;slot:=λb u q _ _ _=>⟨u.slots,k b u q⟩;free:=λb u q n _=>by rw[aC (dS (d_ (dl q) f))];exact n
 there:=λb u q _=>⟨u,k b u q⟩;tups:=λb xs q=>by rw[aC (gw q c)];exact q
 vX:=λb u xs q=>by rw[aC (gw q c)];exact q
 yr:=λb ps q=>⟨#[],by rw[aC (gw q c),q];simp⟩
theorem Un.write(f:XM (H x))(he:e=x\/H e=some (.own x))(k:∀b u,b≠e->h.get? b=some u->h'.get? b=some u)(g:∃u,h'.get? e=some u):Un fs ex H (upd H x o) h h':=by
 have l:∀b,H b=none->b≠x:=λb n z=>by subst z;rw[n]at f;exact f
 have m:∀b,H b=none->b≠e:=λb n z=>by
  subst z;rcases he with r|r;.exact l b n r
  .rw[n]at r;cases r
 have j:∀b u,H b=some u->¬ XM (some u)->b≠x:=λb u q p z=>by subst z;rw[q]at f;exact p f
 refine⟨λb u q n _ _=>k b u (m b n) q,λb u q n _ _=>⟨u.slots,k b u (m b n) q⟩,λb u q n _=>by rw[aC (l b n)];exact n,λb u q _=>?_,λb xs q=>by rw[aC (j b _ q λz=>z)];exact q,λb u xs q=>by rw[aC (j b _ q λz=>z)];exact q,λb ps q=>⟨#[],by rw[aC (j b _ q λz=>z),q];simp⟩⟩;by_cases c:b=e;.subst c;exact g
 .exact⟨u,k b u c q⟩
end
noncomputable def trk(h:eA)(H:Hp):List bd:=(dP h.objs.size).filter λa=>(H a).isSome
noncomputable def vP(h:eA)(H:Hp):eA:=PySem.W.hideAll h (trk h H)
theorem Fo(h:eA)(H:Hp):(vP h H).objs.size=h.objs.size:=PySem.W.hideAll_size _ _
theorem Gy{b:bd}{o:Obj}(e:h.get? b=some o)(n:H b=none):(vP h H).get? b=some o:=PySem.W.hideAll_get _ e λa=>by have q:(H b).isSome=true:=(kw.mp a).2;rw[n]at q;simp at q
theorem Lf{b:bd}{o:Obj}(e:(vP h H).get? b=some o):h.get? b=some o/\H b=none:=by have a:h.get? b=some o:=PySem.W.of_hideAll (trk h H) e;refine⟨a,?_⟩;cases q:H b with|none=>rfl|some x=>have c:b∈trk h H:=kw.mpr ⟨j4.mpr (dl a),by simp[q]⟩;have z:(vP h H).get? b=none:=PySem.W.hideAll_none (trk h H) c;rw[z]at e;cases e
structure Mod(K:PySem.W.Frag)(mg:Str->Option aX)(base:eA):Prop where
 o9:K.In base
 glob:base.Ns dc mg
 blt:∃mb,base.Ns builtinsNs mb/\∀x:Str,x≠"__name__"->mb x=ey x
 nolimit:base.NoLimit
structure Cx where
 prog:df
 w:ek
 K:PySem.W.Frag
 mg:Str->Option aX
 base:eA
 A:ez
 N:List Str
 s₀:a_
 H₀:Hp
 env:Env
 outer:List Env
 stack:List Env
 ex:List bd
 fn:Str->Bool
 calm:Bool
 pn:List (bd×Obj)xe:aX->a_->Prop
variable{X:Cx}
noncomputable def frs(l:List Env):List bd:=l.filterMap (·.frame)
noncomputable abbrev Cx.fs(X:Cx):List bd:=frs X.outer
noncomputable def v9(a:jp)(x:Str):Prop:=a.names.lookup x=some .local\/a.names.lookup x=some .cell\/a.names.lookup x=some .free
noncomputable def Loc(a:jp)(x:Str):Prop:=a.names.lookup x=some .local\/a.names.lookup x=some .cell
noncomputable def Look(env:Env)(h:eA)(m:Str->Option aX)(x:Str)(u:aX):Prop:=(env.kindOf x=some .local/\m x=some u)\/((env.kindOf x=some .cell\/env.kindOf x=some .free)/\∃c,env.cells.lookup x=some c/\h.IsCell c (some u))
structure Cx.Ok(X:Cx):Prop where
 mod:Mod X.K X.mg X.base
 kind:X.env.scope.kind=.function
 glob:X.env.globals=dc
 blt:X.env.builtins=builtinsNs
 above:X.s₀.heap.objs.size<=X.env.locals
 inj:∀x y c,X.env.cells.lookup x=some c->X.env.cells.lookup y=some c->x=y
 has:∀x,(X.env.kindOf x=some .cell\/X.env.kindOf x=some .free)->∃c,X.env.cells.lookup x=some c
 cab:∀x c,X.fn x=true->X.env.cells.lookup x=some c->X.s₀.heap.objs.size<=c
 hd:X.calm=true->X.A.handled=none
 frames:X.A.frames=some X.stack
 stk:X.stack=X.outer\/(X.stack=X.env::X.outer/\X.env.frame=some X.env.locals)exf:∀b∈X.ex,b≠X.env.locals/\∀x c,X.env.cells.lookup x=some c->c≠b
 bs:∀b o,X.base.get? b=some o->X.s₀.heap.get? b=some o/\X.H₀ b=none
 QH:X.base.objs.size<=X.s₀.heap.objs.size
 Ka:∀b o,X.base.get? b=some o->b∉X.ex
 Ox:∀b∈X.ex,b∉X.fs
 qP:X.s₀.heap.FunFrames X.base X.outer
 Xn:∀b∈X.fs,X.H₀ b=none
structure Inv(X:Cx)(pins:List (bd×Obj))(σ:List (Option V))(H:Hp)(s:a_):Prop where
 ok:X.Ok
 os:s.os=X.s₀.os
 bare:lx s.gens
 base:Un X.fs X.ex X.H₀ H X.s₀.heap s.heap
 loc:∃m,s.heap.Ns X.env.locals m/\∀(i:Nat)(x:Str)(v:V),X.N[i]?=some x->σ[i]?=some (some v)->v9 X.env.scope x->∃u,RelV v u/\Look X.env s.heap m x u
 cell:∀x c,X.env.cells.lookup x=some c->∃v,s.heap.IsCell c v
 free:H X.env.locals=none
 lz:∀x c,X.env.cells.lookup x=some c->H c=none
 pin:∀p∈X.pn++pins,s.heap.get? p.1=some p.2/\H p.1=none/\p.1≠X.env.locals/\p.1∉X.fs/\∀v,p.2.data≠.cell v
 hok:ni X.prog X.w H s.heap
 len:σ.length=X.N.length
section
variable{X:Cx}{pins:List (bd×Obj)}{σ:List (Option V)}{H H':Hp}{s:a_}{h':eA}
theorem Cx.Ok.acX(ok:X.Ok){b:bd}{o:Obj}(e:X.base.get? b=some o):b∉X.fs:=λa=>by have:=(ok.qP.mem a).1;rw[e]at this;cases this
theorem Inv.bs(I:Inv X pins σ H s):∀b o,X.base.get? b=some o->s.heap.get? b=some o/\H b=none:=λb o e=>⟨I.base.keep b o (I.ok.bs b o e).1 (I.ok.bs b o e).2 (I.ok.acX e) (I.ok.Ka b o e),I.base.free b o (I.ok.bs b o e).1 (I.ok.bs b o e).2 (I.ok.Ka b o e)⟩
theorem Inv.bk(I:Inv X pins σ H s):∀b o,X.base.get? b=some o->s.heap.get? b=some o:=λb o e=>(I.bs b o e).1
theorem Inv.mod(I:Inv X pins σ H s):Mod X.K X.mg X.base:=I.ok.mod
theorem Inv.Qe(I:Inv X pins σ H s):X.K.In s.heap:=I.ok.mod.o9.keeps I.bk
theorem Inv.lt(I:Inv X pins σ H s):X.env.locals<s.heap.objs.size:=let⟨_,hn,_⟩:=I.loc;hn.lt
theorem Inv.sz(I:Inv X pins σ H s):X.s₀.heap.objs.size<=s.heap.objs.size:=h_ I.ok.above (k8 I.lt)
theorem Inv.aeW(I:Inv X pins σ H s){a:bd}(h:s.heap.objs.size<=a):a∉X.fs:=λb=>by obtain⟨_,o,ho,_⟩:=I.ok.qP.mem b;exact absurd (d_ (dl ho) (h_ I.sz h)) (hV _)
theorem Inv.UL(I:Inv X pins σ H s):∀x c,X.env.cells.lookup x=some c->c≠X.env.locals:=λx c e z=>by obtain⟨v,o,ho,hd⟩:=I.cell x c e;obtain⟨m,⟨f,es,ep,a,b,_⟩,_⟩:=I.loc;rw[z,a]at ho;cases ho;rw[b]at hd;cases hd
theorem Inv.qP(I:Inv X pins σ H s):s.heap.FunFrames X.base X.outer:=by
 have all:∀(l:List Env),(∀b∈frs l,b∈X.fs)->X.s₀.heap.FunFrames X.base l->s.heap.FunFrames X.base l:=by intro l;induction l with|nil=>intro _ _;trivial|cons env r g=>intro hs j;obtain⟨k,⟨L,o,a,m,ho,hd⟩,hr⟩:=j;have c:L∈X.fs:=hs L (by unfold frs;rw[ia,a];exact hU);obtain⟨sl,e⟩:=I.base.slot L o ho (I.ok.Xn L c) c λz=>I.ok.Ox L z c;exact⟨k,⟨L,_,a,m,e,hd⟩,g (λb f=>hs b (by unfold frs;rw[ia,a];exact dE _ f)) hr⟩
 exact all X.outer (λ_ f=>f) I.ok.qP
theorem Inv.stack(I:Inv X pins σ H s):s.heap.FunFrames X.base X.stack:=by
 rcases I.ok.stk with e|⟨e,a⟩;.rw[e];exact I.qP
 .rw[e];obtain⟨m,b,_⟩:=I.loc;refine .cons (by rw[I.ok.kind];decide) a b ?_ I.qP;exact Heap.get?_none_of_le (h_ I.ok.QH I.ok.above)
theorem Inv.uM(I:Inv X pins σ H s):∀b∈frs X.stack,b∈X.env.locals::X.fs:=λb a=>by
 rcases I.ok.stk with e|⟨e,c⟩;.rw[e]at a;exact dE _ a
 .rw[e]at a;unfold frs at a;rw[ia,c]at a;exact a
theorem Inv.CJ(I:Inv X pins σ H s):∀b∈frs X.stack,H b=none:=λb hb=>by
 rcases de.mp (I.uM b hb)with e|hb;.rw[e];exact I.free
 .obtain⟨_,o,ho,_⟩:=I.ok.qP.mem hb;exact I.base.free b o ho (I.ok.Xn b hb) λz=>I.ok.Ox b z hb
theorem Inv.step{g':Array GenState}{d':Drawn}{ch:List bd}(I:Inv X pins σ H s)(f:∀b∈ch,(b∈X.ex\/X.s₀.heap.objs.size<=b)/\b≠X.env.locals/\(∀x c,X.env.cells.lookup x=some c->c≠b)/\∀p∈X.pn++pins,p.1≠b)(keep:∀b o,b≠X.env.locals->b∉X.fs->b∉ch->s.heap.get? b=some o->H b=none->h'.get? b=some o)(slot:∀b o,b≠X.env.locals->b∈X.fs->b∉ch->s.heap.get? b=some o->H b=none->∃sl,h'.get? b=some {o with slots:=sl})(free:∀b o,b∉ch->s.heap.get? b=some o->H b=none->H' b=none)(there:∀b o,b∉ch->s.heap.get? b=some o->∃B,h'.get? b=some B)(tups:∀b xs,H b=some (.tup xs)->H' b=some (.tup xs))(vX:∀b o u,H b=some (.dz o u)->H' b=some (.dz o u))(yr:∀b ps,H b=some (.Vy ps)->∃more,H' b=some (.Vy (ps++more)))(ns:∀m,s.heap.Ns X.env.locals m->h'.Ns X.env.locals m)(hok:ni X.prog X.w H' h')(O:lx g'):Inv X pins σ H' {s with heap:=h',gens:=g',drawn:=d',toks:=t'}:=by
 have C:∀b o,X.s₀.heap.get? b=some o->b≠X.env.locals:=λb o e=>dS (d_ (dl e) I.ok.above);have j:∀b o,X.s₀.heap.get? b=some o->b∉X.ex->b∉ch:=λb o e a y=>by
  rcases(f b y).1 with z|z;.exact a z
  .exact absurd (d_ (dl e) z) (hV _)
 have g:∀x c,X.env.cells.lookup x=some c->∀v,s.heap.IsCell c v->h'.IsCell c v:=λx c e v⟨o,ho,hd⟩=>by
  have E:c∉ch:=λz=>(f c z).2.2.1 x c e rfl;by_cases hc:c∈X.fs;.obtain⟨sl,q⟩:=slot c o (I.UL x c e) hc E ho (I.lz x c e);exact⟨_,q,hd⟩
  .exact⟨o,keep c o (I.UL x c e) hc E ho (I.lz x c e),hd⟩
 refine⟨I.ok,I.os,O,⟨λb o e n y a=>?_,λb o e n y a=>?_,λb o e n a=>?_,λb o e a=>?_,λb xs e=>tups b xs (I.base.tups b xs e),λb o xs e=>vX b o xs (I.base.vX b o xs e),λb ps e=>?_⟩,?_,λx c e=>?_,?_,λx c e=>?_,λp L=>?_,hok,I.len⟩;.exact keep b o (C b o e) y (j b o e a) (I.base.keep b o e n y a) (I.base.free b o e n a)
 .obtain⟨sl,t⟩:=I.base.slot b o e n y a;obtain⟨J,G⟩:=slot b _ (C b o e) y (j b o e a) t (I.base.free b o e n a);exact⟨J,G⟩
 .obtain⟨B,t⟩:=I.base.there b o e a;exact free b B (j b o e a) t (I.base.free b o e n a)
 .obtain⟨B,t⟩:=I.base.there b o e a;exact there b B (j b o e a) t
 .obtain⟨m1,t⟩:=I.base.yr b ps e;obtain⟨Q,G⟩:=yr b _ t;exact⟨m1++Q,by rw[G,Array.append_assoc]⟩
 . obtain⟨m,U,W⟩:=I.loc;refine⟨m,ns m U,λi x v t G Y=>?_⟩;obtain⟨u,r,l⟩:=W i x v t G Y;refine⟨u,r,?_⟩;rcases l with l|⟨k,c,e,z⟩;.exact .inl l
   .exact .inr ⟨k,c,e,g x c e _ z⟩
 .obtain⟨v,z⟩:=I.cell x c e;exact⟨v,g x c e v z⟩
 .obtain⟨m,⟨o,_,_,ho,_⟩,_⟩:=I.loc;exact free _ o (λz=>(f _ z).2.1 rfl) ho I.free
 .obtain⟨v,o,ho,hd⟩:=I.cell x c e;exact free c o (λz=>(f c z).2.2.1 x c e rfl) ho (I.lz x c e)
 .obtain⟨e,n,ne,N,d⟩:=I.pin p L;have E:p.1∉ch:=λz=>(f p.1 z).2.2.2 p L rfl;exact⟨keep p.1 p.2 ne N E e n,free p.1 p.2 E e n,ne,N,d⟩
theorem Inv.un(I:Inv X pins σ H s)(u:Un X.fs [] H H' s.heap h')(hok:ni X.prog X.w H' h'):Inv X pins σ H' {s with heap:=h',toks:=t'}:=by obtain⟨m,⟨o,es,ep,ho,r⟩,_⟩:=id I.loc;obtain⟨sl,j⟩:=u.any ho I.free (by simp);exact I.step (g':=s.gens) (d':=s.drawn) (ch:=[]) (λ_ z=>nomatch z) (λb o _ c _ e n=>u.keep b o e n c (by simp)) (λb o _ c _ e n=>u.slot b o e n c (by simp)) (λb o _ e n=>u.free b o e n (by simp)) (λb o _ e=>u.there b o e (by simp)) u.tups u.vX u.yr (λp k=>by obtain⟨q,f,g,a,l⟩:=k;rw[ho]at a;cases a;exact⟨_,f,g,j,l⟩) hok I.bare
theorem Inv.call{g':Array GenState}{d':Drawn}{ch:List bd}(I:Inv X pins σ H s)(u:Un (frs X.stack) ch H H' s.heap h')(hok:ni X.prog X.w H' h')(l:lx g')(a:∀b∈ch,(b∈X.ex\/X.s₀.heap.objs.size<=b)/\b≠X.env.locals/\(∀x c,X.env.cells.lookup x=some c->c≠b)/\∀p∈X.pn++pins,p.1≠b):Inv X pins σ H' {s with heap:=h',gens:=g',drawn:=d',toks:=t'}:=by obtain⟨m,⟨o,es,ep,ho,r⟩,_⟩:=id I.loc;obtain⟨sl,g⟩:=u.any ho I.free λz=>(a _ z).2.1 rfl;exact I.step (ch:=ch) a (λb o g q hc e n=>u.keep b o e n (λz=>(de.mp (I.uM b z)).elim g q) hc) (λb o _ _ hc e n=>u.any e n hc) (λb o hc e n=>u.free b o e n hc) (λb o hc e=>u.there b o e hc) u.tups u.vX u.yr (λy t=>by obtain⟨B,j,k,f,v⟩:=t;rw[ho]at f;cases f;exact⟨_,j,k,g,v⟩) hok l
theorem Inv.turned{it:bd}(I:Inv X pins σ H s)(k:∀b o,b≠it->s.heap.get? b=some o->h'.get? b=some o)(g:H it=none)(f:it≠X.env.locals)(h1:it∈X.ex\/X.s₀.heap.objs.size<=it)(j:∀x c,X.env.cells.lookup x=some c->c≠it)(l:∀p∈X.pn++pins,p.1≠it):Inv X pins σ H {s with heap:=h',toks:=t'}:=by
 have a:∀b u,H b=some u->b≠it:=λb u e z=>by rw[z,g]at e;cases e
 refine I.step (g':=s.gens) (d':=s.drawn) (ch:=[it]) (λb t=>?_) (λb o _ _ hc e _=>k b o (λz=>hc (by simp[z])) e) (λb o _ _ hc e _=>⟨o.slots,k b o (λz=>hc (by simp[z])) e⟩) (λ_ _ _ _ n=>n) (λb o hc e=>⟨o,k b o (λz=>hc (by simp[z])) e⟩) (λ_ _ e=>e) (λ_ _ _ e=>e) (λb ps e=>⟨#[],by rw[e];simp⟩) (λm y=>?_) (λb u e=>?_) I.bare
 . have e:b=it:=by simpa using t
   subst e;exact⟨h1,f,j,l⟩
 .obtain⟨o,es,ep,ho,r⟩:=y;exact⟨o,es,ep,k _ o (gu f) ho,r⟩
 . refine(I.hok b u e).stay (λc v hc q=>k c v ?_ q) (λ_ q=>q) λ_ _ q=>q;rcases hc with z|z;.rw[z];exact a b u e
   .exact a c _ z
theorem Inv.tok(I:Inv X pins σ H s)(t:Nat):Inv X pins σ H {s with toks:=t}:=I.un (h':=s.heap) (t':=t) Un.refl I.hok
theorem Inv.kept{t':Nat}(I:Inv X pins σ H s)(k:∀b u,s.heap.get? b=some u->h'.get? b=some u):Inv X pins σ H {s with heap:=h',toks:=t'}:=I.un (Un.kept k) (I.hok.kept k)
theorem Inv.laid{a:bd}{o:HO}{t':Nat}(I:Inv X pins σ H s)(k:∀b u,s.heap.get? b=some u->h'.get? b=some u)(c:s.heap.objs.size<=a)(e:bJ X.prog X.w (upd H a o) h' a o):Inv X pins σ (upd H a o) {s with heap:=h',toks:=t'}:=I.un (Un.laid k c (I.hok.fresh c)) (I.hok.laid k c e)
theorem Inv.write{x e:bd}{o:HO}{t':Nat}(I:Inv X pins σ H s)(f:XM (H x))(he:e=x\/H e=some (.own x))(k:∀b u,b≠e->s.heap.get? b=some u->h'.get? b=some u)(a:∃u,h'.get? e=some u)(c:bJ X.prog X.w (upd H x o) h' x o):Inv X pins σ (upd H x o) {s with heap:=h',toks:=t'}:=I.un (Un.write f he k a) (I.hok.write f he k a c)
theorem Inv.Du{a:List (bd×Obj)}(I:Inv X pins σ H s)(h:∀p∈a,s.heap.get? p.1=some p.2/\H p.1=none/\p.1≠X.env.locals/\p.1∉X.fs/\∀v,p.2.data≠.cell v):Inv X a σ H s:=⟨I.ok,I.os,I.bare,I.base,I.loc,I.cell,I.free,I.lz,λp b=>(eW.mp b).elim (λz=>I.pin p (oj _ z)) (h p),I.hok,I.len⟩
theorem yg{N:List Str}(c:N.Nodup){j:Nat}{x:Str}(a:N[i]?=some x)(b:N[j]?=some x):i=j:=by obtain⟨h1,e⟩:=dJ a;obtain⟨g,f⟩:=dJ b;exact(List.getElem_inj c).mp (e.trans f.symm)
theorem tU{E:aX->a_->Prop}{x:Str}{v:V}{u:aX}{Q:Unit->a_->Prop}(I:Inv X pins σ H s)(hN:X.N.Nodup)(hi:X.N[i]?=some x)(l:Loc X.env.scope x)(r:RelV v u)(h:∀s',Inv X pins (σ.set i (some v)) H s'->(∃a,pS a s.heap s'.heap/\(a=X.env.locals\/X.env.cells.lookup x=some a))->Q () s')(hf:X.fn x=true\/X.env.scope.names.lookup x=some .local:=by first|exact .inl rfl|exact .inr rfl|assumption):cy M A (storeName X.env x u) Q E s:=by
 obtain⟨m,hn,hl⟩:=id I.loc;have O:(X.env.scope.kind==.class||(X.env.scope.kind==.module&&X.env.locals !=X.env.globals))=false:=by rw[I.ok.kind];rfl
 have C:i<σ.length:=by rw[I.len];exact(dJ hi).1
 have UL:=I.UL;have f:∀{a:bd}{h':eA},(∃o,s.heap.get? a=some o/\H a=none)->pS a s.heap h'->ni X.prog X.w H h':=λ{a h'}ha hs b ob e=>by
  obtain⟨_,_,t⟩:=ha;refine(I.hok b ob e).stay (λc Z hc q=>(hs.2 c ?_).trans q) (λ_ q=>q) λ_ _ q=>q;rintro rfl;rcases hc with rfl|hc;.rw[t]at e;cases e
  .rw[t]at hc;cases hc
 rcases l with hk|hk
 . refine wpAny_storeName_local hk hn (λh' ac hs=>?_) O;obtain⟨oL,_,_,ae,_⟩:=id hn;refine h _ ⟨I.ok,I.os,I.bare,⟨λb o e n G l=>?_,λb o e n G l=>?_,I.base.free,λb o e l=>?_,I.base.tups,I.base.vX,I.base.yr⟩,⟨_,ac,λj y v' g B e3=>?_⟩,λy c e=>?_,I.free,I.lz,λp hp=>?_,f ⟨oL,ae,I.free⟩ hs,by simpa using I.len⟩ ⟨_,hs,.inl rfl⟩;.exact(hs.2 b (dS (d_ (dl e) I.ok.above))).trans (I.base.keep b o e n G l)
   .obtain⟨sl,g⟩:=I.base.slot b o e n G l;exact⟨sl,(hs.2 b (dS (d_ (dl e) I.ok.above))).trans g⟩
   .obtain⟨o',g⟩:=I.base.there b o e l;exact⟨o',(hs.2 b (dS (d_ (dl e) I.ok.above))).trans g⟩
   . by_cases J:j=i;.subst J;rw[hi]at g;cases g;rw[bx C]at B;cases B;exact⟨u,r,.inl ⟨hk,by simp⟩⟩
     . rw[fG J]at B;obtain⟨u',r',q⟩:=hl j y v' g B e3;refine⟨u',r',?_⟩;rcases q with⟨k,e⟩|⟨k,c,e,z⟩;.refine .inl ⟨k,?_⟩;have:y≠x:=λe=>J (yg hN g (e▸hi));simp[this,e]
       .exact .inr ⟨k,c,e,z.sameBut hs (UL y c e)⟩
   .obtain⟨Z,z⟩:=I.cell y c e;exact⟨Z,z.sameBut hs (UL y c e)⟩
   .obtain⟨e,n,ne,nf,d⟩:=I.pin p hp;exact⟨(hs.2 p.1 ne).trans e,n,ne,nf,d⟩
 . have L:X.fn x=true:=by
    rcases hf with z|z;.exact z
    .rw[z]at hk;cases hk
   obtain⟨c,hc⟩:=I.ok.has x (.inl hk);obtain⟨Z,z⟩:=I.cell x c hc;refine wpAny_storeName_cell I.ok.kind hk hc z (λh' U hs=>?_);obtain⟨oc,W,af⟩:=id z;refine h {s with heap:=h'} ⟨I.ok,I.os,I.bare,⟨λb o e n G l=>?_,λb o e n G l=>?_,I.base.free,λb o e l=>?_,I.base.tups,I.base.vX,I.base.yr⟩,⟨m,hn.sameBut hs (gu (UL x c hc)),λj y v' g B e3=>?_⟩,λy c' e=>?_,I.free,I.lz,λp hp=>?_,f ⟨oc,W,I.lz x c hc⟩ hs,by simpa using I.len⟩ ⟨c,hs,.inr hc⟩;.exact(hs.2 b (dS (d_ (dl e) (I.ok.cab x c L hc)))).trans (I.base.keep b o e n G l)
   .obtain⟨sl,g⟩:=I.base.slot b o e n G l;exact⟨sl,(hs.2 b (dS (d_ (dl e) (I.ok.cab x c L hc)))).trans g⟩
   .obtain⟨o',g⟩:=I.base.there b o e l;exact⟨o',(hs.2 b (dS (d_ (dl e) (I.ok.cab x c L hc)))).trans g⟩
   . by_cases J:j=i;.subst J;rw[hi]at g;cases g;rw[bx C]at B;cases B;exact⟨u,r,.inr ⟨.inl hk,c,hc,U⟩⟩
     . rw[fG J]at B;obtain⟨u',r',q⟩:=hl j y v' g B e3;refine⟨u',r',?_⟩;rcases q with q|⟨k,c',e,z'⟩;.exact .inl q
       .refine .inr ⟨k,c',e,z'.sameBut hs ?_⟩;rintro rfl;exact J (yg hN g (I.ok.inj _ _ _ e hc▸hi))
   . by_cases Y:c'=c;.subst Y;exact⟨_,U⟩
     .obtain⟨w2,z2⟩:=I.cell y c' e;exact⟨w2,z2.sameBut hs Y⟩
   .obtain⟨e,n,ne,nf,d⟩:=I.pin p hp;refine⟨(hs.2 p.1 ?_).trans e,n,ne,nf,d⟩;intro q;rw[q,W]at e;have q':oc=p.2:=eF e;exact d Z (by rw[<-q'];exact af)
theorem jt{E:aX->a_->Prop}{x:Str}{v:V}{u:aX}{Q:Unit->a_->Prop}(I:Inv X pins σ H s)(b:X.N.Nodup)(hi:X.N[i]?=some x)(c:Loc X.env.scope x)(r:RelV v u)(h:∀a,Inv X pins (σ.set i (some v)) H a->Q () a)(e:X.fn x=true\/X.env.scope.names.lookup x=some .local:=by first|exact .inl rfl|exact .inr rfl|assumption):cy M A (storeName X.env x u) Q E s:=tU I b hi c r (λa f _=>h a f) e
end
noncomputable abbrev XK:=aX->Option bd->Hp->Prop
noncomputable abbrev St:=List (Option V)
noncomputable abbrev VK:=V->Hp->Prop
noncomputable abbrev TE:=St->Hp->VK->Prop
variable{te:TE}
noncomputable abbrev TT:=St->Hp->(Bool->Hp->Prop)->Prop
noncomputable abbrev TA:=St->Hp->(List V->Hp->Prop)->Prop
structure Ends where
 nx:St->Hp->Prop
 rt:VK
 bk:St->Hp->Prop:=λ_ _=>False
 ct:St->Hp->Prop:=λ_ _=>False
noncomputable abbrev TS:=Ends->St->Hp->Prop
inductive EP(X:Cx)(pins:List (bd×Obj))(σ:St)(Q:VK)(u:aX)(s':a_):Prop where|mk(v:V)(H':Hp)(q0:Inv X pins σ H' s')(q1:RelV v u)(q2:Q v H')
noncomputable def TP(X:Cx)(pins:List (bd×Obj))(σ:St)(Q:Bool->Hp->Prop)(b:Bool)(c:a_):Prop:=∃a,Inv X pins σ a c/\Q b a
inductive AP(X:Cx)(pins:List (bd×Obj))(σ:St)(Q:List V->Hp->Prop)(us:List aX)(s':a_):Prop where|mk(vs:List V)(H':Hp)(q0:Inv X pins σ H' s')(q1:Vals vs us)(q2:Q vs H')
noncomputable def SP(X:Cx)(pins:List (bd×Obj))(D:Ends)(f:Flow)(c:a_):Prop:=match f with|.next=>∃a b,Inv X pins a b c/\D.nx a b|.brk=>∃a b,Inv X pins a b c/\D.bk a b|.cont=>∃a b,Inv X pins a b c/\D.ct a b|.ret u=>∃v a b,Inv X pins a b c/\RelV v u/\D.rt v b
noncomputable def PE(X:Cx)(e:dr)(t:TE):Prop:=∀(pins:List (bd×Obj))(s:a_)(σ:St)(H:Hp)(Q:VK),Inv X pins σ H s->t σ H Q->cy (cS X.prog X.w) X.A (eu e X.env) (EP X pins σ Q) X.xe s
noncomputable def PT(X:Cx)(e:dr)(t:TT):Prop:=∀(pins:List (bd×Obj))(s:a_)(σ:St)(H:Hp)(Q:Bool->Hp->Prop),Inv X pins σ H s->t σ H Q->cy (cS X.prog X.w) X.A (isTrue e X.env (eu e X.env)) (TP X pins σ Q) X.xe s
noncomputable def PW(X:Cx)(e:dr)(t:TT):Prop:=∀(a:Sem aX)(pins:List (bd×Obj))(s:a_)(σ:St)(H:Hp)(Q:Bool->Hp->Prop),Inv X pins σ H s->t σ H Q->cy (cS X.prog X.w) X.A (isTrue e X.env a) (TP X pins σ Q) X.xe s
theorem PW.pt{e:dr}{t:TT}(h:PW X e t):PT X e t:=h _
noncomputable def PA(X:Cx)(es:List dr)(t:TA):Prop:=∀(pos:Pos)(pins:List (bd×Obj))(s:a_)(σ:St)(H:Hp)(Q:List V->Hp->Prop),Inv X pins σ H s->t σ H Q->cy (cS X.prog X.w) X.A (spliced (iF pos (cv es X.env))) (AP X pins σ Q) X.xe s
noncomputable def PS(X:Cx)(st:eJ)(t:TS):Prop:=∀(pins:List (bd×Obj))(s:a_)(σ:St)(H:Hp)(D:Ends),Inv X pins σ H s->t D σ H->cy (cS X.prog X.w) X.A (exec st X.env) (SP X pins D) X.xe s
noncomputable def wj(X:Cx)(st:List eJ)(t:TS):Prop:=∀(pins:List (bd×Obj))(s:a_)(σ:St)(H:Hp)(D:Ends),Inv X pins σ H s->t D σ H->cy (cS X.prog X.w) X.A (execs st X.env) (SP X pins D) X.xe s
theorem bY{b:Type}{t:Sem b}{Q c:b->a_->Prop}{E:aX->a_->Prop}(h:cy M A t Q E s)(e:∀a s,Q a s->c a s):cy M A t c E s:=et h e λ_ _ x=>x
section
variable{X:Cx}
noncomputable def Q4(i:Nat):TE:=λσ H Q=>∃v,σ[i]?=some (some v)/\Q v H
noncomputable def tC(v:V):TE:=λ_ H Q=>Q v H
theorem fC{x:Str}(f:X.N[i]?=some x)(g:v9 X.env.scope x)(hd:(x==("__debug__":Str))=false:=by decide)(b:(x==("__classdict__":Str))=false:=by decide):PE X (.Name x pos) (Q4 i):=by
 intro pins s σ H Q I h;obtain⟨v,e,h⟩:=h;obtain⟨m,j,k⟩:=I.loc;obtain⟨u,r,l⟩:=k i x v f e g;have fin:EP X pins σ Q u s:=⟨v,H,I,r,h⟩;rcases l with⟨hk,n⟩|⟨hk,c,hc,a⟩;.exact wpAny_Name (p9 I.ok.kind hk j n fin) hd
 . rcases hk with hk|hk;.exact wpAny_Name (qE I.ok.kind hk hc a fin) hd
   .exact wpAny_Name (wpAny_loadName_free I.ok.kind hk hc a fin b) hd
theorem qW{i j pos}:PE X (.Constant (.int i) j pos) (tC (.int i)):=λ_ _ _ H _ I h=>wpAny_Constant_int ⟨.int i,H,I.tok _,⟨_,rfl⟩,h⟩
theorem XR{b j pos}:PE X (.Constant (.bool b) j pos) (tC (.bl b)):=λ_ _ _ H _ I h=>Constant_bool ⟨.bl b,H,I,rfl,h⟩
theorem Um{j pos}:PE X (.Constant .none j pos) (tC .non):=λ_ _ _ H _ I h=>Constant_none ⟨.non,H,I,rfl,h⟩
noncomputable def Gl(X:Cx)(x:Str):Prop:=X.env.kindOf x=some .globalImplicit
theorem Dv{E:aX->a_->Prop}{σ:St}{x:Str}{u:aX}{Q:aX->a_->Prop}(I:Inv X pins σ H s)(a:Gl X x)(b:X.mg x=some u)(h:Q u s)(hd:(x==("__debug__":Str))=false:=by decide):cy (cS X.prog X.w) X.A (eu (.Name x pos) X.env) Q E s:=my I.ok.kind a (Calls.loadGlobal_global (by rw[I.ok.glob];exact I.mod.glob.keeps I.bk) b h) hd
theorem iT{E:aX->a_->Prop}{σ:St}{x:Str}{u:aX}{Q:aX->a_->Prop}(I:Inv X pins σ H s)(a:Gl X x)(b:X.mg x=none)(c:ey x=some u)(h:Q u s)(e:x≠"__name__":=by decide)(hd:(x==("__debug__":Str))=false:=by decide):cy (cS X.prog X.w) X.A (eu (.Name x pos) X.env) Q E s:=by obtain⟨g,h1,f⟩:=I.mod.blt;exact my I.ok.kind a (Calls.loadGlobal_builtin (by rw[I.ok.glob];exact I.mod.glob.keeps I.bk) b (by rw[I.ok.blt];exact h1.keeps I.bk) ((f x e).trans c) h) hd
theorem NP{x:Str}{v:V}{u:aX}(a:Gl X x)(b:X.mg x=some u)(r:RelV v u)(hd:(x==("__debug__":Str))=false:=by decide):PE X (.Name x pos) (tC v):=λ_ _ _ H _ I h=>Dv I a b ⟨v,H,I,r,h⟩ hd
theorem By{x:Str}{v:V}{u:aX}(a:Gl X x)(b:X.mg x=none)(c:ey x=some u)(r:RelV v u)(e:x≠"__name__":=by decide)(hd:(x==("__debug__":Str))=false:=by decide):PE X (.Name x pos) (tC v):=λ_ _ _ H _ I h=>iT I a b c ⟨v,H,I,r,h⟩ e hd
variable{a b:dr}{ta tb:TE}{pos:Pos}
noncomputable def PC(X:Cx)(op:n_)(a b:dr)(t:TE):Prop:=∀(pins:List (bd × Obj))(s:a_)(σ:St)(H:Hp)(Q:VK),Inv X pins σ H s->t σ H Q->cy (cS X.prog X.w) X.A (eu a X.env) (λv c=>cy (cS X.prog X.w) X.A (eu b X.env) (λu e=>cy (cS X.prog X.w) X.A (eg op v u) (EP X pins σ Q) X.xe e) X.xe c) X.xe s
noncomputable def tB(t:TE):TT:=λσ H Q=>t σ H λx e=>∃c,x=.bl c/\Q c e
theorem Q6{t:TE}(h:PC X op a b t)(h1:gc op b=false:=by first|exact aaf _ (by decide) (by decide)|rfl):PT X (.Compare a [op] [b] pos) (tB t):=by intro pins s σ H Q I e;refine p4 (bY (h pins s σ H _ I e) λv s1 h1=>bY h1 λu s2 f=>bY f λc s3⟨x,H1,I1,r1,q1⟩=>?_) h1;obtain⟨d,rfl,q⟩:=q1;cases r1;exact gx ⟨H1,I1,q⟩
theorem RJ{e:dr}{t:TE}(h:PE X e t)(he:∀c,isTrue e X.env c=(do let v<-c;standAt e.pos;ki [v] (truthy v)):=by intro _;rfl):PT X e (tB t):=by intro pins s σ H Q I f;refine isTrue_plain (bY (h pins s σ H _ I f) λv s1⟨x,H1,I1,r1,q1⟩=>?_) (he _);obtain⟨d,rfl,q⟩:=q1;cases r1;exact gx ⟨H1,I1,q⟩
variable{tA tB':TT}{rest:List dr}
noncomputable def afz(t u:TT):TT:=λσ H Q=>t σ H λc e=>if c=true then u σ e Q else Q false e
noncomputable def tOr(t u:TT):TT:=λσ H Q=>t σ H λc e=>if c=true then Q true e else u σ e Q
noncomputable def ae4(t:TT):TT:=λσ H Q=>t σ H λc e=>Q (!c) e
theorem Mu(f:PT X a tA):PW X (.BoolOp .And [a] pos) tA:=by intro wh pins s σ H Q I h;refine isTrue_and (bY (f pins s σ H Q I h) λc s1 e=>?_);cases c with|true=>exact isTrue_and_nil e|false=>exact e
theorem Rv(f:PT X a tA):PW X (.BoolOp .Or [a] pos) tA:=by intro wh pins s σ H Q I h;refine isTrue_or (bY (f pins s σ H Q I h) λc s1 e=>?_);cases c with|false=>exact isTrue_or_nil e|true=>exact e
theorem Ua(f:PT X a tA)(g:PW X (.BoolOp .And (b::rest) pos) tB'):PW X (.BoolOp .And (a::b::rest) pos) (afz tA tB'):=by intro wh pins s σ H Q I h;refine isTrue_and (bY (f pins s σ H _ I h) λc s1⟨e,I1,q1⟩=>?_);cases c with|true=>exact g wh pins s1 σ e Q I1 q1|false=>exact⟨e,I1,q1⟩
theorem YX(f:PT X a tA)(g:PW X (.BoolOp .Or (b::rest) pos) tB'):PW X (.BoolOp .Or (a::b::rest) pos) (tOr tA tB'):=by intro wh pins s σ H Q I h;refine isTrue_or (bY (f pins s σ H _ I h) λc s1⟨e,I1,q1⟩=>?_);cases c with|true=>exact⟨e,I1,q1⟩|false=>exact g wh pins s1 σ e Q I1 q1
theorem Vc(e:PT X a tA):PT X (.UnaryOp .Not a pos) (ae4 tA):=by intro pins s σ H Q I h;exact isTrue_not (e pins s σ H (λc f=>Q (!c) f) I h)
noncomputable def Zf(ta tb:TE):TE:=λσ H Q=>ta σ H λx e=>∃c,x=.bl c/\if c=true then tb σ e Q else Q (.bl false) e
noncomputable def Z1(ta:TE):TE:=λσ H Q=>ta σ H λx e=>∃c,x=.bl c/\Q (.bl (!c)) e
theorem Uu{op}{t:TE}(h:PE X a t):PE X (.BoolOp op [a] pos) t:=λpins s σ H Q I c=>BoolOp_one (h pins s σ H Q I c)
theorem UJ(f:PE X a ta)(g:PE X (.BoolOp .And (b::rest) pos) tb):PE X (.BoolOp .And (a::b::rest) pos) (Zf ta tb):=by intro pins s σ H Q I h;refine BoolOp_and (bY (f pins s σ H _ I h) λv s1⟨x,H1,I1,r1,e⟩=>?_);obtain⟨c,rfl,e⟩:=e;cases r1;refine gx ?_;cases c with|true=>exact g pins s1 σ H1 Q I1 e|false=>exact⟨.bl false,H1,I1,rfl,e⟩
theorem Uo(f:PE X a ta):PE X (.UnaryOp .Not a pos) (Z1 ta):=by intro pins s σ H Q I h;refine UnaryOp_ (bY (f pins s σ H _ I h) λv s1⟨x,H1,I1,r1,e⟩=>?_);obtain⟨c,rfl,e⟩:=e;cases r1;exact not_of (gx ⟨.bl (!c),H1,I1,rfl,e⟩)
noncomputable def tIf(t:TT)(ta tb:TE):TE:=λσ H Q=>t σ H λc e=>if c=true then ta σ e Q else tb σ e Q
theorem GX{c:dr}(hc:PT X c tA)(f:PE X a ta)(g:PE X b tb):PE X (.IfExp c a b pos) (tIf tA ta tb):=by intro pins s σ H Q I h;refine wpAny_IfExp (bY (hc pins s σ H _ I h) λd s1⟨e,I1,q1⟩=>?_);cases d with|true=>exact f pins s1 σ e Q I1 q1|false=>exact g pins s1 σ e Q I1 q1
end
noncomputable def eO(K:PySem.W.Frag)(H:Hp)(a:bd)(xs:List V):Prop:=Rd H a (.lst xs)\/∃(o:Obj)(b:Array aX)(n:Nat),K.lookup a=some o/\o.cls=.type "list"/\o.dict=none/\o.data=.seq b n/\b.size<=sizeLine/\Vals xs b.toList
noncomputable def iM(K:PySem.W.Frag)(H:Hp)(a:bd)(xs:List V):Prop:=Rd H a (.tup xs)\/∃(o:Obj)(b:Array aX)(n:Nat),K.lookup a=some o/\o.cls=.type "tuple"/\o.data=.seq b n/\b.size<=sizeLine/\Vals xs b.toList
noncomputable def afe:aX->Option V|.none=>some .non|.bool b=>some (.bl b)|.int i _=>some (.int i)|.str x _=>some (.str x)|.bytes b _=>some (.byt b)|.float b _=>some (.flt b)|.ref a=>some (.ref a)|.type n=>some (.ty n)|_=>none
theorem RelV.abs{x:V}{u:aX}(r:RelV x u):afe u=some x:=by cases x with|non=>cases r;rfl|bl _=>cases r;rfl|int _=>obtain⟨t,rfl⟩:=r;rfl|str _=>obtain⟨t,rfl⟩:=r;rfl|byt _=>obtain⟨t,rfl⟩:=r;rfl|flt _=>obtain⟨t,rfl⟩:=r;rfl|ref _=>cases r;rfl|ty _=>cases r;rfl
theorem RelV.inj{x y:V}{u:aX}(r:RelV x u)(q:RelV y u):x=y:=eF (r.abs.symm.trans q.abs)
theorem Vals.inj:∀{xs ys:List V}{us:List aX},Vals xs us->Vals ys us->xs=ys|_,_,_,.nil,.nil=>rfl|_,_,_,.cons r t,.cons a t'=>by rw[r.inj a,Vals.inj t t']
section
variable{X:Cx}{pins:List (bd×Obj)}{σ:St}{H:Hp}{s:a_}{a:bd}{xs ys:List V}
theorem eO.of(h:H a=some (.lst xs)):eO K H a xs:=.inl (.inl h)
theorem iM.of(h:H a=some (.tup xs)):iM K H a xs:=.inl (.inl h)
theorem Inv.list(I:Inv X pins σ H s)(h:eO X.K H a xs):∃b:List aX,Vals xs b/\PlainL s.heap a b.toArray/\xs.length<=sizeLine:=by
 rcases h with h|⟨o,b,n,c,hc,hd,hs,hz,r⟩;.obtain⟨z,b,n,r,e⟩:=h.ok I.hok;exact⟨b,r,⟨_,n,e,rfl,rfl,rfl⟩,z⟩
 .refine⟨b.toList,r,⟨o,n,I.Qe a o c,hc,hd,by simpa using hs⟩,?_⟩;have e:=r.length;simp only[i_]at e;omega
theorem Inv.tuple(I:Inv X pins σ H s)(h:iM X.K H a xs):∃b:List aX,Vals xs b/\oI s.heap a b.toArray/\xs.length<=sizeLine:=by
 rcases h with h|⟨o,b,n,c,hc,hs,hz,r⟩;.obtain⟨z,b,r,p⟩:=h.ok I.hok;exact⟨b,r,p,z⟩
 .refine⟨b.toList,r,⟨o,I.Qe a o c,hc,n,by simpa using hs⟩,?_⟩;have e:=r.length;simp only[i_]at e;omega
theorem Inv.m7(I:Inv X pins σ H s)(h:eO X.K H a xs)(h':eO X.K H a ys):xs=ys:=by
 obtain⟨b,r,⟨o,n,e,_,_,d⟩,_⟩:=I.list h;obtain⟨its',f,⟨g,j,c,_,_,d'⟩,_⟩:=I.list h';rw[e]at c;cases c;rw[d]at d';injection d' with d1 _;have:b=its':=by simpa using congrArg toList d1
 subst this;exact r.inj f
theorem Inv.j5(I:Inv X pins σ H s)(h:iM X.K H a xs)(h':iM X.K H a ys):xs=ys:=by
 obtain⟨b,r,⟨o,e,_,n,d⟩,_⟩:=I.tuple h;obtain⟨its',f,⟨g,c,_,j,d'⟩,_⟩:=I.tuple h';rw[e]at c;cases c;rw[d]at d';injection d' with d1 _;have:b=its':=by simpa using congrArg toList d1
 subst this;exact r.inj f
end
noncomputable abbrev Cx.wish(X:Cx)(E:aX->a_->Prop):Cx:={X with xe:=E}
noncomputable abbrev Cx.ZV(X:Cx):Cx:=X.wish λ_ _=>False
theorem Cx.Ok.wish{X:Cx}(ok:X.Ok)(E:aX->a_->Prop):(X.wish E).Ok:=⟨ok.mod,ok.kind,ok.glob,ok.blt,ok.above,ok.inj,ok.has,ok.cab,ok.hd,ok.frames,ok.stk,ok.exf,ok.bs,ok.QH,ok.Ka,ok.Ox,ok.qP,ok.Xn⟩
theorem Cx.Ok.jP{E:aX->a_->Prop}(ok:(X.wish E).Ok):X.Ok:=⟨ok.mod,ok.kind,ok.glob,ok.blt,ok.above,ok.inj,ok.has,ok.cab,ok.hd,ok.frames,ok.stk,ok.exf,ok.bs,ok.QH,ok.Ka,ok.Ox,ok.qP,ok.Xn⟩
section
variable{X:Cx}{pins:List (bd×Obj)}{σ:St}{H:Hp}{s:a_}{E:aX->a_->Prop}
theorem Inv.wish(I:Inv X pins σ H s)(E:aX->a_->Prop):Inv (X.wish E) pins σ H s:=⟨I.ok.wish E,I.os,I.bare,I.base,I.loc,I.cell,I.free,I.lz,I.pin,I.hok,I.len⟩
theorem Inv.jP(I:Inv (X.wish E) pins σ H s):Inv X pins σ H s:=⟨I.ok.jP,I.os,I.bare,I.base,I.loc,I.cell,I.free,I.lz,I.pin,I.hok,I.len⟩
theorem SP.jP{D:Ends}{f:Flow}{c:a_}(h:SP (X.wish E) pins D f c):SP X pins D f c:=by cases f with|next=>obtain⟨a,b,I,q⟩:=h;exact⟨a,b,I.jP,q⟩|brk=>obtain⟨a,b,I,q⟩:=h;exact⟨a,b,I.jP,q⟩|cont=>obtain⟨a,b,I,q⟩:=h;exact⟨a,b,I.jP,q⟩|ret u=>obtain⟨v,a,b,I,r,q⟩:=h;exact⟨v,a,b,I.jP,r,q⟩
theorem wj.ZV{st:List eJ}{t:TS}(h:wj X.ZV st t):wj X st t:=λpins s σ H D I a=>et (h pins s σ H D (I.wish _) a) (λ_ _ q=>q.jP) λ_ _ z=>fg z
end
section
variable{X:Cx}{st:eJ}{rest:List eJ}{t u:TS}{e:dr}{te:TE}{pos:Pos}
noncomputable def Zg:TS:=λD σ H=>D.nx σ H
noncomputable def aeo(t u:TS):TS:=λD σ H=>t {D with nx:=u D} σ H
theorem Cv:wj X [] Zg:=λ_ _ σ H _ I h=>m9 ⟨σ,H,I,h⟩
theorem mF(h1:PS X st t)(b:wj X rest u):wj X (st::rest) (aeo t u):=by intro pins s σ H D I h;refine wpAny_execs_cons (bY (h1 pins s σ H {D with nx:=u D} I h) λf s1 q=>?_);cases f with|next=>obtain⟨a,c,g,q⟩:=q;exact b pins s1 a c D g q|ret v=>exact q|brk=>exact q|cont=>exact q
theorem Inv.quiet{σ:St}(I:Inv X pins σ H s):interactive X.env=false:=by simp[interactive,I.ok.kind]
noncomputable def Zj(te:TE):TS:=λD σ H=>te σ H λ_ a=>D.nx σ a
theorem pN(he:PE X e te)(hs:fx e none pos.line X.env=eT false:=by rfl):PS X (.Expr e pos) (Zj te):=by intro pins s σ H D I h;exact wpAny_Expr_any (bY (he pins s σ H _ I h) λv s1⟨x,H1,I1,r1,q1⟩=>⟨σ,H1,I1,q1⟩) I.quiet hs
noncomputable def aeS(te:TE):TS:=λD σ H=>te σ H D.rt
theorem GP(he:PE X e te):PS X (.Return (some e) pos) (aeS te):=by intro pins s σ H D I h;exact wpAny_Return_some (bY (he pins s σ H _ I h) λv s1⟨x,H1,I1,r1,q1⟩=>⟨x,σ,H1,I1,r1,q1⟩)
noncomputable def aeH(c:TT)(t u:TS):TS:=λD σ H=>c σ H λb a=>if b=true then t D σ a else u D σ a
theorem Qw{c:dr}{a b:List eJ}{f:TT}(hc:PT X c f)(j:wj X a t)(k:wj X b u):PS X (.If c a b pos) (aeH f t u):=by intro pins s σ H D I h;refine wpAny_If (bY (hc pins s σ H _ I h) λd s1⟨g,I1,q1⟩=>?_);cases d with|true=>exact j pins s1 σ g D I1 q1|false=>exact k pins s1 σ g D I1 q1
noncomputable def Uv:TS:=λ_ _ _=>False
theorem HF:PS X st Uv:=λ_ _ _ _ _ _ h=>h.elim
end
noncomputable abbrev TG:=V->St->Hp->(St->Hp->Prop)->Prop
noncomputable abbrev Gr:=List V->St->Hp->(St->Hp->Prop)->Prop
noncomputable def PG(X:Cx)(a:dr)(t:TG):Prop:=∀(pins:List (bd × Obj))(s:a_)(σ:St)(H:Hp)(v:V)(u:aX)(Q:St->Hp->Prop),Inv X pins σ H s->RelV v u->t v σ H Q->cy (cS X.prog X.w) X.A (ku a X.env u) (λ_ e=>∃b c,Inv X pins b c e/\Q b c) X.xe s
noncomputable def PGs(X:Cx)(c:List dr)(t:Gr):Prop:=∀(pins:List (bd × Obj))(s:a_)(σ:St)(H:Hp)(vs:List V)(us:List aX)(Q:St->Hp->Prop),Inv X pins σ H s->Vals vs us->t vs σ H Q->cy (cS X.prog X.w) X.A (ox ((i8 c X.env).map (·.2)) us) (λ_ e=>∃a b,Inv X pins a b e/\Q a b) X.xe s
noncomputable abbrev Iu:=V->V->V->Hp->(Hp->Prop)->Prop
noncomputable def TQ(X:Cx)(t:Iu):Prop:=∀(pins:List (bd × Obj))(s:a_)(σ:St)(H:Hp)(o i v:V)(a iv u:aX)(Q:Hp->Prop),Inv X pins σ H s->RelV o a->RelV i iv->RelV v u->t o i v H Q->cy (cS X.prog X.w) X.A (nh a iv u) (λ_ c=>∃b,Inv X pins σ b c/\Q b) X.xe s
noncomputable abbrev Wc:=V->V->Hp->VK->Prop
noncomputable def Qs(X:Cx)(op:lh)(t:Wc):Prop:=∀(pins:List (bd × Obj))(s:a_)(σ:St)(H:Hp)(x y:V)(v u:aX)(Q:VK),Inv X pins σ H s->RelV x v->RelV y u->t x y H Q->cy (cS X.prog X.w) X.A (inplaceOp op v u) (EP X pins σ Q) X.xe s
section
variable{X:Cx}{pos:Pos}
noncomputable def jH(i:Nat):TG:=λv σ H Q=>Q (σ.set i (some v)) H
theorem aJ{x:Str}(a:X.N.Nodup)(hi:X.N[i]?=some x)(b:Loc X.env.scope x)(c:X.fn x=true\/X.env.scope.names.lookup x=some .local:=by first|exact .inl rfl|exact .inr rfl|assumption):PG X (.Name x pos) (jH i):=by intro pins s σ H v u Q I r h;exact wpAny_assign_Name (jt I a hi b r (λf e=>⟨_,H,e,h⟩) c)
noncomputable def Te:Gr:=λvs σ H Q=>vs=[]/\Q σ H
noncomputable def JV(t:TG)(u:Gr):Gr:=λvs σ H Q=>∃v r,vs=v::r/\t v σ H λa b=>u r a b Q
theorem dI:PGs X [] Te:=by intro pins s σ H vs us Q I r h;obtain⟨e,h⟩:=h;subst e;cases r;exact assignInOrder_nil ⟨σ,H,I,h⟩
theorem aV{e:dr}{es:List dr}{t:TG}{u:Gr}(h1:PG X e t)(b:PGs X es u)(hs:(i8 (e::es) X.env).map (·.2)=ku e X.env::(i8 es X.env).map (·.2):=by rfl):PGs X (e::es) (JV t u):=by intro pins s σ H vs us Q I r h;obtain⟨v,g,c,h⟩:=h;subst c;cases r with|cons r f=>rw[hs];refine l_ (bY (h1 pins s σ H _ _ _ I r h) λ_ s1⟨a,H1,I1,q1⟩=>?_);exact b pins s1 a H1 _ _ Q I1 f q1
noncomputable def Vt(K:PySem.W.Frag)(n:Nat)(t:Gr):TG:=λv σ H Q=>∃a xs,v=.ref a/\iM K H a xs/\xs.length=n/\t xs σ H Q
theorem fj{es:List dr}{k:Nat}{t:Gr}{n:Nat}(hc:X.calm=true)(h:PGs X es t)(g:(i8 es X.env).length=n:=by rfl)(hst:(i8 es X.env).findIdx? (·.1)=none:=by rfl):PG X (.Tuple es k pos) (Vt X.K n t):=by intro pins s σ H v u Q I r c;obtain⟨a,xs,j,l,m,c⟩:=c;subst j;cases r;obtain⟨p,f,ht,hz⟩:=I.tuple l;refine assign_Tuple_tuple (I.ok.hd hc) ht (by simp[g,<-m,f.length]) hst λh' q=>?_;have x:Inv X pins σ H {s with heap:=h'}:=I.kept (t':=s.toks) λb o e=>q b o (dS (dl e)) e;exact h pins _ σ H xs _ Q x (by simpa using f) c
noncomputable def adp(to a:TE)(t:Iu):TG:=λv σ H Q=>to σ H λo b=>a σ b λi c=>t o i v c λe=>Q σ e
theorem Tr{o i:dr}{to b:TE}{t:Iu}(ho:PE X o to)(hi:PE X i b)(hs:TQ X t)(c:∀ v,ku (.Subscript o i pos) X.env v=(do
  let a<-ki [v] (eu o X.env)let iv<-ki [v,a] (eu i X.env)standAt pos
  ki [v,a,iv] (nh a iv v)release [v,a,iv] []):=by intro _;rfl):PG X (.Subscript o i pos) (adp to b t):=by intro pins s σ H v u Q I r h;rw[c];refine av (hQ (bY (ho pins s σ H _ I h) λa s1⟨x,H1,I1,r1,q1⟩=>?_));refine av (hQ (bY (hi pins s1 σ H1 _ I1 q1) λiv s2⟨y,H2,I2,r2,q2⟩=>?_));refine av (lR (av (hQ (bY (hs pins s2 σ H2 x y v a iv u _ I2 r1 r2 r q2) λ_ s3⟨e,I3,q3⟩=>?_))));exact wpAny_release ⟨σ,e,I3,q3⟩
noncomputable def Sw(te:TE)(g:TG):TS:=λD σ H=>te σ H λx a=>g x σ a D.nx
theorem Ib{e:dr}{g:TG}(he:PE X e te)(a:PG X tg g)(hs:ko [tg] e pos.line X.env=eT false:=by rfl)(b:kq [tg] e X.env=eT none:=by rfl)(h1:(i8 [tg] X.env).map (·.2)=[ku tg X.env]:=by rfl):PS X (.Assign [tg] e pos) (Sw te g):=by intro pins s σ H D I h;refine wpAny_Assign_stores (bY (he pins s σ H _ I h) λv s1⟨x,H1,I1,r1,q1⟩=>?_) hs b;rw[h1];exact bY (a pins s1 σ H1 x v _ I1 r1 q1) λ_ s2 q=>q
theorem vI{x:Str}{e:dr}{a:Pos}(b:X.N.Nodup)(hi:X.N[i]?=some x)(c:Loc X.env.scope x)(he:PE X e te)(hs:fx e (some (.Name x a)) pos.line X.env=eT false:=by rfl)(f:X.fn x=true\/X.env.scope.names.lookup x=some .local:=by first|exact .inl rfl|exact .inr rfl|assumption):PS X (.Assign [.Name x a] e pos) (Sw te (jH i)):=by intro pins s σ H D I h;refine wpAny_Assign_Name (bY (he pins s σ H _ I h) λv s1⟨y,H1,I1,r1,q1⟩=>?_) hs;exact jt I1 b hi c r1 (λs2 g=>⟨_,H1,g,q1⟩) f
noncomputable def afu(i j:Nat)(a:TA):TS:=λD σ H=>a σ H λvs b=>∃v w,vs=[v,w]/\D.nx ((σ.set i (some v)).set j (some w)) b
theorem Rj{j:Nat}{x y:Str}{a b:dr}{r:TA}{g k pt:Pos}{kt k2 Vz}(hc:X.calm=true)(t:X.N.Nodup)(hi:X.N[i]?=some x)(C:X.N[j]?=some y)(l:i≠j)(u:X.env.scope.names.lookup x=some .local)(z:X.env.scope.names.lookup y=some .local)(E:PA X [a,b] r)(G:kq [.Tuple [.Name x g,.Name y k] kt pt] (.Tuple [a,b] k2 Vz) X.env=eT (some [x,y]))(hs:ko [.Tuple [.Name x g,.Name y k] kt pt] (.Tuple [a,b] k2 Vz) pos.line X.env=eT false:=by rfl):PS X (.Assign [.Tuple [.Name x g,.Name y k] kt pt] (.Tuple [a,b] k2 Vz) pos) (afu i j r):=by
 intro pins s σ H D I h;rw[exec_Assign_arm];refine av (lR ?_);rw[hs];refine av (cr ?_);rw[if_neg (by decide)];refine av (Tuple_ (bY (E _ pins s σ H _ I h) λus s1⟨vs,H1,I1,r1,m⟩=>?_));obtain⟨v,w,J,m⟩:=m;subst J;obtain⟨c,f,rfl,L,O⟩:∃c f,us=[c,f]/\RelV v c/\RelV w f:=by cases r1 with|cons p q=>cases q with|cons Q U=>cases U;exact⟨_,_,rfl,p,Q⟩
 refine ew ?_ (by show 2<=sizeLine;decide);have W:Inv X pins σ H1 {s1 with heap:=s1.heap.push {cls:=.type "tuple",data:=.seq [c,f].toArray}}:=I1.kept (t':=s1.toks) λb o e=>dM e;rw[G];refine av (cr ?_);show cy (cS X.prog X.w) X.A (do rule "assign.swapped-stores";let items<-unpackItems (.ref s1.heap.objs.size) 2 none;ox [λv=>qq X.env y v,λv=>qq X.env x v] items.reverse;eT Flow.next) _ _ _;refine av (kb (av (unpackItems_tuple (items:=#[c,f]) (I.ok.hd hc) (kG s1.heap _) λh' n=>?_)));have Y:=W.kept (h':=h') (t':=s1.toks) λb o e=>n b o (dS (dl e)) e;show cy _ _ (ox [λv=>qq X.env y v,λv=>qq X.env x v] [f,c]>>=λ_=>eT Flow.next) _ _ _;refine av (l_ (wpAny_bindName (jt Y t C (.inl z) O (λs2 Z=>?_) (.inr z))));refine l_ (wpAny_bindName (jt Z t hi (.inl u) L (λs3 B=>assignInOrder_nil (cr ?_)) (.inr u)));rw[List.set_comm _ _ (gu l)]at B;exact⟨_,H1,B,m⟩
noncomputable def ada(i:Nat)(te:TE)(a:Wc):TS:=λD σ H=>∃x,σ[i]?=some (some x)/\te σ H λy b=>a x y b λz c=>D.nx (σ.set i (some z)) c
theorem Rz{x:Str}{e:dr}{op:lh}{o:Wc}{b:Pos}(p:X.N.Nodup)(hi:X.N[i]?=some x)(j:Loc X.env.scope x)(he:PE X e te)(ho:Qs X op o)(q:X.fn x=true\/X.env.scope.names.lookup x=some .local:=by first|exact .inl rfl|exact .inr rfl|assumption):PS X (.AugAssign (.Name x b) op e pos) (ada i te o):=by
 intro pins s σ H D I h;obtain⟨v,t,h⟩:=h;obtain⟨m,B,C⟩:=I.loc;have n:v9 X.env.scope x:=by rcases j with k|k;exact .inl k;exact .inr (.inl k)
 obtain⟨u,r,l⟩:=C i x v hi t n;refine wpAny_AugAssign_Name ?_;have go:cy (cS X.prog X.w) X.A (eu e X.env) (λw f=>cy (cS X.prog X.w) X.A (inplaceOp op u w) (λr g=>cy (cS X.prog X.w) X.A (storeName X.env x r) (λ_=>SP X pins D .next) X.xe g) X.xe f) X.xe s:=by refine bY (he pins s σ H _ I h) λw s1⟨y,H1,I1,r1,q1⟩=>?_;refine bY (ho pins s1 σ H1 v y u w _ I1 r r1 q1) λz s2⟨J,H2,I2,r2,q2⟩=>?_;exact jt I2 p hi j r2 (λs3 E=>⟨_,H2,E,q2⟩) q
 rcases l with⟨hk,G⟩|⟨hk,c,hc,a⟩;.exact p9 I.ok.kind hk B G go
 . rcases hk with hk|hk;.exact qE I.ok.kind hk hc a go
   . rcases j with k|k;.have:X.env.scope.names.lookup x=some .free:=hk;rw[k]at this;cases this
     .have:X.env.scope.names.lookup x=some .free:=hk;rw[k]at this;cases this
noncomputable def Yc(to b te:TE)(c:V->V->Hp->VK->Prop)(a:Wc)(e:Iu):TS:=λD σ H=>to σ H λo f=>b σ f λi g=>c o i g λx j=>te σ j λy k=>a x y k λz l=>e o i z l λm=>D.nx σ m
noncomputable def Zq(X:Cx)(t:V->V->Hp->VK->Prop):Prop:=∀(pins:List (bd × Obj))(s:a_)(σ:St)(H:Hp)(o i:V)(a iv:aX)(Q:VK),Inv X pins σ H s->RelV o a->RelV i iv->t o i H Q->cy (cS X.prog X.w) X.A (jS a iv) (EP X pins σ Q) X.xe s
theorem Lh{o i e:dr}{to j:TE}{k:V->V->Hp->VK->Prop}{c:Wc}{l:Iu}{op:lh}{f:Pos}(ho:PE X o to)(hi:PE X i j)(p:Zq X k)(he:PE X e te)(q:Qs X op c)(hs:TQ X l)(r:∀b iv a,augStore i b iv a=(do ki [a,b,iv] (nh b iv a);release [a,b,iv] [];eT .next):=by intros;rfl):PS X (.AugAssign (.Subscript o i f) op e pos) (Yc to j te k c l):=by intro pins s σ H D I h;refine wpAny_AugAssign_SubscriptAny (bY (ho pins s σ H _ I h) λb s1⟨m,H1,I1,r1,q1⟩=>?_) r;refine bY (hi pins s1 σ H1 _ I1 q1) λiv s2⟨n,H2,I2,r2,q2⟩=>?_;refine bY (p pins s2 σ H2 m n b iv _ I2 r1 r2 q2) λg s3⟨t,H3,I3,r3,q3⟩=>?_;refine bY (he pins s3 σ H3 _ I3 q3) λv s4⟨u,H4,I4,r4,q4⟩=>?_;refine bY (q pins s4 σ H4 t u g v _ I4 r3 r4 q4) λa s5⟨x,H5,I5,r5,q5⟩=>?_;exact bY (hs pins s5 σ H5 m n x b iv a _ I5 r1 r2 r5 q5) λ_ s6⟨y,I6,q6⟩=>⟨σ,y,I6,q6⟩
noncomputable def Wo(f:Int->Int->Int):Wc:=λx y H Q=>∃i j,x=.int i/\y=.int j/\Q (.int (f i j)) H
theorem Tt:Qs X .Add (Wo λi j=>i+j):=by intro pins s σ H x y v u Q I r1 a h;obtain⟨i,j,b,c,q⟩:=h;subst b;subst c;obtain⟨t,rfl⟩:=r1;obtain⟨t',rfl⟩:=a;exact iadd_int ⟨.int _,H,I.tok _,⟨_,rfl⟩,q⟩
theorem RZ:Qs X .Sub (Wo λi j=>i-j):=by intro pins s σ H x y v u Q I r1 a h;obtain⟨i,j,b,c,q⟩:=h;subst b;subst c;obtain⟨t,rfl⟩:=r1;obtain⟨t',rfl⟩:=a;exact isub_int ⟨.int _,H,I.tok _,⟨_,rfl⟩,q⟩
end
section
variable{X:Cx}{pos:Pos}
noncomputable def RM(c:TT)(j:TS):TS:=λD σ H=>∃W:Nat->St->Hp->Prop,(∃m,W m σ H)/\∀m σ H,W m σ H->c σ H λb e=>if b=true then ∃N:St->Hp->Prop,(∀a f,N a f->∃g,g<m/\W g a f)/\j {D with nx:=N,ct:=N,bk:=D.nx} σ e else D.nx σ e
theorem Iw{c:dr}{body:List eJ}{u:TT}{x:TS}(y:lp (cS X.prog X.w) X.A X.env X.xe)(hc:PT X c u)(G:wj X body x):PS X (.While c body [] pos) (RM u x):=by intro pins s σ H D I h;obtain⟨W,⟨m0,J⟩,g⟩:=h;refine wpAny_While (codeAny_whileLoop (λn L=>∃j z,Inv X pins j z L/\W n j z) ?_ m0 ⟨σ,H,I,J⟩);rintro n s1⟨e,B,O,Q⟩;refine hE y (bY (hc pins s1 e B _ O (g n e B Q)) λb s2⟨C,I2,l⟩=>?_);cases b with
 |true=>obtain⟨N,E,l⟩:=l;rw[if_pos rfl];refine hE y (bY (G pins s2 e C _ I2 l) λf s3 m=>?_);cases f with|next=>obtain⟨a,k,o,p⟩:=m;obtain⟨q,r,t⟩:=E a k p;exact⟨q,r,a,k,o,t⟩|cont=>obtain⟨a,k,o,p⟩:=m;obtain⟨q,r,t⟩:=E a k p;exact⟨q,r,a,k,o,t⟩|brk=>exact m|ret v=>exact m
 |false=>rw[if_neg dQ];exact m9 ⟨e,C,I2,l⟩
end
structure It where
 go:Nat->Hp->Prop
 Kd:Nat->Hp->V->Hp->Prop
 stop:Nat->Hp->Prop
noncomputable def nu(X:Cx)(pins:List (bd×Obj))(H:Hp)(b:bd):Prop:=H b=none/\b≠X.env.locals/\b∉X.fs/\(b∈X.ex\/X.s₀.heap.objs.size<=b)/\(∀x c,X.env.cells.lookup x=some c->c≠b)/\∀p∈X.pn++pins,p.1≠b
theorem Inv.zQ{σ:St}{f:Hp}{b:bd}(I:Inv X pins σ H s)(a:s.heap.objs.size<=b)(g:f b=none):nu X pins f b:=by
 refine⟨g,qf (d_ I.lt a),I.aeW a,.inr (h_ I.sz a),λx c e z=>?_,λp j z=>?_⟩;.obtain⟨v,q⟩:=I.cell x c e;exact absurd (d_ q.lt (by rw[z];exact a)) (hV _)
 .exact absurd (d_ (dl (I.pin p j).1) (by rw[z];exact a)) (hV _)
structure Turn(P:df)(w:ek)(K:PySem.W.Frag)(tg:dr)(J:It)(fp:List bd)(it:bd)(tn:Nat->eA->Prop):Prop where
 mem:it∈fp
 obj:∀i h,tn i h->∀b∈fp,∃o,h.get? b=some o/\∀v,o.data≠.cell v
 keep:∀i h h',tn i h->(∀b∈fp,∀o,h.get? b=some o->h'.get? b=some o)->tn i h'
 item:∀(X:Cx),X.prog=P->X.w=w->X.K=K->X.calm=true->∀(i:Nat)(pins:List (bd×Obj))(s:a_)(σ:St)(H:Hp)(E:aX->a_->Prop),Inv X pins σ H s->(∀b∈fp,nu X pins H b)->tn i s.heap->J.go i H->cy (cS P w) X.A (ny (.ref it)) (λr s1=>∃u,r=some u/\cy (cS P w) X.A (kQ tg (.ref it) u) (λ_ s2=>∃x H',Inv X pins σ H' s2/\RelV x u/\J.Kd i H x H'/\tn (i+1) s2.heap/\∀b∈fp,H' b=none) E s1) E s
 done:∀(X:Cx),X.prog=P->X.w=w->X.K=K->X.calm=true->∀(i:Nat)(pins:List (bd×Obj))(s:a_)(σ:St)(H:Hp)(E:aX->a_->Prop),Inv X pins σ H s->(∀b∈fp,nu X pins H b)->tn i s.heap->J.stop i H->cy (cS P w) X.A (ny (.ref it)) (λr s1=>r=none/\Inv X pins σ H s1) E s
 self:∀(A:ez)(i:Nat)(s:a_)(Q:aX->a_->Prop)(E:aX->a_->Prop),tn i s.heap->Q (.ref it) s->cy (cS P w) A (pf (.ref it)) Q E s
noncomputable abbrev TI:=St->Hp->(It->Hp->Prop)->Prop
noncomputable def PIE(X:Cx)(pins:List (bd×Obj))(σ:St)(tg:dr)(R:It->Hp->Prop)(a:aX)(s2:a_):Prop:=∃(it:bd)(e:List bd)(f:Nat->eA->Prop)(J:It)(c:Hp),a=.ref it/\Inv X pins σ c s2/\Turn X.prog X.w X.K tg J e it f/\f 0 s2.heap/\(∀b∈e,nu X pins c b)/\R J c
noncomputable def PI(X:Cx)(tg iter:dr)(a:TI):Prop:=∀(pins:List (bd × Obj))(s:a_)(σ:St)(H:Hp)(R:It->Hp->Prop),Inv X pins σ H s->a σ H R->cy (cS X.prog X.w) X.A (eu iter X.env) (λv s1=>cy (cS X.prog X.w) X.A (pf v) (PIE X pins σ tg R) X.xe s1) X.xe s
theorem Bo{E:aX->a_->Prop}{it:bd}{u:aX}{o:Obj}{n:String}{vs:Array aX}{Q:Unit->a_->Prop}(ho:s.heap.get? it=some o)(hc:o.cls=.type n)(hd:o.data=.fields vs)(b:["enumerate","zip","dict_itemiterator","dict_reverseitemiterator","odict_iterator","itertools.zip_longest","itertools.pairwise"].contains n=false)(a:Q () s):cy M A (kQ tg (.ref it) u) Q E s:=by unfold kQ;cases tg<;>first|exact cr a|(cases u<;>first|exact cr a|(refine av (wpAny_load ho ?_);rw[hc,hd];show cy M A (if(["enumerate","zip","dict_itemiterator","dict_reverseitemiterator","odict_iterator","itertools.zip_longest","itertools.pairwise"].contains n&&vs[0]?==some (l8 _))=true then _ else _) Q E s;rw[if_neg (by intro h;rw[b,mE]at h;cases h)];exact cr a))
noncomputable def Ur(K:PySem.W.Frag)(a:bd):It:=⟨λi H=>∃xs x,eO K H a xs/\xs[i]?=some x,λi H x b=>b=H/\∀xs,eO K H a xs->xs[i]?=some x,λi H=>∃xs,eO K H a xs/\xs.length<=i⟩
noncomputable def Xl(K:PySem.W.Frag)(a:bd):It:=⟨λi H=>∃xs x,iM K H a xs/\xs[i]?=some x,λi H x b=>b=H/\∀xs,iM K H a xs->xs[i]?=some x,λi H=>∃xs,iM K H a xs/\xs.length<=i⟩
noncomputable def Xf(lo:Int)(n:Nat):It:=⟨λi _=>i<n,λi H x a=>a=H/\x=.int (lo+i),λi _=>n<=i⟩
theorem Ei{P:df}(a it:bd):Turn P w K tg (Ur K a) [it] it (λi h=>h.IsListIter it a i)where
 mem:=by simp
 obj:=λi h st b f=>by
  have e:b=it:=by simpa using f
  subst e;obtain⟨o,e,c,d⟩:=st;exact⟨o,e,λv z=>by rw[d]at z;cases z⟩
 keep:=λi h h' st k=>st.at λo e=>k it (by simp) o e;item:=by intro X m n q hc i pins s σ H E I j st r;subst m n q;obtain⟨xs,x,l,t⟩:=r;obtain⟨y,B,p,hz⟩:=I.list l;obtain⟨u,C,G⟩:=B.get t;obtain⟨f0,f1,f2,f3,f4,f5⟩:=j it (by simp);refine wpAny_pyNext_list_item st p.isList (x:=u) (by simpa using C) λh' g J=>?_;have L:Inv X pins σ H {s with heap:=h'}:=I.turned (t':=s.toks) (λb o f e=>(J.2 b f).trans e) f0 f1 f3 f4 f5;obtain⟨o,e,c,d⟩:=id g;exact⟨u,rfl,Bo (s:={s with heap:=h'}) e c d (by decide) ⟨x,H,L,G,⟨rfl,λys N=>by rw[I.m7 N l];exact t⟩,g,λb f=>(j b f).1⟩⟩
 done:=by intro X m n q hc i pins s σ H E I j st r;subst m n q;obtain⟨xs,l,t⟩:=r;obtain⟨y,B,p,hz⟩:=I.list l;obtain⟨f0,f1,f2,f3,f4,f5⟩:=j it (by simp);have Q:=B.length;exact wpAny_pyNext_list_end (I.ok.hd hc) st p.isList (by simp;omega) λh' O=>⟨rfl,I.turned (t':=s.toks) (λb o f e=>O b o f e) f0 f1 f3 f4 f5⟩
 self:=λ_ _ _ _ _ st h=>wpAny_pyIter_listiter st h
theorem yU{P:df}(a it:bd):Turn P w K tg (Xl K a) [it] it (λi h=>h.IsTupleIter it a i)where
 mem:=by simp
 obj:=λi h st b f=>by
  have e:b=it:=by simpa using f
  subst e;obtain⟨o,e,c,d⟩:=st;exact⟨o,e,λv z=>by rw[d]at z;cases z⟩
 keep:=λi h h' st k=>st.at λo e=>k it (by simp) o e;item:=by intro X n q r hc i pins s σ H E I l st t;subst n q r;obtain⟨xs,x,m,y⟩:=t;obtain⟨g,B,p,hz⟩:=I.tuple m;obtain⟨u,C,G⟩:=B.get y;obtain⟨f0,f1,f2,f3,f4,f5⟩:=l it (by simp);refine wpAny_pyNext_tuple_item st (show s.heap.IsTuple a g.toArray from p) (x:=u) (by simpa using C) λh' j J=>?_;have L:Inv X pins σ H {s with heap:=h'}:=I.turned (t':=s.toks) (λb o f e=>(J.2 b f).trans e) f0 f1 f3 f4 f5;obtain⟨o,e,c,d⟩:=id j;exact⟨u,rfl,Bo (s:={s with heap:=h'}) e c d (by decide) ⟨x,H,L,G,⟨rfl,λys N=>by rw[I.j5 N m];exact y⟩,j,λb f=>(l b f).1⟩⟩
 done:=by intro X n q r hc i pins s σ H E I l st t;subst n q r;obtain⟨xs,m,y⟩:=t;obtain⟨g,B,p,hz⟩:=I.tuple m;obtain⟨f0,f1,f2,f3,f4,f5⟩:=l it (by simp);have Q:=B.length;exact wpAny_pyNext_tuple_end (I.ok.hd hc) st (show s.heap.IsTuple a g.toArray from p) (by simp;omega) λh' O=>⟨rfl,I.turned (t':=s.toks) (λb o f e=>O b o f e) f0 f1 f3 f4 f5⟩
 self:=λ_ _ _ _ _ st h=>wpAny_pyIter_tupleiter st h
theorem zy{P:df}(it:bd)(lo:Int)(n:Nat):Turn P w K tg (Xf lo n) [it] it (λi h=>IsRangeIter h it (lo+(i:Nat)*1) ((n:Int)-(i:Nat)) 1)where
 mem:=by simp
 obj:=λi h st b a=>by
  have e:b=it:=by simpa using a
  subst e;exact⟨_,st,λv z=>by have q:Data.fields _=Data.cell v:=z;cases q⟩
 keep:=λi h h' st k=>k it (by simp) _ st;item:=by intro X g j l hc i pins s σ H E I f st m;subst g j l;obtain⟨f0,f1,f2,f3,f4,f5⟩:=f it (by simp);have W:=Walks.range (prog:=X.prog) (w:=X.w) (I.ok.hd hc) it lo 1 n;refine W.item i s _ _ m st λv h' p r c u=>?_;obtain⟨t,rfl⟩:=r;have x:Inv X pins σ H {s with heap:=h',toks:=p}:=I.turned (λb o a e=>u b o (by simpa using a) e) f0 f1 f3 f4 f5;refine⟨_,rfl,Bo (s:={s with heap:=h',toks:=p}) (n:="range_iterator") c rfl rfl (by decide) ⟨.int (lo+i),H,x,⟨t,?_⟩,⟨rfl,rfl⟩,c,λb a=>(f b a).1⟩⟩;rw[mul_one]
 done:=by intro X g j l hc i pins s σ H E I f st m;subst g j l;obtain⟨f0,f1,f2,f3,f4,f5⟩:=f it (by simp);exact wpAny_pyNext_range_end (I.ok.hd hc) st (by have:n<=i:=m;omega) λh' y=>⟨rfl,I.turned (t':=s.toks) (λb o a e=>y b o a e) f0 f1 f3 f4 f5⟩
 self:=λ_ _ _ _ _ st h=>wpAny_pyIter_rangeiter st h
section
variable{X:Cx}{tg:dr}
theorem xY{σ:St}{R:It->Hp->Prop}{E:aX->a_->Prop}{lo hi:Int}{t u v:Tok}{a:Nat}(I:Inv X pins σ H s)(h1:-(2^62)<=lo)(f:lo<2^62)(g:-(2^62)<=hi)(j:hi<2^62)(q:R (Xf lo (hi-lo).toNat) H):cy (cS X.prog X.w) X.A (pf (.ref s.heap.objs.size)) (PIE X pins σ tg R) E {s with heap:=s.heap.push {cls:=.type "range",data:=.fields #[.int lo t,.int hi u,.int 1 v]},toks:=a}:=by
 refine wpAny_pyIter_range (IsRange.new ..) (small_one h1 f g j) ?_;have c:Inv X pins σ H {s with heap:=s.heap.push {cls:=.type "range",data:=.fields #[.int lo t,.int hi u,.int 1 v]},toks:=a}:=I.kept λb o e=>dM e;refine⟨(s.heap.push {cls:=.type "range",data:=.fields #[.int lo t,.int hi u,.int 1 v]}).objs.size,[(s.heap.push {cls:=.type "range",data:=.fields #[.int lo t,.int hi u,.int 1 v]}).objs.size],_,_,H,rfl,c.kept (t':=a) λb o e=>dM e,zy _ lo (hi-lo).toNat,?_,λb k=>?_,q⟩
 . have l:lo+((0:Nat):Int)*1=lo:=by simp
   have m:(((hi-lo).toNat:Nat):Int)-((0:Nat):Int)=Builtin.Range.rangeSize lo hi 1:=by rw[rangeSize_one];split<;>omega
   show IsRangeIter _ _ (lo+((0:Nat):Int)*1) ((((hi-lo).toNat:Nat):Int)-((0:Nat):Int)) 1;rw[l,m];exact cw _ rfl
 . have e:b=(s.heap.push {cls:=.type "range",data:=.fields #[.int lo t,.int hi u,.int 1 v]}).objs.size:=by simpa using k
   subst e;exact c.zQ (dw) (c.hok.fresh (dw))
noncomputable def Y0(a:TA):TI:=λσ H R=>a σ H λvs b=>∃j:Int,vs=[.int j]/\-(2^62)<=j/\j<2^62/\R (Xf 0 j.toNat) b
noncomputable def Zd(a:TA):TI:=λσ H R=>a σ H λvs b=>∃i j:Int,vs=[.int i,.int j]/\(-(2^62)<=i/\i<2^62/\-(2^62)<=j/\j<2^62)/\R (Xf i (j-i).toNat) b
theorem ur{a:dr}{c:TA}{p:Pos}(f:Gl X "range")(g:X.mg "range"=none)(k:PA X [a] c)(hs:cv [a] X.env=[(false,eu a X.env)]:=by rfl):PI X tg (.Call (.Name "range" p) [a] [] pos) (Y0 c):=by intro pins s σ H R I h;refine Call_ (iT I f g boot_range (eH (bY (k pos pins s σ H _ I h) λus s1⟨vs,H1,I1,r1,b⟩=>?_) hs rfl));obtain⟨j,e,b,l,q⟩:=b;subst e;cases r1 with|cons r m=>cases m;obtain⟨t,rfl⟩:=r;exact call_range_1 (xY I1 (by omega) (by omega) b l (by simpa using q))
theorem Es{a b:dr}{k:TA}{p:Pos}(l:Gl X "range")(m:X.mg "range"=none)(n:PA X [a,b] k)(hs:cv [a,b] X.env=[(false,eu a X.env),(false,eu b X.env)]:=by rfl)(c:cv [b] X.env=[(false,eu b X.env)]:=by rfl):PI X tg (.Call (.Name "range" p) [a,b] [] pos) (Zd k):=by intro pins s σ H R I h;refine Call_ (iT I l m boot_range (eH (bY (n pos pins s σ H _ I h) λus s1⟨vs,H1,I1,r1,f⟩=>?_) (by rw[hs,c]) (by rw[c];rfl)));obtain⟨i,j,e,⟨f,o,u,v⟩,q⟩:=f;subst e;cases r1 with|cons r g=>cases g with|cons x g=>cases g;obtain⟨t,rfl⟩:=r;obtain⟨t',rfl⟩:=x;exact call_range_2 (xY I1 f o u v q)
noncomputable def acY(f:TI)(g:TG)(j:TS):TS:=λD σ H=>f σ H λJ k=>∃W:Nat->Nat->St->Hp->Prop,(∃m,W 0 m σ k)/\∀i m σ H,W i m σ H->(J.stop i H/\D.nx σ H)\/(J.go i H/\∃N:St->Hp->Prop,(∀a b,N a b->∃e,e<m/\W (i+1) e a b)/\∀x b,J.Kd i H x b->g x σ b λc l=>j {D with nx:=N,ct:=N,bk:=D.nx} c l)
noncomputable def qM(a:List bd)(h:eA):List (bd×Obj):=a.filterMap λb=>(h.get? b).map λo=>(b,o)
theorem jb{a:List bd}{b:bd}{o:Obj}(c:b∈a)(e:h.get? b=some o):(b,o)∈qM a h:=List.mem_filterMap.mpr ⟨b,c,by rw[e];rfl⟩
theorem DW{a:List bd}{p:bd×Obj}(c:p∈qM a h):p.1∈a/\h.get? p.1=some p.2:=by obtain⟨b,f,e⟩:=List.mem_filterMap.mp c;cases q:h.get? b with|none=>rw[q]at e;cases e|some o=>rw[q]at e;have g:(b,o)=p:=eF e;subst g;exact⟨f,q⟩
theorem Inv.pinned{σ:St}{a:List bd}(I:Inv X pins σ H s)(g:∀b∈a,nu X pins H b)(ho:∀b∈a,∃o,s.heap.get? b=some o/\∀v,o.data≠.cell v):Inv X (pins++qM a s.heap) σ H s:=I.Du λp j=>(eW.mp j).elim (λz=>I.pin p (fq _ z)) λz=>by obtain⟨c,e⟩:=DW z;obtain⟨f0,f1,f2,_⟩:=g p.1 c;obtain⟨o,f,d⟩:=ho p.1 c;rw[e]at f;cases f;exact⟨e,f0,f1,f2,d⟩
theorem Inv.mX{a:List (bd×Obj)}{σ:St}(I:Inv X (pins++a) σ H s):Inv X pins σ H s:=I.Du λp b=>I.pin p (fq _ (oj _ b))
theorem HS{iter:dr}{body:List eJ}{Z:TI}{g:TG}{tb:TS}(z:lp (cS X.prog X.w) X.A X.env X.xe)(hc:X.calm=true)(hi:PI X tg iter Z)(hg:PG X tg g)(c:wj X body tb)(hs:∀x,eS iter X.env x=eT x:=by intro _;rfl):PS X (.For tg iter body [] pos) (acY Z g tb):=by
 intro pins s σ H D I h;refine wpAny_For (bY (hi pins s σ H _ I h) λv s1 h1=>bY h1 λac s2 h2=>?_) hs;obtain⟨it,B,tn,J,H2,e,I2,T,Q,f2,W,⟨m0,w0⟩,C⟩:=h2;subst e--what stays true of the iterator's objects through the loop
 have j:∀{t:Hp},(∀b∈B,t b=none)->∀b∈B,nu X pins t b:=λhn b c=>⟨hn b c,(f2 b c).2⟩;refine codeAny_forLoop_any (λn s'=>∃i k t,Inv X pins k t s'/\tn i s'.heap/\(∀b∈B,t b=none)/\W i n k t) ?_ m0 ⟨0,σ,H2,I2,Q,λb c=>(f2 b c).1,w0⟩;rintro n s3⟨i,l,O,I3,E,G,w3⟩;rcases C i n l O w3 with⟨stop,qn⟩|⟨go,N,hN,step⟩;.refine hE z (bY (T.done X rfl rfl rfl hc i pins s3 l O X.xe I3 (j G) E stop) λr s4⟨hr,I4⟩=>?_);subst hr;exact m9 ⟨l,O,I4,qn⟩
 . refine hE z (bY (T.item X rfl rfl rfl hc i pins s3 l O X.xe I3 (j G) E go) λr s4⟨u,hr,h4⟩=>?_);subst hr;refine hE z (bY h4 λ_ s5⟨x,H5,I5,r5,y5,st5,fr5⟩=>?_);have U:=I5.pinned (j fr5) (T.obj _ _ st5);refine hE z (bY (hg _ s5 l H5 x u _ U r5 (step x H5 y5)) λ_ s6⟨Y,H6,I6,q6⟩=>?_);refine hE z (bY (c _ s6 Y H6 _ I6 q6) λf s7 y=>?_);have again:∀{a:St}{p:Hp},Inv X (pins++qM B s5.heap) a p s7->N a p->∃m,m<n/\∃i k t,Inv X pins k t s7/\tn i s7.heap/\(∀b∈B,t b=none)/\W i m k t:=λ{a p}q L=>by obtain⟨m',hm,w7⟩:=hN a p L;refine⟨m',hm,i+1,a,p,q.mX,T.keep _ _ _ st5 λb c o e=>(q.pin (b,o) (fq _ (fq _ (jb c e)))).1,λb c=>?_,w7⟩;obtain⟨o,e,d⟩:=T.obj _ _ st5 b c;exact(q.pin (b,o) (fq _ (fq _ (jb c e)))).2.1
   cases f with|next=>obtain⟨a,p,q,L⟩:=y;exact again q L|cont=>obtain⟨a,p,q,L⟩:=y;exact again q L|brk=>obtain⟨a,p,q,y⟩:=y;exact⟨a,p,q.mX,y⟩|ret v=>obtain⟨x7,a,p,q,r7,y⟩:=y;exact⟨x7,a,p,q.mX,r7,y⟩
end
noncomputable abbrev R2:=V->V->Hp->VK->Prop
noncomputable def fX(X:Cx)(f:aX->aX->Sem aX)(r:R2):Prop:=∀(pins:List (bd × Obj))(s:a_)(σ:St)(H:Hp)(x y:V)(v u:aX)(Q:VK),Inv X pins σ H s->RelV x v->RelV y u->r x y H Q->cy (cS X.prog X.w) X.A (f v u) (EP X pins σ Q) X.xe s
noncomputable def UnR(X:Cx)(f:aX->Sem aX)(r:V->Hp->VK->Prop):Prop:=∀(pins:List (bd × Obj))(s:a_)(σ:St)(H:Hp)(x:V)(v:aX)(Q:VK),Inv X pins σ H s->RelV x v->r x H Q->cy (cS X.prog X.w) X.A (f v) (EP X pins σ Q) X.xe s
noncomputable def dN(X:Cx)(f:aX)(r:List V->Hp->VK->Prop):Prop:=∀(pins:List (bd × Obj))(s:a_)(σ:St)(H:Hp)(xs:List V)(us:List aX)(Q:VK),Inv X pins σ H s->Vals xs us->r xs H Q->cy (cS X.prog X.w) X.A (call f us) (EP X pins σ Q) X.xe s
noncomputable def Sv(r:R2)(a b:TE):TE:=λσ H Q=>a σ H λx c=>b σ c λy e=>r x y e Q
noncomputable def tUn(r:V->Hp->VK->Prop)(a:TE):TE:=λσ H Q=>a σ H λx b=>r x b Q
noncomputable def rI(C:Int->Int->Prop)(g:Int->Int->V):R2:=λx y H Q=>∃i j,x=.int i/\y=.int j/\C i j/\Q (g i j) H
noncomputable def K3(g:Int->Int->V):R2:=λx y H Q=>∃i j,x=.int i/\y=.int j/\Q (g i j) H
noncomputable def rU(g:Int->V):V->Hp->VK->Prop:=λx H Q=>∃i,x=.int i/\Q (g i) H
section
variable{X:Cx}{a b c:dr}{ta tb tc:TE}{pos:Pos}
theorem RV(l:PE X a ta)(m:PE X b tb){σ:St}{R:V->V->Hp->Prop}(I:Inv X pins σ H s)(h:ta σ H λx k=>tb σ k λy e=>R x y e){Q:aX->a_->Prop}{f:aX->aX->Sem aX}(n:∀v u s2 x y e,Inv X pins σ e s2->RelV x v->RelV y u->R x y e->cy (cS X.prog X.w) X.A (f v u) Q X.xe s2):cy (cS X.prog X.w) X.A (eu a X.env) (λv g=>cy (cS X.prog X.w) X.A (eu b X.env) (λu j=>cy (cS X.prog X.w) X.A (f v u) Q X.xe j) X.xe g) X.xe s:=by refine bY (l pins s σ H _ I h) λv s1⟨x,k,I1,r1,q1⟩=>?_;refine bY (m pins s1 σ k _ I1 q1) λu s2⟨y,e,I2,r2,q2⟩=>?_;exact n v u s2 x y e I2 r1 r2 q2
theorem Yy{op:lh}{r:R2}(ho:fX X (fw op) r)(e:PE X a ta)(f:PE X b tb):PE X (.BinOp a op b pos) (Sv r ta tb):=by intro pins s σ H Q I h;exact wpAny_BinOp (RV e f I h λv u s2 x y g j k l q=>ho pins s2 σ g x y v u Q j k l q)
theorem Zm{op:UnaryOp}{r:V->Hp->VK->Prop}(ho:UnR X (unaryOp op) r)(e:PE X a ta):PE X (.UnaryOp op a pos) (tUn r ta):=by intro pins s σ H Q I h;exact UnaryOp_ (bY (e pins s σ H _ I h) λv s1⟨x,H1,I1,r1,q1⟩=>ho pins s1 σ H1 x v Q I1 r1 q1)
theorem opI{f:aX->aX->Sem aX}{C:Int->Int->Prop}{g:Int->Int->Int}(rule:∀(i j:Int)(t u:Tok)(s:a_)(Q:aX->a_->Prop)(E:aX->a_->Prop),C i j->Q (.int (g i j) s.toks) {s with toks:=s.toks+1}->cy (cS X.prog X.w) X.A (f (.int i t) (.int j u)) Q E s):fX X f (rI C λi j=>.int (g i j)):=by intro pins s σ H x y v u Q I e k h;obtain⟨i,j,rfl,rfl,hc,q⟩:=h;obtain⟨t,rfl⟩:=e;obtain⟨t',rfl⟩:=k;exact rule i j t t' s _ _ hc ⟨.int (g i j),H,I.tok _,⟨_,rfl⟩,q⟩
theorem XX{f:aX->aX->Sem aX}{g:Int->Int->Int}(rule:∀(i j:Int)(t u:Tok)(s:a_)(Q:aX->a_->Prop)(E:aX->a_->Prop),Q (.int (g i j) s.toks) {s with toks:=s.toks+1}->cy (cS X.prog X.w) X.A (f (.int i t) (.int j u)) Q E s):fX X f (K3 λi j=>.int (g i j)):=by intro pins s σ H x y v u Q I e k h;obtain⟨i,j,rfl,rfl,q⟩:=h;obtain⟨t,rfl⟩:=e;obtain⟨t',rfl⟩:=k;exact rule i j t t' s _ _ ⟨.int (g i j),H,I.tok _,⟨_,rfl⟩,q⟩
theorem MK{f:aX->aX->Sem aX}{g:Int->Int->Bool}(rule:∀(i j:Int)(t u:Tok)(s:a_)(Q:aX->a_->Prop)(E:aX->a_->Prop),Q (.bool (g i j)) s->cy (cS X.prog X.w) X.A (f (.int i t) (.int j u)) Q E s):fX X f (K3 λi j=>.bl (g i j)):=by intro pins s σ H x y v u Q I e k h;obtain⟨i,j,rfl,rfl,q⟩:=h;obtain⟨t,rfl⟩:=e;obtain⟨t',rfl⟩:=k;exact rule i j t t' s _ _ ⟨.bl (g i j),H,I,rfl,q⟩
noncomputable def adO(i j:Int):Prop:=0<=j/\j<=1000000/\i.natAbs<2^64
noncomputable def T4(i j:Int):Prop:=(-(2^64)<i/\i<2^64)\/(-(2^64)<j/\j<2^64)
theorem T4.ok{i j:Int}(h:T4 i j):IntMulOk i j:=by
 rcases h with⟨h1,e⟩|⟨h1,e⟩;.exact .of_left (intBits_le_64 h1 e)
 .exact .of_right (intBits_le_64 h1 e)
theorem Uk:fX X (fw .Add) (K3 λi j=>.int (i+j)):=XX λ_ _ _ _ _ _ _ q=>add_int q
theorem Q9:fX X (fw .Sub) (K3 λi j=>.int (i-j)):=XX λ_ _ _ _ _ _ _ q=>sub_int q
theorem TY:fX X (fw .Mult) (rI T4 λi j=>.int (i*j)):=opI λ_ _ _ _ _ _ _ hc q=>mul_int q hc.ok
theorem R6:fX X (fw .Mod) (rI (λ_ j=>0<j) λi j=>.int (i%j)):=opI λi j _ _ _ _ _ hc q=>by have h1:(0:Int)<j:=hc;exact mod_int' (by omega) (by rw[Int.fmod_eq_emod_of_nonneg i (by omega)];exact q)
theorem Sg:fX X (fw .Pow) (rI adO λi j=>.int (i^j.toNat)):=opI λ_ _ _ _ _ _ _ hc q=>pow_int_small hc.1 hc.2.1 hc.2.2 q
theorem unI{f:aX->Sem aX}{g:Int->Int}(rule:∀(i:Int)(t:Tok)(s:a_)(Q:aX->a_->Prop)(E:aX->a_->Prop),Q (.int (g i) s.toks) {s with toks:=s.toks+1}->cy (cS X.prog X.w) X.A (f (.int i t)) Q E s):UnR X f (rU λi=>.int (g i)):=by intro pins s σ H x v Q I e h;obtain⟨i,rfl,q⟩:=h;obtain⟨t,rfl⟩:=e;exact rule i t s _ _ ⟨.int (g i),H,I.tok _,⟨_,rfl⟩,q⟩
theorem Ri:UnR X (unaryOp .USub) (rU λi=>.int (-i)):=unI λ_ _ _ _ _ q=>neg_int q
end
section
variable{X:Cx}{a b c:dr}{ta tb tc:TE}{pos:Pos}
theorem TF{σ:St}{Q:VK}{k f:Bool}(I:Inv X pins σ H s)(q:Q (.bl k) H)(e:k=f):EP X pins σ Q (.bool f) s:=by subst e;exact⟨.bl k,H,I,rfl,q⟩
theorem Ze:fX X (eg .Lt) (K3 λi j=>.bl (decide (i<j))):=MK λ_ _ _ _ _ _ _ q=>lt_int q
theorem Zk:fX X (eg .LtE) (K3 λi j=>.bl (decide (i<=j))):=MK λ_ _ _ _ _ _ _ q=>le_int q
theorem Yp:fX X (eg .Gt) (K3 λi j=>.bl (decide (j<i))):=MK λ_ _ _ _ _ _ _ q=>gt_int q
theorem Yt:fX X (eg .GtE) (K3 λi j=>.bl (decide (j<=i))):=MK λ_ _ _ _ _ _ _ q=>ge_int q
theorem Np:fX X (eg .IsNot) (λx y H Q=>y=.non/\Q (.bl (!decide (x=.non))) H):=by intro pins s σ H x y v u Q I e f h;obtain⟨rfl,q⟩:=h;cases f;refine isnot_none_gen (TF I q ?_);cases x<;>first|(cases e;rfl)|(obtain⟨t,rfl⟩:=e;rfl)
theorem bU(b:dr)(h:op≠.In:=by decide)(e:op≠.NotIn:=by decide):gc op b=false:=by
 have f:(op==CmpOp.In)=false:=by cases op<;>first|rfl|exact absurd rfl h
 have g:(op==CmpOp.NotIn)=false:=by cases op<;>first|rfl|exact absurd rfl e
 cases b<;>simp[gc,f,g]
theorem Ml{r:R2}(ho:fX X (eg op) r)(e:PE X a ta)(f:PE X b tb)(g:gc op b=false):PE X (.Compare a [op] [b] pos) (Sv r ta tb):=by intro pins s σ H Q I h;exact wpAny_Compare1 (RV e f I h λv u s2 x y j k l m q=>ho pins s2 σ j x y v u Q k l m q) g
noncomputable def ZS(t:TE):TT:=λσ H Q=>t σ H λx e=>∃k,x=.bl k/\Q k e
theorem CQ{r:R2}(ho:fX X (eg op) r)(f:PE X a ta)(g:PE X b tb)(j:gc op b=false):PT X (.Compare a [op] [b] pos) (ZS (Sv r ta tb)):=by intro pins s σ H Q I h;refine p4 (bY (f pins s σ H _ I h) λv s1⟨x,H1,I1,r1,q1⟩=>bY (g pins s1 σ H1 _ I1 q1) λu s2⟨y,H2,I2,r2,q2⟩=>bY (ho pins s2 σ H2 x y v u _ I2 r1 r2 q2) λc s3⟨z,H3,I3,r3,k,e,q3⟩=>?_) j;subst e;cases r3;exact gx ⟨H3,I3,q3⟩
noncomputable def R7(r f:R2)(ta tb tc:TE):TE:=λσ H Q=>ta σ H λx g=>tb σ g λy j=>r x y j λz e=>∃k,z=.bl k/\(if k=true then tc σ e λl m=>f y l m Q else Q (.bl false) e)
theorem Hf{f:n_}{r j:R2}(ho:fX X (eg op) r)(g:fX X (eg f) j)(l:PE X a ta)(m:PE X b tb)(hc:PE X c tc)(n:lastMarks [op,f] [b,c]=false:=by with_unfolding_all rfl):PE X (.Compare a [op,f] [b,c] pos) (R7 r j ta tb tc):=by intro pins s σ H Q I h;refine Compare_chain (bY (l pins s σ H _ I h) λv s1⟨x,H1,I1,r1,q1⟩=>chain_link (bY (m pins s1 σ H1 _ I1 q1) λu s2⟨y,H2,I2,r2,q2⟩=>bY (ho pins s2 σ H2 x y v u _ I2 r1 r2 q2) λd s3⟨z,H3,I3,r3,k,e,q3⟩=>?_)) n;subst e;cases r3;refine gx ?_;cases k with|false=>exact ite_ff ⟨.bl false,H3,I3,rfl,q3⟩|true=>exact ite_tt (chain_last (bY (hc pins s3 σ H3 _ I3 q3) λo s4⟨p,H4,I4,r4,q4⟩=>g pins s4 σ H4 y p u o Q I4 r2 r4 q4))
theorem qx:(sizeLine:Nat)<2^63:=by rw[fe];decide
theorem yZ:fX X (fw .Add) (λx y H Q=>∃i j,x=.str i/\y=.str j/\i.length+j.length<=sizeLine/\Q (.str (i++j)) H):=by intro pins s σ H x y v u Q I e f h;obtain⟨i,j,rfl,rfl,hz,q⟩:=h;obtain⟨t,rfl⟩:=e;obtain⟨t',rfl⟩:=f;exact add_str (λt' g=>⟨.str (i++j),H,I.tok _,⟨_,rfl⟩,q⟩) hz
theorem vals1{x:V}(r:Vals [x] us):∃u,us=[u]/\RelV x u:=by cases r with|cons r1 e=>cases e;exact⟨_,rfl,r1⟩
theorem vals2{x y:V}(r:Vals [x,y] us):∃u e,us=[u,e]/\RelV x u/\RelV y e:=by cases r with|cons r1 f=>cases f with|cons g j=>cases j;exact⟨_,_,rfl,r1,g⟩
theorem Jp:dN X (.builtin "abs") (λxs H Q=>∃i,xs=[.int i]/\Q (.int (if i<0 then-i else i)) H):=by intro pins s σ H xs us Q I r h;obtain⟨i,rfl,q⟩:=h;obtain⟨u,rfl,t,rfl⟩:=vals1 r;exact call_abs_int λu e=>⟨.int (if i<0 then-i else i),H,I.tok _,⟨_,rfl⟩,q⟩
theorem Fx(hc:X.calm=true):dN X (.builtin "max") (λxs H Q=>∃i j,xs=[.int i,.int j]/\Q (.int (if j>i then j else i)) H):=by
 intro pins s σ H xs us Q I r h;obtain⟨i,j,rfl,q⟩:=h;obtain⟨u,f,rfl,⟨t,rfl⟩,⟨t',rfl⟩⟩:=vals2 r;refine max_two_ints (I.ok.hd hc) λh' g k=>⟨_,H,I.kept k,?_,q⟩;by_cases e:j>i;.rw[if_pos e,if_pos e];exact⟨_,rfl⟩
 .rw[if_neg e,if_neg e];exact⟨_,rfl⟩
theorem Eo(hc:X.calm=true):dN X (.builtin "min") (λxs H Q=>∃i j,xs=[.int i,.int j]/\Q (.int (if j<i then j else i)) H):=by
 intro pins s σ H xs us Q I r h;obtain⟨i,j,rfl,q⟩:=h;obtain⟨u,f,rfl,⟨t,rfl⟩,⟨t',rfl⟩⟩:=vals2 r;refine min_two_ints (I.ok.hd hc) λh' g k=>⟨_,H,I.kept k,?_,q⟩;by_cases e:j<i;.rw[if_pos e,if_pos e];exact⟨_,rfl⟩
 .rw[if_neg e,if_neg e];exact⟨_,rfl⟩
end
theorem pq.some_of{v:V}{o:Option aX}(r:pq (some v) o):∃u,o=some u/\RelV v u:=by cases o with|none=>exact(show False from r).elim|some u=>exact⟨u,rfl,r⟩
structure jJ(k:Nat)(A:ez):Prop where
 hd:A.handled=none
 dp:A.depth+3*k+5<recursionLimit
 un:A.units+16*k+200<fT
theorem jJ.deeper{k:Nat}{A:ez}(r:jJ (k+1) A)(env:Env):jJ k (A.deeper env):=⟨r.hd,by have:=r.dp;show A.depth+1+3*k+5<_;omega,by have:=r.un;show A.units+3+16*k+200<_;omega⟩
theorem jJ.depth{k:Nat}{A:ez}(r:jJ k A):A.depth<recursionLimit:=by have:=r.dp;omega
noncomputable def ac0:TA:=λ_ H Q=>Q [] H
noncomputable def Zv(a:TE)(b:TA):TA:=λσ H Q=>a σ H λx c=>b σ c λxs e=>Q (x::xs) e
section
variable{X:Cx}{e:dr}{es:List dr}{te:TE}{t:TA}{pos:Pos}
theorem dD:PA X [] ac0:=λ_ _ _ _ H Q I h=>lj ⟨[],H,I,.nil,h⟩
theorem bF(a:PE X e te)(hr:PA X es t)(hs:cv (e::es) X.env=(false,eu e X.env)::cv es X.env:=by rfl):PA X (e::es) (Zv te t):=by intro pos pins s σ H Q I h;rw[hs];show cy _ _ (spliced ((false,eu e X.env)::iF pos (cv es X.env))) _ _ s;refine jx (bY (a pins s σ H _ I h) λu s1⟨x,H1,I1,r1,q1⟩=>?_);exact bY (hr pos pins s1 σ H1 _ I1 q1) λus s2⟨xs,H2,I2,r2,q2⟩=>⟨x::xs,H2,I2,.cons r1 r2,q2⟩
noncomputable def afE(t:TA):TE:=λσ H Q=>t σ H λxs a=>xs.length<=sizeLine/\∀p,a p=none->Q (.ref p) (upd a p (.tup xs))
noncomputable def ae6(t:TA):TE:=λσ H Q=>t σ H λxs a=>xs.length<=sizeLine/\∀p,a p=none->Q (.ref p) (upd a p (.lst xs))
theorem Jt{x1}(h:PA X es t):PE X (.Tuple es x1 pos) (afE t):=by intro pins s σ H Q I a;refine wpAny_Tuple_spliced (bY (h pos pins s σ H _ I a) λus s1⟨xs,H1,I1,r,z,q⟩=>⟨by rw[<-r.length];exact z,?_⟩);have c:H1 s1.heap.objs.size=none:=I1.hok.fresh (dw);refine⟨.ref s1.heap.objs.size,upd H1 s1.heap.objs.size (.tup xs),I1.laid (t':=s1.toks) (λb u e=>dM e) (dw) ?_,rfl,q _ c⟩;exact⟨z,us,r,⟨_,cw _ rfl,rfl,_,rfl⟩⟩
theorem Td(h:PA X es t):PE X (.List es pos) (ae6 t):=by intro pins s σ H Q I a;refine wpAny_List_spliced (bY (h pos pins s σ H _ I a) λus s1⟨xs,H1,I1,r,z,q⟩=>⟨by rw[<-r.length];exact z,?_⟩);have c:H1 s1.heap.objs.size=none:=I1.hok.fresh (dw);refine⟨.ref s1.heap.objs.size,upd H1 s1.heap.objs.size (.lst xs),I1.laid (t':=s1.toks) (λb u e=>dM e) (dw) ?_,rfl,q _ c⟩;exact⟨z,us,0,r,cw _ rfl⟩
end
noncomputable abbrev Sp:=List V->Hp->VK->XK->Prop
noncomputable abbrev Jq:=List Env->Hp->a_->XK->aX->a_->Prop
structure Oj(P:df)(w:ek)(K:PySem.W.Frag)(mg:Str->Option aX)(base:eA)(A:ez)(outer:List Env)(s:a_)(H:Hp):Prop where
 frames:A.frames=some outer
 mod:Mod K mg base
 bs:∀b o,base.get? b=some o->s.heap.get? b=some o/\H b=none
 QH:base.objs.size<=s.heap.objs.size
 qP:s.heap.FunFrames base outer
 Xn:∀b∈frs outer,H b=none
 hok:ni P w H s.heap
 bare:lx s.gens
noncomputable def CE(outer:List Env)(P:df)(w:ek)(H:Hp)(s:a_)(Q:VK)(u:aX)(a:a_):Prop:=∃v b,a.os=s.os/\lx a.gens/\Un (frs outer) [] H b s.heap a.heap/\ni P w b a.heap/\RelV v u/\Q v b
noncomputable def CR(CX:Jq)(outer:List Env)(P:df)(w:ek)(H:Hp)(s:a_)(Q:VK)(E:XK)(r:Result)(a:a_):Prop:=match r with|.ok (.ret u)=>CE outer P w H s Q u a|.ok _=>False|.error e=>CX outer H s E e a
structure ou(P:df)(w:ek)(K:PySem.W.Frag)(mg:Str->Option aX)(base:eA)(CX:Jq)(k:Nat)(f:bd)(fd:hJ)(ps:List Str)(sp:Sp):Prop where
 len:∀vs H Q E,sp vs H Q E->vs.length=ps.length
 run:∀(A:ez)(outer:List Env)(s:a_)(H:Hp)(args:Args)(us:List aX)(vs:List V)(Q:VK)(E:XK),jJ k A->Oj P w K mg base A outer s H->nl s fd args (ps.zip us)->Vals vs us->sp vs H Q E->kN (cS P w) A (.call (.ref f) args) (CR CX outer P w H s Q E) s
section
variable{X:Cx}{pins:List (bd×Obj)}{σ:St}{H:Hp}{s s':a_}
theorem Inv.env0(I:Inv X pins σ H s):Oj X.prog X.w X.K X.mg X.base X.A X.stack s H:=⟨I.ok.frames,I.ok.mod,I.bs,h_ I.ok.QH I.sz,I.stack,I.CJ,I.hok,I.bare⟩
theorem Inv.after{Q:VK}{u:aX}(I:Inv X pins σ H s)(h:CE X.stack X.prog X.w H s Q u s'):EP X pins σ Q u s':=by obtain⟨v,c,os,bare,un,hok,r,q⟩:=h;obtain⟨e,g,d,t,a⟩:=s';obtain rfl:a=s.os:=os;exact⟨v,c,I.call (h':=e) (g':=g) (d':=d) (t':=t) (ch:=[]) un hok bare (λb z=>absurd z (by simp)),r,q⟩
end
noncomputable def Yo(sp:Sp)(a:List V)(E:XK)(t:TA):TE:=λσ H Q=>t σ H λvs b=>sp (vs++a) b Q E
noncomputable def Binds(K:PySem.W.Frag)(fd:hJ)(ps:List Str)(a:List aX):Prop:=∀(s:a_)(us:List aX),K.In s.heap->(us++a).length=ps.length->nl s fd ⟨us,[]⟩ (ps.zip (us++a))
theorem Binds.all{fd:hJ}{ps:List Str}(h:∀us:List aX,us.length=ps.length->qr fd ⟨us,[]⟩=eT (ps.zip us)):Binds K fd ps []:=λs us _ a=>by rw[fE]at a ⊢;exact .of_eq (h us a)
noncomputable def Passes(CX:Jq)(X:Cx)(E:XK):Prop:=∀(pins:List (bd×Obj))(σ:St)(H:Hp)(s:a_)(e:aX)(a:a_),Inv X pins σ H s->CX X.stack H s E e a->X.xe e a
section
variable{X:Cx}{CX:Jq}{k:Nat}{f C:bd}{fd:hJ}{ps:List Str}{sp:Sp}{QK:List V}{ds:List aX}{E:XK}{x m:Str}{p pos apos:Pos}{e o:dr}{es:List dr}{ta:TE}{t:TA}
theorem Ut{σ:St}{Q:VK}{vs:List V}(F:ou X.prog X.w X.K X.mg X.base CX k f fd ps sp)(hr:jJ k X.A)(c:Binds X.K fd ps ds)(hd:Vals QK ds)(g:Passes CX X E)(I:Inv X pins σ H s)(r:Vals vs us)(h:sp (vs++QK) H Q E):cy (cS X.prog X.w) X.A (call (.ref f) us) (EP X pins σ Q) X.xe s:=by
 have b:Vals (vs++QK) (us++ds):=r.append hd;have j:(us++ds).length=ps.length:=by rw[<-b.length];exact F.len _ _ _ _ h
 refine wpAny_call (pz (F.run X.A X.stack s H ⟨us,[]⟩ (us++ds) (vs++QK) Q E hr I.env0 (c s us I.Qe j) b h) λr l a=>?_);cases r with|error e=>exact g pins σ H s e l I a|ok fl=>cases fl with|ret u=>exact I.after a|next=>exact fg a|brk=>exact fg a|cont=>exact fg a
theorem Lw(F:ou X.prog X.w X.K X.mg X.base CX k f fd ps sp)(hr:jJ k X.A)(b:Gl X x)(c:X.mg x=some (.ref f))(g:keepIn X.K (.ref f)=true)(j:Binds X.K fd ps ds)(hd:Vals QK ds)(l:Passes CX X E)(n:PA X (e::es) t)(a:(x==("__debug__":Str))=false:=by decide)(he:cv (e::es) X.env=(false,eu e X.env)::cv es X.env:=by rfl)(hpl:(iF pos (cv es X.env)).any (·.1)=false:=by rfl):PE X (.Call (.Name x p) (e::es) [] pos) (Yo sp QK E t):=by intro pins s σ H Q I h;refine l6 (Dv I b c ?_ a);refine PySem.W.callWith_K (h₀:=X.base) I.ok.mod.o9 g (bY (n pos pins s σ H _ I h) λus s1⟨vs,H1,I1,r,q⟩=>⟨I1.Qe,?_⟩) he hpl;exact Ut F hr j hd l I1 r q
end
structure aK(N P:List Str)(sc:jp):Prop where
 kind:sc.kind=.function
 co:sc.isCoroutine=false
 gen:sc.isGenerator=false
 nd:N.Nodup
 pre:N.take P.length=P
 par:∀x∈P,sc.names.lookup x=some .local\/sc.names.lookup x=some .cell
 VB:∀y∈sc.names,y.2≠.free
theorem ue{kindOf:Str->Option ke}{x:Str}:∀{binds:List (Str×aX)}{m:Str->Option aX},(∀v,(x,v)∉binds)->oC kindOf binds m x=m x
 |[],_,_=>rfl|(n,v)::r,m,h=>by
   unfold oC;rw[ue λw a=>h w (dE _ a)];split
   . have:x≠n:=by rintro rfl;exact h v hU
     simp[this]
   .rfl
theorem uE{kindOf:Str->Option ke}{x:Str}:∀{binds:List (Str×aX)}{m:Str->Option aX},(∀v,(x,v)∉binds)->oD kindOf binds m x=m x
 |[],_,_=>rfl|(n,v)::r,m,h=>by
   unfold oD;rw[uE λw a=>h w (dE _ a)];split;.rfl
   . have:x≠n:=by rintro rfl;exact h v hU
     simp[this]
theorem tQ{kindOf:Str->Option ke}{x:Str}{v:aX}:∀{P:List Str}{vs:List aX}{i:Nat}{m:Str->Option aX},P.Nodup->P[i]?=some x->vs[i]?=some v->kindOf x=some .local->oC kindOf (P.zip vs) m x=some v|[],_,_,_,_,h,_,_=>by simp at h|_::_,[],_,_,_,_,h,_=>by simp at h|p::P,w::vs,0,m,nd,h1,a,b=>by simp at h1 a;subst h1;subst a;show oC kindOf ((p,w)::P.zip vs) m p=_;unfold oC;rw[ue λv c=>(eK.mp nd).1 (iE c).1,if_pos b];simp|p::P,w::vs,i+1,m,nd,h1,a,b=>by show oC kindOf ((p,w)::P.zip vs) m x=_;unfold oC;exact tQ (i:=i) (eK.mp nd).2 (by simpa using h1) (by simpa using a) b
theorem uD{kindOf:Str->Option ke}{x:Str}{v:aX}:∀{P:List Str}{vs:List aX}{i:Nat}{m:Str->Option aX},P.Nodup->P[i]?=some x->vs[i]?=some v->kindOf x≠some .local->oD kindOf (P.zip vs) m x=some v|[],_,_,_,_,h,_,_=>by simp at h|_::_,[],_,_,_,_,h,_=>by simp at h|p::P,w::vs,0,m,nd,h1,a,b=>by simp at h1 a;subst h1;subst a;show oD kindOf ((p,w)::P.zip vs) m p=_;unfold oD;rw[uE λv c=>(eK.mp nd).1 (iE c).1,if_neg b];simp|p::P,w::vs,i+1,m,nd,h1,a,b=>by show oD kindOf ((p,w)::P.zip vs) m x=_;unfold oD;exact uD (i:=i) (eK.mp nd).2 (by simpa using h1) (by simpa using a) b
noncomputable def start(N:List Str)(vs:List V):St:=vs.map some++b_ (N.length-vs.length) none
noncomputable def zE(CX:Jq)(P:df)(w:ek)(K:PySem.W.Frag)(mg:Str->Option aX)(base:eA)(N:List Str)(qual:Str)(scope:jp)(f:bd)(b:aX)(A:ez)(outer:List Env)(s:a_)(H:Hp)(E:XK):Cx where prog:=P;w:=w;K:=K;mg:=mg;base:=base;A:=A.deeper (lb qual scope s.heap.objs.size f b);N:=N;s₀:=s;H₀:=H;env:=lb qual scope s.heap.objs.size f b;outer:=outer;stack:=lb qual scope s.heap.objs.size f b::outer;ex:=[];calm:=true;fn:=λ_=>true;pn:=[];xe:=λe c=>cy (cS P w) (A.deeper (lb qual scope s.heap.objs.size f b)) (leaving (lb qual scope s.heap.objs.size f b) e) (λ_ a=>CX outer H s E e a) (λg a=>CX outer H s E g a) c
theorem wN{a:jp}{n:Nat}{x:Str}(h:a.names.lookup x=some .cell):∃c,(j_ n a.names []).lookup x=some c:=by have q:=PySem.W.cellsFrom_some a.names n [] (.inl h);exact mB.mp q
theorem Fe{CX:Jq}{P:df}{mg:Str->Option aX}{base:eA}{N ps:List Str}{qual:Str}{scope:jp}{f:bd}{t:aX}{outer:List Env}{s1:a_}{E:XK}{vs:List V}(S:aK N ps scope)(hd:A.handled=none)(j:Oj P w K mg base A outer s H)(J:vs.length=ps.length)(r:Vals vs us)(x:InCallC s s.heap.objs.size (oC (lb qual scope s.heap.objs.size f t).kindOf (ps.zip us) λ_=>none) (j_ (s.heap.objs.size+1) scope.names []) (oD (lb qual scope s.heap.objs.size f t).kindOf (ps.zip us) λ_=>none) s1):Inv (zE CX P w K mg base N qual scope f t A outer s H E) [] (start N vs) H s1:=by
 have hpl:ps.length<=N.length:=by have:=congrArg kF S.pre;rw[k7]at this;omega
 obtain⟨h1,L,rfl,B⟩:=x.done;have l:∀b:bd,b∉(zE CX P w K mg base N qual scope f t A outer s H E).ex:=λb z=>absurd (show b∈([]:List bd)from z) (by simp);refine⟨⟨j.mod,S.kind,rfl,rfl,dw,λy z c h1 g=>?_,λy hy=>?_,λy c _ h=>?_,λ_=>hd,Around.frames_deeper j.frames,.inr ⟨rfl,rfl⟩,λb z=>absurd z (l b),j.bs,j.QH,λb _ _=>l b,λb z=>absurd z (l b),j.qP,j.Xn⟩,rfl,j.bare,Un.kept B,⟨_,x.toInCall.ns,λi y v h1 g O=>?_⟩,λy c h=>⟨_,x.cell y c h⟩,j.hok.fresh (dw),λy c h=>?_,λp m=>absurd (show p∈([]:List (bd×Obj))from m) (by simp),j.hok.kept B,?_⟩;.exact name_of_addr x.apart (PySem.mem_of_lookup h1) (PySem.mem_of_lookup g)
 . have hy:scope.names.lookup y=some .cell\/scope.names.lookup y=some .free:=hy;rcases hy with hy|hy;.exact wN hy
   .exact absurd rfl (S.VB _ (PySem.mem_of_lookup hy))
 .exact k8 (x.above y c (PySem.mem_of_lookup h))
 . have hi:i<vs.length:=by
    unfold start at g;by_cases hi:i<vs.length;.exact hi
    .rw[er (by simpa using hi)]at g;rw[ip]at g;split at g<;>cases g
   have G:vs[i]?=some v:=by unfold start at g;rw[cK (by simpa using hi),eR]at g;cases e:vs[i]?with|none=>rw[e]at g;cases g|some a=>rw[e]at g;cases g;rfl
   obtain⟨u,C,I⟩:=r.get G;have m:ps[i]?=some y:=by rw[<-S.pre,List.getElem?_take_of_lt (by omega)];exact h1
   have o:ps.Nodup:=by rw[<-S.pre];exact S.nd.sublist (List.take_sublist _ _)
   refine⟨u,I,?_⟩;rcases S.par y (da m)with k|k;.exact .inl ⟨k,tQ o m C k⟩
   .obtain⟨c,e⟩:=wN (n:=s.heap.objs.size+1) k;refine .inr ⟨.inl k,c,e,?_⟩;have q:=x.cell y c e;rw[uD o m C (by show scope.names.lookup y≠_;rw[k];decide)]at q;exact q
 .exact j.hok.fresh (k8 (x.above y c (PySem.mem_of_lookup h)))
 .unfold start;show _=N.length;rw[dZ,dy,n4];omega
theorem Z8{CX:Jq}{P:df}{w:ek}{K:PySem.W.Frag}{mg:Str->Option aX}{base:eA}{k:Nat}{f:bd}{name qual:Str}{a:Arguments}{body:List eJ}{scope:jp}{L kV m O cdv ct oc:aX}{U Z:Option bd}{z:Array (Option aX)}{N ps:List Str}{sp:Sp}(lk:K.lookup f=some ⟨oc,Z,.func (PySem.W.fnOf name qual a body scope L kV m O U cdv ct),z⟩)(B:PySem.W.codeIn K cdv qual=true)(S:aK N ps scope)(len:∀vs H Q E,sp vs H Q E->vs.length=ps.length)(j:∀(A:ez)(outer:List Env)(s:a_)(H:Hp)(vs:List V)(Q:VK)(E:XK),jJ k (A.deeper (lb qual scope s.heap.objs.size f cdv))->sp vs H Q E->∃t,wj (zE CX P w K mg base N qual scope f cdv A outer s H E) body t/\t {nx:=λ_ g=>Q .non g,rt:=Q} (start N vs) H):ou P w K mg base CX (k+1) f (PySem.W.fnOf name qual a body scope L kV m O U cdv ct) ps sp:=by
 refine⟨len,λA outer s H args us vs Q E hr p hb r hsp=>?_⟩;have hl:=len _ _ _ _ hsp;have Y:K.In s.heap:=p.mod.o9.keeps λb o e=>(p.bs b o e).1;have lim:s.heap.NoLimit:=p.mod.nolimit.keeps λb o e=>(p.bs b o e).1;have l:∀y∈ps.zip us,scope.names.lookup y.1=some .local\/(scope.names.lookup y.1=some .cell/\((j_ (s.heap.objs.size+1) scope.names []).lookup y.1).isSome=true):=λ⟨n,v⟩hy=>by
  rcases S.par n (iE hy).1 with q|q;.exact .inl q
  .exact .inr ⟨q,PySem.W.cellsFrom_some _ _ _ (.inl q)⟩
 refine codeAny_call_function hr.depth (Y _ _ lk) rfl S.co S.gen rfl (PySem.W.codeRec_of Y B) (hb _ _ _ _ ?_);refine wpAny_newFunctionEnv_cells S.kind l λenv he s1 x=>?_;subst he;refine⟨lim.keeps x.toInCall.keep,codeAny_func ?_⟩;obtain⟨t,ht,hq⟩:=j A outer s H vs Q E (hr.deeper _) hsp;have I:Inv (zE CX P w K mg base N qual scope f cdv A outer s H E) [] (start N vs) H s1:=Fe S hr.hd p hl r x;refine et (ht [] s1 (start N vs) H _ I hq) (λfl C hs=>?_) λe C hs=>hs;have fin:∀{c:St}{g:Hp}{v:V}{u:aX},Inv (zE CX P w K mg base N qual scope f cdv A outer s H E) [] c g C->RelV v u->Q v g->CE outer P w H s Q u C:=λ{c g v u}J G q=>⟨v,g,J.os,J.bare,J.base,J.hok,G,q⟩;cases fl with|ret u=>obtain⟨v,c,g,J,G,q⟩:=hs;exact fin J G q|next=>obtain⟨c,g,J,q⟩:=hs;exact fin (v:=V.non) (u:=eL) J rfl q|brk=>obtain⟨_,_,_,q⟩:=hs;exact fg q|cont=>obtain⟨_,_,_,q⟩:=hs;exact fg q
section
variable{X:Cx}{x:Str}{p pos:Pos}{e:dr}{es:List dr}{t:TA}{id T:String}{r:List V->Hp->VK->Prop}
noncomputable def tCB(r:List V->Hp->VK->Prop)(t:TA):TE:=λσ H Q=>t σ H λvs a=>r vs a Q
theorem dX(hc:dN X (.builtin id) r)(b:Gl X x)(c:X.mg x=none)(f:ey x=some (.builtin id))(g:PA X (e::es) t)(j:x≠"__name__":=by decide)(a:(x==("__debug__":Str))=false:=by decide)(he:cv (e::es) X.env=(false,eu e X.env)::cv es X.env:=by rfl)(hpl:(iF pos (cv es X.env)).any (·.1)=false:=by rfl):PE X (.Call (.Name x p) (e::es) [] pos) (tCB r t):=by intro pins s σ H Q I h;refine l6 (iT I b c f ?_ j a);exact PyProof.Rows.callWith_builtin1 (bY (g pos pins s σ H _ I h) λus s1⟨vs,H1,I1,r1,q1⟩=>hc pins s1 σ H1 vs us Q I1 r1 q1) he hpl
theorem nT(hc:dN X (.type T) r)(b:Gl X x)(c:X.mg x=none)(f:ey x=some (.type T))(g:PA X (e::es) t)(j:x≠"__name__":=by decide)(a:(x==("__debug__":Str))=false:=by decide)(he:cv (e::es) X.env=(false,eu e X.env)::cv es X.env:=by rfl)(hpl:(iF pos (cv es X.env)).any (·.1)=false:=by rfl):PE X (.Call (.Name x p) (e::es) [] pos) (tCB r t):=by intro pins s σ H Q I h;refine l6 (iT I b c f ?_ j a);exact eH (bY (g pos pins s σ H _ I h) λus s1⟨vs,H1,I1,r1,q1⟩=>hc pins s1 σ H1 vs us Q I1 r1 q1) he hpl
end
end L2
namespace HT
open PySem PyProof.Rows
section
variable{prog:df}{w:ek}{A:ez}{E:aX->a_->Prop}{s:a_}
theorem Nt{t b:bd}{vs ws:List aX}{Q:aX->a_->Prop}(ht:oI s.heap t vs.toArray)(o:oI s.heap b ws.toArray)(j:vs≠[])(h1:ws=[]->Q (.ref t) s)(p:ws≠[]->Q (.ref s.heap.objs.size) {s with heap:=s.heap.push {cls:=.type "tuple",data:=.seq (vs++ws).toArray}})(hsz:vs.length+ws.length<=sizeLine):cy (cS prog w) A (fw .Add (.ref t) (.ref b)) Q E s:=by
 obtain⟨⟨cls,k,data,sl⟩,ho,hc,n,hd⟩:=id ht;obtain⟨⟨l,c,data2,f⟩,a,g,m,h⟩:=id o;simp only at hc hd g h;subst hc hd g h;have e:vs.toArray++ws.toArray=(vs++ws).toArray:=by simp
 by_cases i:ws=[];.exact mu ⟨_,ho,rfl⟩ ⟨_,a,rfl⟩ mM ot slot_tuple_add entry_tuple_add (args_tuple_add_2 _ _) (tuple_addW1 t b vs.toArray ws.toArray n m k c sl f (by simpa using j) (by simp[i])) ⟨ho,a,h1 i⟩
 .refine mu ⟨_,ho,rfl⟩ ⟨_,a,rfl⟩ mM ot slot_tuple_add entry_tuple_add (args_tuple_add_2 _ _) (tuple_addW2 t b vs.toArray ws.toArray n m k c sl f (by simpa using j) (by simpa using i) (by rw[cx,cx];exact hsz)) ⟨ho,a,?_⟩;rw[e];exact p i
noncomputable def dO(n d:Nat):Option Int->Nat|none=>d|some v=>if v<0 then(v+(n:Int)).toNat else min v.toNat n
theorem UG(n d:Nat)(hd:d<=n)(o:Option Int):dO n d o<=n:=by cases o with|none=>exact hd|some v=>
   show(if v<0 then(v+(n:Int)).toNat else min v.toNat n)<=n;by_cases a:v<0;.rw[if_pos a];omega
   .rw[if_neg a];exact Nat.min_le_right _ _
theorem Dd(v:Int)(n d:Nat):(if v<0 then max (v+(n:Int)) 0 else min v (n:Int))=((dO n d (some v):Nat):Int):=by
 show(if v<0 then max (v+(n:Int)) 0 else min v (n:Int))=(((if v<0 then(v+(n:Int)).toNat else min v.toNat n):Nat):Int);by_cases a:v<0;.simp only[if_pos a];omega
 .simp only[if_neg a];omega
theorem Ae(lo hi:Option Int)(n:Nat):qb lo hi 1 (n:Int)=(((dO n 0 lo:Nat):Int),((dO n n hi:Nat):Int)):=by
 have h1:¬((1:Int)<0):=by omega
 unfold qb;simp only[h1,if_false];refine Prod.ext ?_ ?_;.cases lo with|none=>rfl|some v=>exact Dd v n 0
 .cases hi with|none=>rfl|some v=>exact Dd v n n
theorem yX(i j:Nat):mS (i:Int) (j:Int) 1=j-i:=by
 unfold mS;have h1:(1:Int)>0:=by omega
 simp only[h1,if_true,Int.ediv_one];split<;>omega
theorem rP{v:aX}{o:Option Int}{Q:Option Int->a_->Prop}(p:li v o)(h:Q o s):cy (cS prog w) A (Builtin.Slice.slicePartIndex v) Q E s:=by cases p with|none=>exact slicePart_none h|int i t=>exact slicePart_int h
theorem iI{sl:bd}{c e:aX}{lo hi:Option Int}{n:Nat}{Q:Int×Int×Nat->a_->Prop}(hs:s.heap.IsSliceOf sl c e .none)(f:li c lo)(g:li e hi)(h:Q (((dO n 0 lo:Nat):Int),1,dO n n hi-dO n 0 lo) s):cy (cS prog w) A (sliceApplied (.ref sl) (eT (n:Int))) Q E s:=by obtain⟨os,a,i,b⟩:=id hs;unfold sliceApplied Builtin.Slice.sliceFields;refine av (av (fm a b (x:=c) rfl (av (fm a b (x:=e) rfl (av (fm a b (x:=.none) rfl (cr ?_)))))));refine av (slicePart_none ?_);show cy _ _ (if((1:Int)==0)=true then _ else _) _ _ s;rw[if_neg (by decide)];refine av (rP f (av (rP g (av (cr ?_)))));show cy _ _ (match qb lo hi 1 (n:Int)with|(lo,hi)=>eT (lo,(1:Int),mS lo hi 1)) _ _ s;rw[Ae lo hi n];show cy _ _ (eT (((dO n 0 lo:Nat):Int),(1:Int),mS ((dO n 0 lo:Nat):Int) ((dO n n hi:Nat):Int) 1)) _ _ s;rw[yX];exact cr h
theorem Hr(xs:Array aX)(i k:Nat):((dP k).filterMap λ(m:Nat)=>xs[((i:Int)+(m:Int)*1).toNat]?).toArray=((xs.toList.drop i).take k).toArray:=by
 have e:(λ(m:Nat)=>xs[((i:Int)+(m:Int)*1).toNat]?)=λm=>xs[i+m]?:=by
  funext m;have:((i:Int)+(m:Int)*1).toNat=i+m:=by omega
  rw[this]
 rw[e];have:=pick_run xs i k;rw[List.filterMap_map]at this;have a:((λx=>xs[x]?)∘ λx=>i+x)=λm=>xs[i+m]?:=rfl;rw[a]at this;rw[this]
theorem mO{t sl:bd}{items:Array aX}{g i:aX}{lo hi:Option Int}{Q:aX->a_->Prop}(ht:oI s.heap t items)(hs:s.heap.IsSliceOf sl g i .none)(j:li g lo)(k:li i hi)(l:¬(dO items.size 0 lo=0/\dO items.size items.size hi=items.size))(h:Q (.ref s.heap.objs.size) {s with heap:=s.heap.push {cls:=.type "tuple",data:=.seq ((items.toList.drop (dO items.size 0 lo)).take (dO items.size items.size hi-dO items.size 0 lo)).toArray}})(hsz:items.size<=sizeLine):cy (cS prog w) A (jS (.ref t) (.ref sl)) Q E s:=by
 have a:sizeOk (.seq ((items.toList.drop (dO items.size 0 lo)).take (dO items.size items.size hi-dO items.size 0 lo)).toArray):=by show((items.toList.drop (dO items.size 0 lo)).take (dO items.size items.size hi-dO items.size 0 lo)).toArray.size<=sizeLine;rw[cx,k7,lV,i_];omega
 have o:dO items.size items.size hi<=items.size:=UG _ _ (dw) hi;obtain⟨os,b,c,n⟩:=id hs;have e:s.TypeIs (.ref sl) "slice":=⟨os,b,c⟩;unfold jS;try with_reducible refine hQ ?_
 first|refine av (cr ?_)|skip
 refine av (wpAny_sequenceKey ht.typeIs (by decide) ?_);refine av (fR (name:=iL "__getitem__") ht.typeIs ic (gN ic ht.typeIs entry_tuple_getitem ?_ (args_tuple_getitem _ _)));show cy _ _ (tupleItemsOf (.ref t)>>=_) _ _ s;refine av (tupleItemsOf_ ht ?_);refine av (kL e ?_);rw[if_pos (by decide)];refine av (iI hs j k ?_);have f:¬((((dO items.size 0 lo:Nat):Int)==0&&(1:Int)==1&&(dO items.size items.size hi-dO items.size 0 lo)==items.size)=true):=by intro q;rw[fN,fN]at q;have p:((dO items.size 0 lo:Nat):Int)=0:=eq_of_beq q.1.1;have r:dO items.size items.size hi-dO items.size 0 lo=items.size:=eq_of_beq q.2;exact l ⟨by omega,by omega⟩
 show cy _ _ (if(((dO items.size 0 lo:Nat):Int)==0&&(1:Int)==1&&(dO items.size items.size hi-dO items.size 0 lo)==items.size)=true then _ else _) _ _ s;rw[if_neg f,Hr];first|exact av (m:=i6 _) (ew (cr ⟨_,rfl,cr h⟩) a)|exact av (m:=i6 _) (ew (av (cr (cr ⟨_,rfl,cr h⟩))) a)|exact av (av (m:=i6 _) (ew (cr (cr ⟨_,rfl,cr h⟩)) a))|exact av (av (m:=i6 _) (ew (cr ⟨_,rfl,cr h⟩) a))
end
end HT
namespace L2
open PySem PySem.Spec PyProof.Rows
variable{n:Nat}
noncomputable abbrev TO:=St->Hp->(Option Int->Hp->Prop)->Prop
noncomputable def PO(X:Cx)(e:Option dr)(t:TO):Prop:=∀(a:List (bd × Obj))(s:a_)(σ:St)(H:Hp)(Q:Option Int->Hp->Prop),Inv X a σ H s->t σ H Q->cy (cS X.prog X.w) X.A (evalPart e X.env) (λu c=>∃o b,Inv X a σ b c/\li u o/\Q o b) X.xe s
noncomputable def Mx:TO:=λ_ H Q=>Q none H
noncomputable def YC(t:TE):TO:=λσ H Q=>t σ H λx a=>∃i,x=.int i/\Q (some i) a
section
variable{X:Cx}{e:dr}{te:TE}{lo hi:Option dr}{tl th:TO}{pos p2:Pos}
theorem Nk:PO X none Mx:=by intro a s σ H Q I h;rw[evalPart_none];exact cr ⟨none,H,I,.none,h⟩
theorem Nv(h:PE X e te):PO X (some e) (YC te):=by intro a s σ H Q I b;rw[evalPart_some];refine bY (h a s σ H _ I b) λu s1⟨x,H1,I1,r1,q1⟩=>?_;obtain⟨i,rfl,q⟩:=q1;obtain⟨t,rfl⟩:=r1;exact⟨some i,H1,I1,.int i t,q⟩
noncomputable def SlR(X:Cx)(r:V->Option Int->Option Int->Hp->VK->Prop):Prop:=∀(a:List (bd × Obj))(s:a_)(σ:St)(H:Hp)(x:V)(v b c:aX)(lo hi:Option Int)(sl:bd)(Q:VK),Inv X a σ H s->RelV x v->s.heap.IsSliceOf sl b c .none->li b lo->li c hi->r x lo hi H Q->∃T id,nq (.type T) "__getitem__"=eT (some (.builtin id))/\s.TypeIs v T/\cy (cS X.prog X.w) X.A (jS v (.ref sl)) (EP X a σ Q) X.xe s
noncomputable def tSl(r:V->Option Int->Option Int->Hp->VK->Prop)(te:TE)(tl th:TO):TE:=λσ H Q=>te σ H λx a=>tl σ a λl b=>th σ b λu c=>r x l u c Q
theorem wI{r:V->Option Int->Option Int->Hp->VK->Prop}(hr:SlR X r)(he:PE X e te)(g:PO X lo tl)(i:PO X hi th):PE X (.Subscript e (.Slice lo hi none p2) pos) (tSl r te tl th):=by intro a s σ H Q I h;refine Subscript_ (bY (he a s σ H _ I h) λv s1⟨x,H1,I1,r1,q1⟩=>?_);refine wpAny_Slice (bY (g a s1 σ H1 _ I1 q1) λc s2⟨l,H2,I2,pl,q2⟩=>bY (i a s2 σ H2 _ I2 q2) λf s3⟨u,H3,I3,pu,q3⟩=>?_);rw[evalPart_none];refine cr ?_;have j:Inv X a σ H3 {s3 with heap:=s3.heap.push {cls:=.type "slice",data:=.fields #[c,f,.none]}}:=I3.kept (t':=s3.toks) λb o q=>dM q;obtain⟨T,id,k,ht,m⟩:=hr a {s3 with heap:=s3.heap.push {cls:=.type "slice",data:=.fields #[c,f,.none]}} σ H3 x v c f l u s3.heap.objs.size Q j r1 (Heap.IsSliceOf.new ..) pl pu q3;show cy (cS X.prog X.w) X.A (oq e (.Slice lo hi none p2) v (.ref s3.heap.objs.size)) (EP X a σ Q) X.xe {s3 with heap:=s3.heap.push {cls:=.type "slice",data:=.fields #[c,f,.none]}};exact tail_any (ops:=[.ref s3.heap.objs.size,v]) ht k m (by with_unfolding_all rfl)
noncomputable def xj(xs:List V)(lo hi:Option Int):List V:=(xs.drop (HT.dO xs.length 0 lo)).take (HT.dO xs.length xs.length hi-HT.dO xs.length 0 lo)
theorem oU(xs:List V)(lo hi:Option Int):(xj xs lo hi).length<=xs.length:=by unfold xj;rw[k7,lV];omega
noncomputable def adS(K:PySem.W.Frag):V->Option Int->Option Int->Hp->VK->Prop:=λx lo hi H Q=>∃a xs,x=.ref a/\iM K H a xs/\¬(HT.dO xs.length 0 lo=0/\HT.dO xs.length xs.length hi=xs.length)/\∀p,H p=none->Q (.ref p) (upd H p (.tup (xj xs lo hi)))
theorem Q8:SlR X (adS X.K):=by
 intro g s σ H x v p t lo hi sl Q I i hs j k h;obtain⟨a,xs,rfl,l,m,q⟩:=h;cases i;obtain⟨f,r,ht,hz⟩:=I.tuple l;have c:f.toArray.size=xs.length:=by rw[cx];exact r.length.symm
 refine⟨"tuple",_,ic.lookup,ht.typeIs,?_⟩;refine HT.mO ht hs j k (by rw[c];exact m) ?_ (by rw[c];exact hz);rw[c];refine⟨.ref s.heap.objs.size,_,I.laid (t':=s.toks) (o:=.tup (xj xs lo hi)) (λb u q=>dM q) (dw) ?_,rfl,q _ (I.hok.fresh (dw))⟩;exact⟨h_ (oU xs lo hi) hz,_,(r.drop (HT.dO xs.length 0 lo)).take (HT.dO xs.length xs.length hi-HT.dO xs.length 0 lo),kG _ _⟩
noncomputable def Xx(K:PySem.W.Frag):R2:=λx y H Q=>∃a b xs ys,x=.ref a/\y=.ref b/\iM K H a xs/\iM K H b ys/\xs≠[]/\xs.length+ys.length<=sizeLine/\(ys=[]->Q (.ref a) H)/\(ys≠[]->∀p,H p=none->Q (.ref p) (upd H p (.tup (xs++ys))))
theorem Vals.pQ{xs:List V}{a:List aX}(r:Vals xs a):a=[]↔xs=[]:=by cases r with|nil=>simp|cons _ _=>simp
theorem Og:fX X (fw .Add) (Xx X.K):=by intro f s σ H x y v u Q I i j h;obtain⟨a,b,xs,ys,rfl,rfl,k,l,m,hz,p,r⟩:=h;cases i;cases j;obtain⟨t,r1,p1,_⟩:=I.tuple k;obtain⟨g,c,p2,_⟩:=I.tuple l;refine HT.Nt p1 p2 (λz=>m (r1.pQ.mp z)) (λz=>⟨.ref a,H,I,rfl,p (c.pQ.mp z)⟩) (λz=>?_) (by rw[<-r1.length,<-c.length];exact hz);refine⟨.ref s.heap.objs.size,_,I.laid (t':=s.toks) (o:=.tup (xs++ys)) (λb A q=>dM q) (dw) ?_,rfl,r (λw=>z (c.pQ.mpr w)) _ (I.hok.fresh (dw))⟩;exact⟨by rw[dZ];exact hz,_,r1.append c,kG _ _⟩
end
noncomputable def jE(n:Nat)(i:Int):Option Nat:=if 0<=i then(if i<n then some i.toNat else none)else if-(n:Int)<=i then some (i+n).toNat else none
noncomputable def Jl{a:Type}(xs:List a)(i:Int):Option a:=(jE xs.length i).bind λj=>xs[j]?
theorem Bm{i:Int}{j:Nat}(h:jE n i=some j):seqIndex? i n=some j/\j<n/\-(n:Int)<=i/\i<n:=by
 unfold jE at h;by_cases h0:0<=i
 . rw[if_pos h0]at h;by_cases h1:i<n;.rw[if_pos h1]at h;have e:i.toNat=j:=eF h;exact⟨by rw[mT h0 h1,e],by omega,by omega,h1⟩
   .rw[if_neg h1]at h;cases h
 . rw[if_neg h0]at h;by_cases h1:-(n:Int)<=i;.rw[if_pos h1]at h;have e:(i+n).toNat=j:=eF h;exact⟨by rw[mi (by omega) h1,e],by omega,h1,by omega⟩
   .rw[if_neg h1]at h;cases h
theorem vg{a:Type}{xs:List a}{i:Int}{v:a}(h:Jl xs i=some v):∃j,seqIndex? i xs.length=some j/\xs[j]?=some v/\j<xs.length/\-(xs.length:Int)<=i/\i<xs.length:=by unfold Jl at h;cases e:jE xs.length i with|none=>rw[e]at h;cases h|some j=>rw[e]at h;obtain⟨h1,b,c,f⟩:=Bm e;exact⟨j,h1,h,b,c,f⟩
noncomputable def vH(b:dr):Prop:=∀o i,mP b false o i=operate [o,i] (jS o i)
noncomputable def IxR(X:Cx)(r:R2):Prop:=∀(b slice:dr)(a:List (bd × Obj))(s:a_)(σ:St)(H:Hp)(x y:V)(v u:aX)(Q:VK),Inv X a σ H s->RelV x v->RelV y u->r x y H Q->mP slice false v u=operate [v,u] (jS v u)->cy (cS X.prog X.w) X.A (oq b slice v u) (EP X a σ Q) X.xe s
noncomputable def MtR(X:Cx)(id:String)(r:V->List V->Hp->VK->Prop):Prop:=∀(a:List (bd × Obj))(s:a_)(σ:St)(H:Hp)(x:V)(xs:List V)(v:aX)(b:List aX)(Q:VK),Inv X a σ H s->RelV x v->Vals xs b->r x xs H Q->cy (cS X.prog X.w) X.A (call (.builtin id) (v::b)) (EP X a σ Q) X.xe s
section
variable{X:Cx}{a b:dr}{ta tb:TE}{pos:Pos}
theorem O8{r:R2}(hr:IxR X r)(e:PE X a ta)(f:PE X b tb)(hs:vH b):PE X (.Subscript a b pos) (Sv r ta tb):=by intro c s σ H Q I h;exact Subscript_ (RV e f I h λv u s2 x y g i j k q=>hr a b c s2 σ g x y v u Q i j k q (hs _ _))
noncomputable def Z6(K:PySem.W.Frag):R2:=λx y H Q=>∃p xs i v,x=.ref p/\y=.int i/\eO K H p xs/\Jl xs i=some v/\Q v H
noncomputable def afm(K:PySem.W.Frag):R2:=λx y H Q=>∃p xs i v,x=.ref p/\y=.int i/\iM K H p xs/\Jl xs i=some v/\Q v H
theorem BL:IxR X (Z6 X.K):=by
 intro e slice c s σ H x y v u Q I m o h hs;obtain⟨p,xs,i,z,rfl,rfl,A,he,q⟩:=h;cases m;obtain⟨t,rfl⟩:=o;obtain⟨f,r,g,hz⟩:=I.list A;obtain⟨j,h1,B,M,C,E⟩:=vg he;obtain⟨w,l,G⟩:=r.get B;have J:=r.length;have N:=qx;have fin:EP X c σ Q w s:=⟨z,H,I,G,q⟩;by_cases h0:0<=i
 . have k:i.toNat=j:=by rw[mT h0 E]at h1;exact eF h1
   exact item_listR g.isList h0 (by omega) (by rw[k];simpa using l) fin hs
 . have k:(i+(f.toArray.size:Int)).toNat=j:=by rw[mi (by omega) C]at h1;rw[cx,<-J];exact eF h1
   exact o_ (x:=w) g.isList.typeIs slot_list_getitem.lookup (o3 (Q:=λr L=>r=w/\EP X c σ Q r L) g.isList (by omega) (by rw[cx]<;>omega) (by omega) (by rw[k];simpa using l) ⟨rfl,fin⟩) hs
theorem Uq:IxR X (afm X.K):=by intro e slice c s σ H x y v u Q I g k h hs;obtain⟨p,xs,i,z,rfl,rfl,l,he,q⟩:=h;cases g;obtain⟨t,rfl⟩:=k;obtain⟨m,r,f,hz⟩:=I.tuple l;obtain⟨j,h1,o,G,J,L⟩:=vg he;obtain⟨w,A,B⟩:=r.get o;have C:=r.length;have M:=qx;have fin:EP X c σ Q w s:=⟨z,H,I,B,q⟩;exact o_ (x:=w) f.typeIs slot_tuple_getitem.lookup (getItem_tuple (j:=j) (Q:=λr E=>r=w/\EP X c σ Q r E) f (by omega) (by omega) (by rw[cx,<-C];exact h1) (by simpa using A) ⟨rfl,fin⟩) hs
theorem zW(c:List aX)(n j:Nat)(u:aX):ga (·.setIfInBounds j u) {cls:=.type "list",data:=.seq c.toArray n}={cls:=.type "list",data:=.seq (c.set j u).toArray n}:=by simp[ga]
theorem Inv.lst{f:List (bd×Obj)}{σ:St}{H:Hp}{s:a_}{p:bd}{xs:List V}(I:Inv X f σ H s)(h:H p=some (.lst xs)):∃(c:List aX)(n:Nat),Vals xs c/\s.heap.get? p=some {cls:=.type "list",data:=.seq c.toArray n}/\xs.length<=sizeLine:=by obtain⟨z,c,n,r,e⟩:=I.hok p _ h;exact⟨c,n,r,e,z⟩
theorem Inv.Vh{c:List (bd×Obj)}{σ:St}{H:Hp}{s:a_}{p:bd}{xs ys:List V}{g its':List aX}{n i:Nat}{f:Obj->Obj}(I:Inv X c σ H s)(h:H p=some (.lst xs))(ho:s.heap.get? p=some {cls:=.type "list",data:=.seq g.toArray n})(j:f {cls:=.type "list",data:=.seq g.toArray n}={cls:=.type "list",data:=.seq its'.toArray i})(r:Vals ys its')(hz:ys.length<=sizeLine)(t:Nat):Inv X c σ (upd H p (.lst ys)) {s with heap:=s.heap.update p f,toks:=t}:=by
 have e:(s.heap.update p f).get? p=some {cls:=.type "list",data:=.seq its'.toArray i}:=by rw[iS f ho (by rw[j]<;>rfl),j]
 refine I.write (x:=p) (e:=p) (by rw[h];trivial) (.inl rfl) (λb u k q=>(hY _ _ (gu k)).trans q) ⟨_,e⟩ ?_;exact⟨hz,its',i,r,e⟩
noncomputable def ZM:V->V->V->Hp->(Hp->Prop)->Prop:=λo i v H Q=>∃p xs k j,o=.ref p/\i=.int k/\H p=some (.lst xs)/\jE xs.length k=some j/\Q (upd H p (.lst (xs.set j v)))
theorem set_list:TQ X ZM:=by
 intro c s σ H o i v C iv u Q I y z A h;obtain⟨p,xs,k,j,rfl,rfl,l,B,q⟩:=h;cases y;obtain⟨t,rfl⟩:=z;obtain⟨e,n,r,ho,hz⟩:=I.lst l;obtain⟨h1,E,m,w⟩:=Bm B;have f:=r.length;have G:=qx;have x:Inv X c σ (upd H p (.lst (xs.set j v))) {s with heap:=s.heap.update p (ga (·.setIfInBounds j u))}:=I.Vh l ho (zW e n j u) (r.set A j) (by rw[List.length_set];exact hz) s.toks;by_cases h0:0<=k
 . have g:k.toNat=j:=by rw[mT h0 w]at h1;exact eF h1
   exact PySem.W.ki_setAt ho h0 (by omega) (by rw[cx,<-f];exact w) (by rw[g];exact⟨_,x,q⟩)
 . have g:(k+(e.toArray.size:Int)).toNat=j:=by rw[mi (by omega) m]at h1;rw[cx,<-f];exact eF h1
   exact PySem.W.ki_setBack ho (by omega) (by rw[cx,<-f];exact m) (by omega) (by rw[g];exact⟨_,x,q⟩)
theorem uT(lo hi:Option Int)(n:Nat):(je lo hi none n).1=((HT.dO n 0 lo:Nat):Int)/\(je lo hi none n).2.1=((HT.dO n n hi:Nat):Int)/\(je lo hi none n).2.2=1:=by
 refine⟨?_,?_,rfl⟩;.cases lo with|none=>simp[je,HT.dO]|some i=>
     simp only[je,HT.dO,getD_none,show(1:Int)>0 by decide,if_true];by_cases h:i<0;.simp only[h,if_true]<;>omega
     .simp only[h,if_false]<;>omega
 .cases hi with|none=>simp[je,HT.dO]|some i=>
     simp only[je,HT.dO,getD_none,show(1:Int)>0 by decide,if_true];by_cases h:i<0;.simp only[h,if_true]<;>omega
     .simp only[h,if_false]<;>omega
theorem sW(c:List aX)(lo hi:Option Int):slicePick c.toArray lo hi none=((c.drop (HT.dO c.length 0 lo)).take (HT.dO c.length c.length hi-HT.dO c.length 0 lo)).toArray:=by obtain⟨h1,e,f⟩:=uT lo hi c.toArray.size;unfold slicePick;rw[h1,e,f];simp only[sliceRange_one,pick_run,cx]<;>rfl
noncomputable def aeJ(K:PySem.W.Frag):V->Option Int->Option Int->Hp->VK->Prop:=λx lo hi H Q=>∃a xs,x=.ref a/\eO K H a xs/\∀p,H p=none->Q (.ref p) (upd H p (.lst (xj xs lo hi)))
theorem NT:SlR X (aeJ X.K):=by intro e s σ H x v l m lo hi sl Q I f hs g i h;obtain⟨a,xs,rfl,j,q⟩:=h;cases f;obtain⟨k,r,ht,hz⟩:=I.list j;have c:=r.length;refine⟨"list",_,slot_list_getitem.lookup,ht.isList.typeIs,?_⟩;refine wpAny_getItem_list_slice ht.isList hs g i .none (by simp) ?_ (by rw[cx]<;>omega);rw[sW,<-c];refine⟨.ref s.heap.objs.size,_,I.laid (t':=s.toks) (o:=.lst (xj xs lo hi)) (λb p q=>dM q) (dw) ?_,rfl,q _ (I.hok.fresh (dw))⟩;exact⟨h_ (oU xs lo hi) hz,_,0,(r.drop (HT.dO xs.length 0 lo)).take (HT.dO xs.length xs.length hi-HT.dO xs.length 0 lo),cw _ rfl⟩
theorem uP:dN X (.builtin "len") (λxs H Q=>∃p ys,xs=[.ref p]/\(eO X.K H p ys\/iM X.K H p ys)/\Q (.int ys.length) H):=by
 intro i s σ H xs k Q I r h;obtain⟨p,ys,rfl,hq,q⟩:=h;obtain⟨u,rfl,j⟩:=vals1 r;cases j;have l:=qx;rcases hq with hq|hq;.obtain⟨e,f,g,hz⟩:=I.list hq;have c:=f.length;exact Calls.call_len_list g.isList (by simp only[cx]<;>omega) ⟨.int ys.length,H,I.tok _,⟨s.toks+1,by rw[cx,c]⟩,q⟩
 .obtain⟨e,f,g,hz⟩:=I.tuple hq;have c:=f.length;exact len_tuple g (by simp only[cx]<;>omega) ⟨.int ys.length,H,I.tok _,⟨s.toks+1,by rw[cx,c]⟩,q⟩
theorem vB:dN X (.type "list") (λxs H Q=>∃p ys,xs=[.ref p]/\(eO X.K H p ys\/iM X.K H p ys)/\∀l,H l=none->Q (.ref l) (upd H l (.lst ys))):=by
 intro i s σ H xs v Q I r h;obtain⟨p,ys,rfl,hq,q⟩:=h;obtain⟨u,rfl,t⟩:=vals1 r;cases t;have fin:∀(c:List aX),Vals ys c->ys.length<=sizeLine->∀(h':eA)(f:Nat),(∀b m,s.heap.get? b=some m->h'.get? b=some m)->h'.get? s.heap.objs.size=some {cls:=.type "list",dict:=none,data:=.seq c.toArray f,slots:=#[]}->EP X i σ Q (.ref s.heap.objs.size) {s with heap:=h'}:=λc g hz h' f kp e=>⟨.ref s.heap.objs.size,_,I.laid (t':=s.toks) kp (dw) (show bJ X.prog X.w _ h' _ (.lst ys)from⟨hz,c,f,g,e⟩),rfl,q _ (I.hok.fresh (dw))⟩;rcases hq with hq|hq;.obtain⟨c,g,k,hz⟩:=I.list hq;have j:=g.length;obtain⟨o,ho,hc,n,hd⟩:=k.isList;exact call_list_seq p (.inl rfl) ho hc hd (λh' f kp e=>fin c g hz h' f kp e) (by simp only[cx]<;>omega)
 .obtain⟨c,g,k,hz⟩:=I.tuple hq;have j:=g.length;obtain⟨o,ho,hc,n,hd⟩:=k;exact call_list_seq p (.inr rfl) ho hc hd (λh' f kp e=>fin c g hz h' f kp e) (by simp only[cx]<;>omega)
theorem lr:dN X (.type "tuple") (λxs H Q=>∃p ys,xs=[.ref p]/\((eO X.K H p ys/\∀l,H l=none->Q (.ref l) (upd H l (.tup ys)))\/(iM X.K H p ys/\Q (.ref p) H))):=by
 intro c s σ H xs x Q I r h;obtain⟨p,ys,rfl,h⟩:=h;obtain⟨u,rfl,t⟩:=vals1 r;cases t;rcases h with⟨g,q⟩|⟨g,q⟩;.obtain⟨f,i,j,hz⟩:=I.list g;have k:=i.length;refine call_tuple_list j.isList (λh' kp=>?_) (by simp only[cx]<;>omega);have m:Inv X c σ H {s with heap:=h'}:=I.kept (t':=s.toks) kp;have v:Inv X c σ (upd H h'.objs.size (.tup ys)) {s with heap:=h'.push {cls:=.type "tuple",data:=.seq f.toArray}}:=m.laid (t':=s.toks) (λb o e=>dM e) (dw) (show bJ X.prog X.w _ _ _ (.tup ys)from⟨hz,f,i,kG _ _⟩);exact⟨.ref h'.objs.size,_,v,rfl,q _ (m.hok.fresh (dw))⟩
 .obtain⟨f,i,j,hz⟩:=I.tuple g;exact call_tuple_same j ⟨.ref p,H,I,rfl,q⟩
noncomputable def tyV(K:PySem.W.Frag)(T:String)(x:V)(H:Hp):Prop:=match x with|.str _=>T="str"|.int _=>T="int"|.ref p=>(T="list"/\∃xs,eO K H p xs)\/(T="tuple"/\∃o,K.lookup p=some o/\o.cls=.type "tuple"/\o.dict=none)\/(T="dict"/\((∃kvs,H p=some (.dK kvs))\/∃kvs,H p=some (.dT kvs)))\/(T="set"/\∃S n,H p=some (.set S n))|_=>False
theorem Vd{g:List (bd×Obj)}{σ:St}{H:Hp}{s:a_}{T:String}{x:V}{v:aX}(I:Inv X g σ H s)(r:RelV x v)(ty:tyV X.K T x H):
 s.TypeIs v T/\∀a,v=.ref a->∃j,s.heap.get? a=some j/\j.dict=none:=by cases x with|str z=>obtain⟨t,rfl⟩:=r;cases(show T="str"from ty);exact⟨typeIs_str s z t,λ_ e=>nomatch e⟩|int i=>obtain⟨t,rfl⟩:=r;cases(show T="int"from ty);exact⟨l7 s i t,λ_ e=>nomatch e⟩|ref p=>
   cases r;rcases ty with⟨rfl,xs,l⟩|⟨rfl,o,f,hc,hd⟩|⟨rfl,f⟩|⟨rfl,S,n,f⟩;.obtain⟨m,_,k,_⟩:=I.list l;refine⟨k.isList.typeIs,λa e=>?_⟩;cases e;obtain⟨o,n,e,c,hd,_⟩:=k;exact⟨o,e,hd⟩
   .refine⟨⟨o,I.Qe p o f,hc⟩,λa e=>?_⟩;cases e;exact⟨o,I.Qe _ o f,hd⟩
   . have z:∃o,s.heap.get? p=some o/\o.ExactDict:=by
      rcases f with⟨kvs,f⟩|⟨kvs,f⟩;.obtain⟨_,_,_,_,o,_,_,e,ex,_⟩:=I.hok p _ f;exact⟨o,e,ex⟩
      .obtain⟨_,_,_,_,o,_,_,e,ex,_⟩:=I.hok p _ f;exact⟨o,e,ex⟩
     obtain⟨o,e,ex⟩:=z;refine⟨⟨o,e,ex.1⟩,λa h=>?_⟩;cases h;exact⟨o,e,ex.2.1⟩
   .obtain⟨o,_,_,_,e,ex,_⟩:=I.hok p _ f;refine⟨⟨o,e,ex.1⟩,λa h=>?_⟩;cases h;exact⟨o,e,ex.2.1⟩|_=>exact fg ty
noncomputable def tBM(K:PySem.W.Frag)(T:String)(r:V->List V->Hp->VK->Prop)(to:TE)(t:TA):TE:=λσ H Q=>to σ H λx c=>tyV K T x c/\t σ c λxs e=>r x xs e Q
variable{o e:dr}{es:List dr}{to:TE}{t:TA}{name:Str}{apos cpos:Pos}{T id:String}{r:V->List V->Hp->VK->Prop}
theorem J5(m:PlainAttrs T)(slot:Slot T name id)(k:typeOf (.builtin id)=eT (.type "method_descriptor"))(p:MtR X id r)(ho:PE X o to)(q:PA X (e::es) t)(g:ix o name X.env (eu o X.env)=eu o X.env:=by rfl)(j:((iF cpos (cv (e::es) X.env)).all (λx=>!x.1)&&(nI cpos (k9 [] X.env)).all (λx=>x.1.isSome)&&decide ((e::es).length+([]:List kn).length+(if([]:List kn).isEmpty then 0 else 1)<30))=true:=by rfl)(i:(apos.endLine==cpos.line)=true:=by rfl)(hs:cv (e::es) X.env=(false,eu e X.env)::cv es X.env:=by rfl)(f:(iF cpos (cv es X.env)).any (·.1)=false:=by rfl):PE X (.Call (.Attribute o name apos) (e::es) [] cpos) (tBM X.K T r to t):=by intro c s σ H Q I h;refine wpAny_Call_method_late g j i rfl (bY (ho c s σ H _ I h) λv s1⟨x,H1,I1,r1,ty,q1⟩=>?_);obtain⟨h1,u⟩:=Vd I1 r1 ty;refine⟨T,id,m,slot,k,h1,u,?_⟩;have l:=q cpos c s1 σ H1 _ I1 q1;rw[hs]at l ⊢;refine kg (by show(false||(iF cpos (cv es X.env)).any (·.1))=false;rw[f]<;>rfl) (oe ?_);exact bY l λw s2⟨vs,H2,I2,r2,q2⟩=>p c s2 σ H2 x vs v w Q I2 r1 r2 q2
end
noncomputable def MtM(X:Cx)(id:String)(r:V->List V->Hp->VK->Prop):Prop:=∀(a:List (bd × Obj))(s:a_)(σ:St)(H:Hp)(x:V)(xs:List V)(v:aX)(b:List aX)(Q:VK),Inv X a σ H s->RelV x v->Vals xs b->r x xs H Q->cy (cS X.prog X.w) X.A (call (.builtin id) (v::b)) (EP X a σ Q) X.xe s
theorem Vals.one:∀{x:V}{a:List aX},Vals [x] a->∃u,a=[u]/\RelV x u|x,a,h=>by cases h with|cons r t=>cases t;exact⟨_,rfl,r⟩
theorem Vals.two:∀{x y:V}{a:List aX},Vals [x,y] a->∃u v,a=[u,v]/\RelV x u/\RelV y v|x,y,a,h=>by cases h with|cons r t=>cases t with|cons q z=>cases z;exact⟨_,_,rfl,r,q⟩
theorem Vals.zero:∀{a:List aX},Vals [] a->a=[]|_,.nil=>rfl
theorem Vals.reverse{xs:List V}{a:List aX}(h:Vals xs a):Vals xs.reverse a.reverse:=by induction h with|nil=>exact .nil|cons r t b=>rw[ml,ml];exact Vals.append b (.cons r .nil)
theorem Vals.rep{xs:List V}{a:List aX}(h:Vals xs a):∀k:Nat,Vals (b_ k xs).flatten (b_ k a).flatten|0=>.nil|k+1=>by rw[gS,gS,ms,ms];exact Vals.append h (Vals.rep h k)
theorem foldl_rep(a:List aX):∀(k:Nat)(b:List aX),qk (λc f=>c++f) b.toArray (b_ k a.toArray)=(b++(b_ k a).flatten).toArray
 |0,b=>by simp|k+1,b=>by
   have e:b.toArray++a.toArray=(b++a).toArray:=by simp
   have g:(b++a)++(b_ k a).flatten=b++(b_ (k+1) a).flatten:=by rw[gS,ms,fb]
   rw[<-g,<-foldl_rep a k (b++a),<-e,gS,nE]
section
variable{X:Cx}{pins:List (bd×Obj)}{σ:St}{H:Hp}{s:a_}{l b:bd}{xs ys zs:List V}
theorem Inv.ZW{a its':List aX}{f:Array aX->Array aX}{t':Nat}(I:Inv X pins σ H s)(c:H l=some (.lst xs))(e:s.heap.get? l=some {cls:=.type "list",data:=.seq a.toArray n})(g:f a.toArray=its'.toArray)(h:Vals ys its')(hz:ys.length<=sizeLine):Inv X pins σ (upd H l (.lst ys)) {s with heap:=s.heap.update l (ga f),toks:=t'}:=by have q:=PySem.IsL.update e f;rw[g]at q;refine I.write (x:=l) (e:=l) (by rw[c];exact trivial) (.inl rfl) (λk u i j=>(hY s.heap (ga f) (gu i)).trans j) ⟨_,q⟩ ?_;exact⟨hz,its',_,h,q⟩
theorem Inv.Rx{a:List aX}{t':Nat}(I:Inv X pins σ H s)(c:Vals ys a)(hz:ys.length<=sizeLine):Inv X pins σ (upd H s.heap.objs.size (.lst ys)) {s with heap:=s.heap.push {cls:=.type "list",data:=.seq a.toArray},toks:=t'}:=I.laid (λ_ _ q=>dM q) (dw) ⟨hz,a,0,c,cw _ rfl⟩
theorem Inv.fresh(I:Inv X pins σ H s):H s.heap.objs.size=none:=I.hok.fresh (dw)
theorem Inv.Su(I:Inv X pins σ H s)(c:H l=some (.lst xs)):xs.length<=sizeLine/\∃(a:List aX)(n:Nat),Vals xs a/\xs.length=a.length/\s.heap.get? l=some {cls:=.type "list",data:=.seq a.toArray n}:=by obtain⟨z,a,n,r,e⟩:=I.hok l _ c;exact⟨z,a,n,r,r.length,e⟩
theorem wy(h:n<=sizeLine):m2 n=false:=by unfold m2;exact decide_eq_false (by omega)
end
section
variable{X:Cx}
noncomputable def N8:V->List V->Hp->VK->Prop:=λx vs H Q=>∃l xs y,x=.ref l/\vs=[y]/\H l=some (.lst xs)/\xs.length<sizeLine/\Q .non (upd H l (.lst (xs++[y])))
theorem nJ:MtM X "list.append" N8:=by intro b s σ H x vs v j Q I f g h;obtain⟨l,xs,y,rfl,rfl,c,hz,q⟩:=h;cases f;obtain⟨u,rfl,i⟩:=g.one;obtain⟨z,a,n,r,k,e⟩:=I.Su c;refine kP F.slot_list_append ⟨_,e,rfl⟩ F.entry_list_append (F.args_list_append_2 _ _) (PySem.list_append l a.toArray n u (by rw[cx];omega)) ⟨e,?_⟩;refine⟨.non,_,I.ZW (its':=a++[u]) c e (by simp) (r.append (.cons i .nil)) ?_,rfl,q⟩;rw[dZ,n3];omega
noncomputable def Lz:V->List V->Hp->VK->Prop:=λx vs H Q=>∃l b xs a,x=.ref l/\vs=[.ref b]/\H l=some (.lst xs)/\H b=some (.lst a)/\xs.length+a.length<=sizeLine/\Q .non (upd H l (.lst (xs++a)))
theorem Em:MtM X "list.extend" Lz:=by
 intro g s σ H x vs v A Q I j k h;obtain⟨l,b,xs,B,rfl,rfl,i,m,hz,q⟩:=h;cases j;obtain⟨u,rfl,o⟩:=k.one;cases o;obtain⟨z,c,n,r,C,e⟩:=I.Su i;obtain⟨E,a,p,t,w,y⟩:=I.Su m;have hsz:c.toArray.size+a.toArray.size<=sizeLine:=by rw[cx,cx];omega
 have f:¬(!c.toArray.isEmpty&&m2 (c.toArray.size+a.toArray.size))=true:=by rw[wy hsz,kK];exact dQ
 refine kP F.slot_list_extend ⟨_,e,rfl⟩ F.entry_list_extend (F.args_list_extend_2 _ _) (AutoSeq1.list_extend_list_list_0 l c.toArray n b a.toArray p f (by rw[cx];omega) (by omega)) ⟨e,y,?_⟩;refine⟨.non,_,I.ZW (its':=c++a) i e (by simp) (r.append t) ?_,rfl,q⟩;rw[dZ];omega
theorem len_rep{a:Type}(xs:List a)(k:Nat):(b_ k xs).flatten.length=k*xs.length:=by induction k with|zero=>simp|succ k b=>rw[gS,ms,dZ,b,Nat.succ_mul,Nat.add_comm]
end
end L2
namespace Att
open PySem PySem.W PySem.Calls PyProof.Rows
theorem pB{P:Params}{h:eA}:∀(ns:List Int)(vs:List aX),WellAll P h vs (ns.map WData.int)->gI vs ns:=by intro ns;induction ns with|nil=>intro vs w;rw[lm]at w;cases w;exact .nil|cons n ns c=>intro vs w;rw[c_]at w;cases w with|cons a b=>cases a;exact .cons _ _ (c _ b)
theorem FT{l:OpenLaw}{n:Nat}(m:l.most=some n){P:Params}{h:eA}{args:List WData}{b:List aX}(c:l.row.toRowW.claim.pre args=true)(j:WellAll P h b args):∃a vs ns,b=[dY a]/\args=[WData.list (ns.map WData.int)]/\h.get? a=some {cls:=.type "list",data:=.seq vs.toArray}/\gI vs ns/\ns.length<=n:=by
 have k:WShape.hasAll [] args [.list .int]=true:=(pre_splitW c).1;have hc:l.pre.holds [] {args:=args}=true:=(pre_splitW c).2;obtain⟨d,r,rfl,h1,o⟩:=hasAllW_cons k;obtain rfl:=hasAllW_nil o;obtain⟨xs,rfl,p⟩:=hasW_list h1;obtain⟨ns,rfl⟩:=items_int p;have e:ns.length<=n:=by
  unfold OpenLaw.pre at hc;have g:(WTm.not (.lt (.lit (.int (n:Int))) (.len (.arg 0)))).holds [] {args:=[.list (ns.map .int)]}=true:=by have g:=(holds_andW hc).1;rw[m]at g;exact g
  have i:=condW_of g (w_not (w_lt w_lit (w_len_list (w_arg rfl))));rw[dy]at i;refine ma λq=>?_;have s:(n:Int)<((ns.length:Nat):Int):=by omega
  first|(rw[decide_eq_true s]at i;exact absurd i (by decide))|(simp at i;omega)
 cases j with|cons t u=>cases u;cases t with|list ho f=>exact⟨_,_,ns,rfl,rfl,ho,pB ns _ f,e⟩
theorem Eh(l:OpenLaw)(args:List WData):l.row.toRowW.claim.post args (.bool true) args=true:=postW_of (r:=l.row.toRowW) (X:=(true==true)) (show WShape.has [] (.bool true) .bool=true by first|rfl|decide|simp[WShape.has,WShape.arms,WShape.armsAll]) (show(WTm.eq .res (.lit (.bool true))).value [] {args:=args,res:=some (.bool true),after:=args}=some (.bool (true==true))from w_eq_bool (w_res rfl) w_lit) rfl
theorem yh{l:OpenLaw}{n:Nat}{q:df}{c:List Str}{z:(Str->Option aX)->eA->Prop}{A:ek->eA->Prop}{d:DefRec}(H:l.most=some n)(s:d.params.defaults=[])(call:∀(w:ek)(s₀ b:a_)(mg t:Str->Option aX)(h:bd)(o:Obj)(u m e:aX)(a:bd)(vs:List aX)(ns:List Int),Ground q c [] z w s₀ mg t b.heap->A w b.heap->b.heap.get? h=some o->o.data=.func (docDef d.name d.params d.body d.scope u m e)->b.heap.CodeRec m d.name->mg d.name=some (.ref h)->b.heap.get? a=some {cls:=.type "list",data:=.seq vs.toArray}->gI vs ns->ns.length<=n->b.gens=#[]->kN (cS l.prog w) ln (.call (.ref h) ⟨[.ref a],[]⟩) (λr p=>r=.ok (.ret (.bool true))/\OldK b.heap p.heap/\p.os=b.os/\lx p.gens) b):WalkO q c z A l.row.toRowW d [] (λf vs=>PySem.call f vs):=by intro w s₀ b mg t G Y h o u m e I kV ho hd v B x J args C as i E L y M;obtain rfl:I=.none:=Dflts.none B s;obtain rfl:kV=.none:=Dflts.noKw B;obtain⟨a,vs,ns,rfl,rfl,j,g,k⟩:=FT H i y;refine enter_call (pz (call w s₀ b mg t h o u m e a vs ns G Y ho (fd_plain hd) v x j g k J) λr p N=>?_);obtain⟨rfl,O,Q,U⟩:=N;exact⟨.inl ⟨.bool true,.bool true,[],rfl,λ_=>rfl,.bool true,Eh l _,λ_=>⟨List.Pairwise.nil,λ_ W=>(nomatch W)⟩⟩,O,Q,U⟩
end Att
namespace L2
open PySem PySem.Spec PyProof.Rows
theorem tW:∀{vs:List aX}{ns:List Int},gI vs ns->Vals (ns.map V.int) vs|_,_,.nil=>.nil|_,_,.cons n t h=>.cons ⟨t,rfl⟩ (tW h)
noncomputable def Only(H:Hp):Prop:=∀b,H b=none\/∃o xs,H b=some (.dz o (.lst xs))
theorem Hs{P:df}{w:ek}{K:PySem.W.Frag}{mg G:Str->Option aX}{CX:Jq}{k:Nat}{I a:bd}{fd:hJ}{x:Str}{sp:Sp}{c:a_}{vs:List aX}{ns:List Int}(O:K.In c.heap)(p:c.heap.Ns dc mg)(f:c.heap.Ns builtinsNs G)(J:∀x:Str,x≠"__name__"->G x=ey x)(t:c.heap.NoLimit)(hg:c.gens=#[])(E:c.heap.get? a=some {cls:=.type "list",data:=.seq vs.toArray})(hi:gI vs ns)(Q:ns.length<=sizeLine)(hr:jJ k ln)(F:∀base:eA,K.In base->base.Ns dc mg->ou P w K mg base CX k I fd [x] sp)(l:∀(s:a_)(u:aX),nl s fd ⟨[u],[]⟩ [(x,u)])(hsp:∀H:Hp,Only H->eO K H a (ns.map V.int)->sp [.ref a] H (λv _=>v=.bl true) λ_ _ _=>False)(L:∀H e g,CX [] H c (λ_ _ _=>False) e g->False):kN (cS P w) ln (.call (.ref I) ⟨[.ref a],[]⟩) (λr g=>r=.ok (.ret (.bool true))/\OldK c.heap g.heap/\g.os=c.os/\lx g.gens) c:=by
 have U:=tW hi;have y:=hi.length--from an abstract heap in which nothing but the script may be tracked
 have j:∀H:Hp,Only H->eO K H a (ns.map V.int)->ni P w H c.heap->(∀b,H b≠none->b=a)->(H a≠none->K.lookup a=none)->kN (cS P w) ln (.call (.ref I) ⟨[.ref a],[]⟩) (λr g=>r=.ok (.ret (.bool true))/\OldK c.heap g.heap/\g.os=c.os/\lx g.gens) c:=by
  intro H X hS hok Y hK;have Z:∀{b:bd}{o:Obj},c.heap.get? b=some o->H b=none->(vP c.heap H).get? b=some o:=λe n=>Gy e n;have M:∀{b:bd}{o:Obj}{es:Array DictEntry}{ep:Nat},c.heap.get? b=some o->o.data=.dict es ep->H b=none:=λ{b o es ep}e d=>by cases q:H b with|none=>rfl|some u=>have N:b=a:=Y b (by rw[q];simp);subst N;rw[E]at e;cases e;have d':Data.seq vs.toArray _=Data.dict es ep:=d;cases d'
  have i:∀{b:bd}{m:Str->Option aX},c.heap.Ns b m->(vP c.heap H).Ns b m:=λ{b m}⟨o,es,ep,e,d,r⟩=>⟨o,es,ep,Z e (M e d),d,r⟩;have A:K.In (vP c.heap H):=λb o e=>Z (O b o e) (by cases q:H b with|none=>rfl|some u=>have N:b=a:=Y b (by rw[q];simp);subst N;rw[hK (by rw[q];simp)]at e;cases e);have hM:Mod K mg (vP c.heap H):=⟨A,i p,⟨G,i f,J⟩,let⟨mc,h1,h2⟩:=t;⟨mc,i h1,h2⟩⟩;have e0:Oj P w K mg (vP c.heap H) ln [] c H:=⟨rfl,hM,λb o e=>Lf e,Nat.le_of_eq (Fo _ _),trivial,λb f=>absurd (show b∈([]:List bd)from f) (by simp),hok,.of_eq hg⟩;refine pz ((F _ A (i p)).run ln [] c H ⟨[.ref a],[]⟩ [.ref a] [.ref a] _ _ hr e0 (l c (.ref a)) (.cons rfl .nil) (hsp H X hS)) λr g h=>?_;cases r with|error e=>exact(L H e g h).elim|ok fl=>cases fl with|next=>exact fg h|brk=>exact fg h|cont=>exact fg h|ret u=>obtain⟨v,H',os,bare,un,B,r',q⟩:=h;have q':v=.bl true:=q;subst q';obtain rfl:u=jh true:=r';refine⟨rfl,OldK.of_keep λb o e=>?_,os,bare⟩;cases q:H b with|none=>exact un.keep b o e q (by intro z;exact absurd (show b∈([]:List bd)from z) (by simp)) (by simp)|some u=>
        rcases X b with z|⟨ob,xs,z⟩;.rw[q]at z;cases z
        .have z2:=un.vX b ob _ z;obtain⟨e1,_⟩:=hok b _ z;obtain⟨e2,_⟩:=B b _ z2;rw[e]at e1;cases e1;exact e2
 cases hk:K.lookup a with|some o=>--the script is one of the module's own objects
   have e:=O a o hk;rw[E]at e;cases e;refine j (λ_=>none) (λ_=>.inl rfl) (.inr ⟨_,vs.toArray,_,hk,rfl,rfl,rfl,by rw[cx,y];exact Q,by simpa using U⟩) (λb u z=>by have C:(none:Option HO)=some u:=z;cases C) (λb z=>absurd rfl z) λz=>absurd rfl z|none=>
   refine j (λb=>if b=a then some (.dz {cls:=.type "list",data:=.seq vs.toArray} (.lst (ns.map V.int)))else none) (λb=>?_) (.inl (.inr ⟨{cls:=.type "list",data:=.seq vs.toArray},if_pos rfl⟩)) (λb u z=>?_) (λb z=>?_) λ_=>hk
   . by_cases f:b=a;.exact .inr ⟨_,_,if_pos f⟩
     .exact .inl (if_neg f)
   . by_cases f:b=a;.have C:=(if_pos f).symm.trans z;cases C;subst f;exact⟨E,by rw[dy];exact Q,vs,_,U,E⟩
     .have C:=(if_neg f).symm.trans z;cases C
   . by_cases f:b=a;.exact f
     .exact absurd (if_neg f) z
theorem K5{l:PySem.W.OpenLaw}{n k:Nat}{q:df}{i:List Str}{I:(Str->Option aX)->eA->Prop}{C:ek->eA->Prop}{d:DefRec}{K:Params->PySem.W.Frag}{CX:ek->Jq}{sp:ek->Sp}{x:Str}(J:l.most=some n)(t:n<=sizeLine)(y:d.params.defaults=[])(hr:jJ k ln)(L:∀(w:ek)(h:eA),C w h->(K w.params).In h)(F:∀(w:ek)(mg:Str->Option aX)(r:bd)(h:eA),(K w.params).In h->h.Ns dc mg->mg d.name=some (.ref r)->∃ fd:hJ,(∀(s:a_)(u:aX),nl s fd ⟨[u],[]⟩ [(x,u)])/\∀base:eA,(K w.params).In base->base.Ns dc mg->ou l.prog w (K w.params) mg base (CX w) k r fd [x] (sp w))(hsp:∀(w:ek)(H:Hp)(a:bd)(ns:List Int),ns.length<=n->Only H->eO (K w.params) H a (ns.map V.int)->sp w [.ref a] H (λv _=>v=.bl true) λ_ _ _=>False)(z:∀(w:ek)(H:Hp)(s:a_)(e:aX)(A:a_),CX w [] H s (λ_ _ _=>False) e A->False):PySem.W.WalkO q i I C l.row.toRowW d [] (λf vs=>PySem.call f vs):=by refine Att.yh J y λw s₀ m mg mb r o pm cd M a vs ns G Y ho hd N B p j c O=>?_;have E:=L w _ Y;obtain⟨fd,Q,U⟩:=F w mg r _ E G.T.g B;exact Hs E G.T.g G.T.b G.T.builtins G.T.nolimit O p j (h_ c t) hr U Q (λH X Z=>hsp w H a ns c X Z) λH e A=>z w H m e A
theorem Hd{l:PySem.W.OpenLaw}{n k:Nat}{q:df}{b:List Str}{p:(Str->Option aX)->eA->Prop}{m:ek->eA->Prop}{d:DefRec}{K:Params->PySem.W.Frag}{CX:Jq}{sp:PySem.W.Frag->Sp}{x:Str}(r:l.most=some n)(c:n<=sizeLine)(g:d.params.defaults=[])(hr:jJ k ln)(t:∀(w:ek)(h:eA),m w h->(K w.params).In h)(F:∀(w:ek)(mg:Str->Option aX)(o:bd)(h:eA),(K w.params).In h->h.Ns dc mg->mg d.name=some (.ref o)->∃ fd:hJ,(∀(s:a_)(u:aX),nl s fd ⟨[u],[]⟩ [(x,u)])/\∀base:eA,(K w.params).In base->base.Ns dc mg->ou l.prog w (K w.params) mg base CX k o fd [x] (sp (K w.params)))(hsp:∀(K:PySem.W.Frag)(H:Hp)(a:bd)(ns:List Int),ns.length<=n->Only H->eO K H a (ns.map V.int)->sp K [.ref a] H (λv _=>v=.bl true) λ_ _ _=>False)(i:∀(H:Hp)(s:a_)(e:aX)(j:a_),CX [] H s (λ_ _ _=>False) e j->False):PySem.W.WalkO q b p m l.row.toRowW d [] (λf vs=>PySem.call f vs):=K5 (K:=K) (CX:=λ_=>CX) (sp:=λw=>sp (K w.params)) r c g hr t F (λw H a ns h1 y z=>hsp (K w.params) H a ns h1 y z) λ_ H s e j=>i H s e j
end L2
namespace L2
open PySem PySem.Spec PyProof.Rows
noncomputable def iW(s:eJ):Arguments:=match s with|.FunctionDef _ a _ _ _ _ _ _ _ _=>a|_=>{posonlyargs:=[],args:=[],vararg:=none,kwonlyargs:=[],kw_defaults:=[],kwarg:=none,defaults:=[]}
noncomputable def fY(s:eJ):List eJ:=match s with|.FunctionDef _ _ b _ _ _ _ _ _ _=>b|_=>[]
noncomputable def az(s:eJ):jp:=match s with|.FunctionDef _ _ _ _ _ _ a _ _ _=>a|_=>{kind:=.function,names:=[],isGenerator:=false,isCoroutine:=false}
noncomputable abbrev Gs:Jq:=λ_ _ _ _ _ _=>False
noncomputable abbrev E0:XK:=λ_ _ _=>False
theorem Zr{X:Cx}:Passes Gs X E0:=λ_ _ _ _ _ _ _ h=>h.elim
structure gb(K:PySem.W.Frag)(x qual:Str)(st:eJ)(f:bd)(fd:hJ):Prop where
 ex:∃(oc:aX)(od:Option bd)(kV doc pm:aX)(an:Option bd)(cdv ct:aX)(osl:Array (Option aX)),fd=PySem.W.fnOf x qual (iW st) (fY st) (az st) .none kV doc pm an cdv ct/\K.lookup f=some ⟨oc,od,.func fd,osl⟩/\PySem.W.codeIn K cdv qual=true
 kp:keepIn K (.ref f)=true
section
variable{P:df}{w:ek}{K:PySem.W.Frag}{mg:Str->Option aX}{base:eA}
theorem gb.ok{x qual:Str}{st:eJ}{f:bd}{fd:hJ}{N ps:List Str}{k:Nat}{sp:Sp}(F:gb K x qual st f fd)(S:aK N ps (az st))(len:∀vs H Q E,sp vs H Q E->vs.length=ps.length)(a:∀(cdv:aX)(A:ez)(outer:List Env)(s:a_)(H:Hp)(vs:List V)(Q:VK)(E:XK),jJ k (A.deeper (lb qual (az st) s.heap.objs.size f cdv))->sp vs H Q E->∃t,wj (zE Gs P w K mg base N qual (az st) f cdv A outer s H E).ZV (fY st) t/\t {nx:=λ_ c=>Q .non c,rt:=Q} (start N vs) H):ou P w K mg base Gs (k+1) f fd ps sp:=by obtain⟨oc,i,kV,e,j,l,cdv,ct,g,rfl,lk,b⟩:=F.ex;refine Z8 lk b S len λA outer s H vs Q E hr hsp=>?_;obtain⟨t,h,q⟩:=a cdv A outer s H vs Q E hr hsp;exact⟨t,h.ZV,q⟩
theorem gb.binds{x qual:Str}{st:eJ}{f:bd}{fd:hJ}{ps:List Str}(F:gb K x qual st f fd)(h:∀(kV a b:aX)(c:Option bd)(cdv ct:aX)(e:List aX),e.length=ps.length->qr (PySem.W.fnOf x qual (iW st) (fY st) (az st) .none kV a b c cdv ct) ⟨e,[]⟩=eT (ps.zip e)):Binds K fd ps []:=by obtain⟨oc,j,kV,a,b,c,cdv,ct,g,rfl,lk,i⟩:=F.ex;exact .all (h kV a b c cdv ct)
theorem Tg{x qual:Str}{st:eJ}{f:bd}{oc:aX}{h e:Option bd}{b:Array (Option aX)}{kV a g cdv ct:aX}(l:K.lookup f=some ⟨oc,h,.func (PySem.W.fnOf x qual (iW st) (fY st) (az st) .none kV a g e cdv ct),b⟩)(c:PySem.W.codeIn K cdv qual=true)(k:keepIn K (.ref f)=true):gb K x qual st f (PySem.W.fnOf x qual (iW st) (fY st) (az st) .none kV a g e cdv ct):=⟨⟨oc,h,kV,a,g,e,cdv,ct,b,rfl,l,c⟩,k⟩
end
noncomputable def aG(H a:Hp):Prop:=∀b o,H b=some o->a b=some o
theorem aG.refl(H:Hp):aG H H:=λ_ _ h=>h
theorem aG.trans{H e f:Hp}(a:aG H e)(b:aG e f):aG H f:=λc o h=>b c o (a c o h)
theorem aG.seq{K:PySem.W.Frag}{H b:Hp}{a:bd}{xs:List V}(e:aG H b)(h:eO K H a xs):eO K b a xs:=by
 rcases h with(h|⟨o,h⟩)|h;.exact .inl (.inl (e _ _ h))
 .exact .inl (.inr ⟨o,e _ _ h⟩)
 .exact .inr h
end L2
end
section
namespace HH
open PySem
inductive Dc where|k(kvs:List (Int×Int))|t(kvs:List (List Int×Int))deriving DecidableEq
set_option genInjectivity true in inductive D where|non|bl(b:Bool)|int(i:Int)|str(s:Str)|tup(ds:List D)|lst(ds:List D)|eG(m:Dc)|dv(ks:List Int)(ds:List D)deriving Inhabited
mutual
noncomputable def lF:D->D->Bool|.non,.non=>true|.bl a,.bl b=>a==b|.bl a,.int i=>(if a then(1:Int)else 0)==i|.int i,.bl a=>i==(if a then(1:Int)else 0)|.int i,.int j=>i==j|.str a,.str b=>a==b|.tup xs,.tup ys=>gM xs ys|.lst xs,.lst ys=>gM xs ys|.eG a,.eG b=>decide (a=b)|.dv a xs,.dv b ys=>decide (a=b)&&gM xs ys|_,_=>false
noncomputable def gM:List D->List D->Bool|[],[]=>true|x::xs,y::ys=>lF x y&&gM xs ys|_,_=>false
end
theorem pqi{i j}:lF (.int i) (.int j)=(i==j):=(rfl)
theorem pqt{x y}:lF (.tup x) (.tup y)=gM x y:=(rfl)
theorem pql{x y}:lF (.lst x) (.lst y)=gM x y:=(rfl)
noncomputable def eZ:Nat->D->Bool|_,.non=>true|_,.bl _=>true|_,.int _=>true|_,.str _=>true|0,.tup _=>false|0,.lst _=>false|_,.eG _=>false|_,.dv _ _=>false|n+1,.tup a=>a.all (eZ n)|n+1,.lst a=>a.all (eZ n)
set_option genInjectivity true in inductive Sl where|aQ|val(b:Bool)(d:D)|own(b:Bool)(ds:List D)|lent(ds:List D)|gO(m:Dc)|hold(rows:List (List D))|cQ(kvs:List (Int×D))deriving Inhabited
inductive R where|val(d:D)|own(ds:List D)deriving Inhabited
noncomputable def R.d:R->D|.val d=>d|.own a=>.lst a
inductive Res(α:Type)where|ok(a:α)(ρ:List Sl)|exc(k:Nat)(ρ:List Sl)|stuck deriving Inhabited
noncomputable def Res.bind{b c:Type}(f:b->List Sl->Res c):Res b->Res c|.ok a ρ=>f a ρ|.exc _ _=>.stuck|.stuck=>.stuck
noncomputable def lift{b:Type}(o:Option b)(ρ:List Sl):Res b:=match o with|some a=>.ok a ρ|none=>.stuck
inductive Op where|add|sub|mul|fdiv|mod|pow|shl|shr|band|Am|din|afM deriving DecidableEq
inductive Cm where|eq|ne|lt|le|gt|ge|isN|OJ|inn|aaj|isT|aak|leT deriving DecidableEq
inductive Ty where|int|bool|str|tuple|list|none deriving DecidableEq
inductive Zu where|len|list|tuple|min2|max2|Gg|sum|all|abs|int|keys|Xo|rvT|Ke deriving DecidableEq
inductive P where|var(i:Nat)|con(d:D)|glob(x:Str)(d:D)|bin(o:Op)(a b:P)|neg(a:P)|not(a:P)|and(a b:P)|or(a b:P)|cmp(o:Cm)(a b:P)|chain(o o':Cm)(a b c:P)|QL(c a b:P)|tup(as:List P)|lst(as:List P)|idx(a i:P)|slice(a lo hi:P)|call(f:Nat)(as:List P)|blt(b:Zu)(as:List P)|inst(ts:List Ty)(a:P)|comp(src:P)(n:Nat)(is:List Nat)(one:Bool)(test:Option P)(elt:P)|rY(a b:P)|enm(a:P)|zip(a b:P)|Xp(x:Nat)(k d:P)|vw(x:Nat)|QM(x:Nat)(k:P)|QQ(x:Nat)(k:P)(neg:Bool)|An(k e:Int)|lA(i:Nat)(a:P)(n:Nat)(is:List Nat)(one:Bool)(test:Option P)(elt:P)deriving Inhabited
noncomputable abbrev lim:Nat:=16777216
noncomputable def rG:D->D->Option R|.int i,.int j=>some (.val (.int (i+j)))|.lst xs,.lst ys=>if xs.length+ys.length<=lim then some (.own (xs++ys))else none|.tup xs,.tup ys=>if xs.length+ys.length<=lim then some (.val (.tup (xs++ys)))else none|.str x,.str y=>if x.length+y.length<=lim then some (.val (.str (x++y)))else none|_,_=>none
noncomputable def mY:D->D->Option R|.int i,.int j=>if((-18446744073709551616<i/\i<18446744073709551616)\/(-18446744073709551616<j/\j<18446744073709551616))then some (.val (.int (i*j)))else none|.lst xs,.int k=>if 0<=k/\0<xs.length/\xs.length*k.toNat<=lim then some (.own (b_ k.toNat xs).flatten)else none|.tup xs,.int k=>if 0<=k/\0<xs.length/\xs.length*k.toNat<=lim then some (.val (.tup (b_ k.toNat xs).flatten))else none|_,_=>none
noncomputable def wH:D->D->Option R|.int i,.int j=>some (.val (.int (i-j)))|_,_=>none
noncomputable def qD:D->D->Option R|.int i,.int j=>if 0<j/\j<1606938044258990275541962092341162602522202993782792835301376 then some (.val (.int (i/j)))else none|_,_=>none
noncomputable def yd:D->D->Option R|.int i,.int j=>if 0<j then some (.val (.int (i%j)))else none|_,_=>none
noncomputable def ye:D->D->Option R|.int i,.int j=>if 0<=j/\j<=1000/\i.natAbs<18446744073709551616 then some (.val (.int (i^j.toNat)))else none|_,_=>none
noncomputable def Ia:D->D->Option R|.int i,.int j=>if 0<=j/\j<=1000/\i.natAbs<18446744073709551616 then some (.val (.int (i*2^j.toNat)))else none|_,_=>none
noncomputable def J1:D->D->Option R|.int i,.int j=>if 0<=j then some (.val (.int (i/2^j.toNat)))else none|_,_=>none
noncomputable def zp:D->D->Option R|.int i,.int j=>some (.val (.int (Builtin.bitAnd i j)))|_,_=>none
noncomputable def flat:D->Bool|.tup _=>false|.lst _=>false|.eG _=>false|.dv _ _=>false|_=>true
noncomputable def items:D->Option (List D)|.lst a=>some a|.tup a=>some a|_=>none
noncomputable def Tq:D->Option (List D)|.tup a=>some a|_=>none
noncomputable def Jk(x y:D):Option Bool:=if eZ 8 x&&eZ 8 y then some (lF x y)else none
noncomputable def Jy(x y:D):Option Bool:=if eZ 8 x&&eZ 8 y then some (!lF x y)else none
noncomputable def KQ(f:Int->Int->Bool):D->D->Option Bool|.int i,.int j=>some (f i j)|_,_=>none
noncomputable def jz:D->Bool|.non=>true|_=>false
noncomputable def cmN(neg:Bool)(x:D):D->Option Bool|.non=>some (if neg then !jz x else jz x)|_=>none
noncomputable def YD(neg:Bool)(x y:D):Option Bool:=(items y).bind λys=>if(flat x&&ys.all flat)=true then some (if neg then !(ys.any λy=>lF y x)else ys.any λy=>lF y x)else none
noncomputable def cmT(neg:Bool):D->D->Option Bool|.bl b,.bl true=>some (if neg then !b else b)|_,_=>none
noncomputable def bB:List Int->List Int->Bool|[],_::_=>true|i::is,j::js=>decide (i<j)||(decide (i=j)&&bB is js)|_,[]=>false
noncomputable def mD:D->Int|.int i=>i|_=>0
noncomputable def dg:D->List Int|.int i=>[i]|.tup a=>a.map mD|_=>[]
noncomputable def gK:D->Bool|.int _=>true|_=>false
noncomputable def Dc.get:Dc->D->Option (Option Int)|.k kvs,.int i=>some ((kvs.find? λa=>decide (a.1=i)).map (·.2))|_,_=>none
noncomputable def putD{κ:Type}[DecidableEq κ](kvs:List (κ×Int))(k:κ)(v:Int):List (κ×Int):=if(kvs.any λa=>decide (a.1=k))=true then kvs.map (λa=>if a.1=k then(a.1,v)else a)else kvs++[(k,v)]
noncomputable def Dc.put:Dc->D->Int->Option Dc|.k kvs,.int i,v=>if kvs.length<lim then some (.k (putD kvs i v))else none|_,_,_=>none
noncomputable def lL(kvs:List (Int×D))(k:Int):Option D:=(kvs.find? λp=>decide (p.1=k)).map (·.2)
noncomputable def fZ(kvs:List (Int×D))(k:Int)(d:D):List (Int×D):=if(kvs.any λp=>decide (p.1=k))=true then kvs.map (λp=>if p.1=k then(p.1,d)else p)else kvs++[(k,d)]
noncomputable def yf(neg:Bool):D->D->Option R|.int k,.dv ks _=>some (.val (.bl (if neg then !ks.contains k else ks.contains k)))|_,_=>none
noncomputable def CT:D->D->Option R|.eG m,k=>(m.get k).bind λo=>o.map λv=>.val (.int v)|.dv ks a,.int k=>(lL (ks.zip a) k).map .val|_,_=>none
noncomputable def sX:Op->D->D->Option R|.add=>rG|.mul=>mY|.sub=>wH|.fdiv=>qD|.mod=>yd|.pow=>ye|.shl=>Ia|.shr=>J1|.band=>zp|.Am=>CT|.din=>yf false|.afM=>yf true
noncomputable def XQ:D->D->Option Bool|.int i,.int j=>some (decide (i<j))|.tup xs,.tup ys=>if(xs.all gK&&ys.all gK)=true then some (bB (xs.map mD) (ys.map mD))else none|_,_=>none
noncomputable def aeq:D->D->Option Bool|.int i,.int j=>some (decide (i<=j))|.tup xs,.tup ys=>if(xs.all gK&&ys.all gK)=true then some (!bB (ys.map mD) (xs.map mD))else none|_,_=>none
noncomputable def cm:Cm->D->D->Option Bool|.eq=>Jk|.ne=>Jy|.lt=>XQ|.le=>KQ λi j=>decide (i<=j)|.leT=>aeq|.gt=>KQ λi j=>decide (j<i)|.ge=>KQ λi j=>decide (j<=i)|.isN=>cmN false|.OJ=>cmN true|.inn=>YD false|.aaj=>YD true|.isT=>cmT false|.aak=>cmT true
noncomputable def rQ(o:Cm)(x y:D):Option R:=(cm o x y).map λk=>.val (.bl k)
noncomputable def jE(n:Nat)(i:Int):Option Nat:=if 0<=i then(if i<n then some i.toNat else none)else if-(n:Int)<=i then some (i+n).toNat else none
noncomputable def at'{a:Type}(xs:List a)(i:Int):Option a:=(jE xs.length i).bind λj=>xs[j]?
noncomputable def dO(n d:Nat):Option Int->Nat|none=>d|some i=>if 0<=i then min i.toNat n else(i+n).toNat
noncomputable def cut{a:Type}(xs:List a)(lo hi:Option Int):List a:=(xs.drop (dO xs.length 0 lo)).take (dO xs.length xs.length hi-dO xs.length 0 lo)
noncomputable def iY:D->Option Int|.int i=>some i|_=>none
noncomputable def yI:D->Option Bool|.bl b=>some b|_=>none
noncomputable def Lp(x y:D):Option R:=(items x).bind λa=>(iY y).bind λi=>(at' a i).map .val
noncomputable def Gu(x:D):Option R:=(iY x).map λi=>.val (.int (-i))
noncomputable def Ek:P->Bool|.con .non=>true|_=>false
noncomputable def part(p:P)(d:D):Option (Option Int):=if Ek p then some none else(iY d).map some
noncomputable def Hg:D->Option (Option Int)->Option (Option Int)->Option R|.lst xs,some lo,some hi=>some (.own (cut xs lo hi))|.tup xs,some lo,some hi=>some (.val (.tup (cut xs lo hi)))|_,_,_=>none
noncomputable def cN:Ty->D->Bool|.int,.int _=>true|.int,.bl _=>true|.bool,.bl _=>true|.str,.str _=>true|.tuple,.tup _=>true|.list,.lst _=>true|.none,.non=>true|_,_=>false
noncomputable def wK:D->Bool|.tup (x::xs)=>(x::xs).all gK|_=>false
noncomputable def sortable(ds:List D):Bool:=decide (ds.length<=16777216)&&(ds.all gK||ds.all wK)
noncomputable def PK(c:List D):List D:=c.mergeSort λa b=>!bB (dg b) (dg a)
noncomputable def zT:D->Option (List D)|.lst a=>some a|_=>none
noncomputable def jC(p:Int×Int):D:=.tup [.int p.1,.int p.2]
noncomputable def blt:Zu->List D->Option R|.len,[x]=>(items x).map λc=>.val (.int c.length)|.list,[x]=>(items x).map λc=>.own c|.tuple,[x]=>(items x).map λc=>.val (.tup c)|.min2,[.int i,.int j]=>some (.val (.int (if j<i then j else i)))|.max2,[.int i,.int j]=>some (.val (.int (if i<j then j else i)))|.Gg,[x]=>((items x).bind λc=>c.mapM iY).bind λns=>ns.min?.map λi=>.val (.int i)|.sum,[x]=>((items x).bind λc=>c.mapM iY).map λns=>.val (.int ns.sum)|.all,[x]=>((zT x).bind λc=>c.mapM yI).map λbs=>.val (.bl (bs.all id))|.abs,[.int i]=>some (.val (.int (if i<0 then-i else i)))|.int,[.int i]=>some (.val (.int i))|.int,[.bl b]=>some (.val (.int (if b then 1 else 0)))|.keys,[.eG (.k kvs)]=>some (.val (.tup (kvs.map λp=>.int p.1)))|.keys,[.dv ks _]=>some (.val (.tup (ks.map D.int)))|.Xo,[.dv ks _]=>if ks.length<=16777216 then some (.own (ks.map D.int))else none|.rvT,[.lst c]=>some (.val (.tup c.reverse))|.Ke,[.eG (.k kvs)]=>if kvs.length<=16777216/\kvs.Pairwise (λa b=>a.1<b.1)then some (.own (kvs.map jC))else none|_,_=>none
noncomputable def pk(ρ:List Sl)(i:Nat):Option D:=match ρ[i]?with|some (.val _ d)=>some d|some (.own _ a)=>some (.lst a)|some (.lent a)=>some (.lst a)|_=>none
noncomputable def zJ(ρ:List Sl)(i:Nat):Option (List D):=match pk ρ i with|some (.lst a)=>some a|_=>none
noncomputable abbrev Ev:=List Sl->Res R
noncomputable def isVar:P->Option Nat|.var i=>some i|_=>none
noncomputable def cP(i:Option Nat)(e:Ev)(ρ:List Sl):Res D:=match i with|some i=>lift (pk ρ i) ρ|none=>(e ρ).bind λr ρ=>.ok r.d ρ
noncomputable def iD(i:Option Nat)(e:Ev)(j:Option Nat)(f:Ev)(ρ:List Sl):Res (D×D):=match i with|some i=>(lift (pk ρ i) ρ).bind λ_ ρ=>(cP j f ρ).bind λy ρ=>(lift (pk ρ i) ρ).bind λx ρ=>.ok (x,y) ρ|none=>(cP none e ρ).bind λx ρ=>(cP j f ρ).bind λy ρ=>.ok (x,y) ρ
noncomputable def iR(e:Ev)(ρ:List Sl):Res Bool:=(e ρ).bind λr ρ=>lift (yI r.d) ρ
set_option genInjectivity true in inductive Arg where|dat(d:D)|tmp(ds:List D)|fM(i:Nat)
noncomputable def wU:R->Arg|.val d=>.dat d|.own a=>.tmp a
noncomputable def cg(ρ:List Sl):List Arg->List Nat->Option (List Sl)|[],_=>some []|.dat d::r,a=>(cg ρ r a).map λs=>.val false d::s|.tmp b::r,a=>(cg ρ r a).map λs=>.own false b::s|.fM i::r,a=>match ρ[i]?with|some (.val _ d)=>(cg ρ r a).map λs=>.val false d::s|some (.own _ b)=>if a.contains i then none else(cg ρ r (i::a)).map λs=>.own true b::s|some (.lent b)=>if a.contains i then none else(cg ρ r (i::a)).map λs=>.lent b::s|_=>none
noncomputable def bh(i:Nat):List Arg->List Sl->Option Sl|.fM k::as,s::ss=>if k=i then some s else bh i as ss|.dat _::as,_::ss=>bh i as ss|.tmp _::as,_::ss=>bh i as ss|_,_=>none
noncomputable def fc:Sl->Option Sl->Sl|.own b _,some (.own _ a)=>.own b a|.own b _,some (.val _ d)=>.val b d|s,_=>s
noncomputable def dC(as:List Arg)(ss:List Sl):Nat->List Sl->List Sl|_,[]=>[]|i,s::ρ=>fc s (bh i as ss)::dC as ss (i+1) ρ
noncomputable abbrev Call:=Nat->List Sl->Res R
noncomputable def qz(c:Call)(f:Nat)(as:List Arg)(ρ:List Sl):Res R:=match cg ρ as []with|none=>.stuck|some args=>match c f args with|.ok r a=>.ok r (dC as a 0 ρ)|.exc _ _=>.stuck|.stuck=>.stuck
noncomputable def put(ρ:List Sl)(i:Nat)(s:Sl):Option (List Sl):=match ρ[i]?with|some .aQ=>some (ρ.set i s)|some (.val false _)=>some (ρ.set i s)|some (.own false _)=>some (ρ.set i s)|_=>none
noncomputable def putAll(ρ:List Sl):List Nat->List D->Option (List Sl)|[],[]=>some ρ|i::is,d::a=>(put ρ i (.val false d)).bind λρ=>putAll ρ is a|_,_=>none
noncomputable def cT(ρ:List Sl)(is:List Nat)(one:Bool)(d:D):Option (List Sl):=match one,is,d with|true,[i],d=>put ρ i (.val false d)|false,is,.tup a=>putAll ρ is a|_,_,_=>none
noncomputable def srcOf(i:Option Nat)(e:Ev)(ρ:List Sl):Res (List D):=match i with
 |some i=>match ρ[i]?with|some (.val _ d)=>lift (items d) ρ|some (.own _ a)=>.ok a (ρ.set i (.lent a))|some (.lent a)=>.ok a ρ|_=>.stuck
 |none=>(e ρ).bind λr ρ=>lift (items r.d) ρ
noncomputable def aY(a:List Sl)(i:Option Nat)(ρ:List Sl):List Sl:=match i with
 |some i=>match a[i]?with|some (.own b c)=>ρ.set i (.own b c)|_=>ρ
 |none=>ρ
noncomputable def Il(i:Nat)(f:Ev)(ρ:List Sl):Res (List D×List Sl):=(f ρ).bind λr a=>(lift (items r.d) a).bind λes a=>match a[i]?with|some (.val _ d)=>(lift (items d) a).bind λb a=>.ok ((es.zip b).map λp=>D.tup [p.1,p.2],a) a|some (.own _ b)=>.ok ((es.zip b).map λp=>D.tup [p.1,p.2],a) (a.set i (.lent b))|some (.lent b)=>.ok ((es.zip b).map λp=>D.tup [p.1,p.2],a) a|_=>.stuck
noncomputable def turns(is:List Nat)(one:Bool)(a:List Sl->Res Bool)(e:Ev):List D->List D->List Sl->Res (List D)|[],c,ρ=>.ok c ρ|d::r,c,ρ=>match cT ρ is one d with|none=>.stuck|some ρ=>(a ρ).bind λb ρ=>if b then(e ρ).bind λx ρ=>turns is one a e r (c++[x.d]) ρ else turns is one a e r c ρ
mutual
noncomputable def ev(c:Call):P->List Sl->Res R
 |.var i,ρ=>match ρ[i]?with|some (.val _ d)=>.ok (.val d) ρ|some (.own b q)=>.ok (.val (.lst q)) (ρ.set i (.val b (.lst q)))|some (.gO (.k kvs))=>.ok (.val (.eG (.k kvs))) (ρ.set i (.val false (.eG (.k kvs))))|some (.cQ kvs)=>.ok (.val (.dv (kvs.map (·.1)) (kvs.map (·.2)))) (ρ.set i (.val false (.dv (kvs.map (·.1)) (kvs.map (·.2)))))|_=>.stuck
 |.con d,ρ=>.ok (.val d) ρ|.glob _ d,ρ=>.ok (.val d) ρ|.bin o a b,ρ=>(iD (isVar a) (ev c a) (isVar b) (ev c b) ρ).bind λs ρ=>lift (sX o s.1 s.2) ρ|.neg a,ρ=>(cP (isVar a) (ev c a) ρ).bind λx ρ=>lift (Gu x) ρ|.not a,ρ=>(iR (ev c a) ρ).bind λb ρ=>.ok (.val (.bl (!b))) ρ|.and a b,ρ=>(iR (ev c a) ρ).bind λx ρ=>if x then(iR (ev c b) ρ).bind λy ρ=>.ok (.val (.bl y)) ρ else .ok (.val (.bl false)) ρ|.or a b,ρ=>(iR (ev c a) ρ).bind λx ρ=>if x then .ok (.val (.bl true)) ρ else(iR (ev c b) ρ).bind λy ρ=>.ok (.val (.bl y)) ρ|.cmp o a b,ρ=>(iD (isVar a) (ev c a) (isVar b) (ev c b) ρ).bind λs ρ=>lift (rQ o s.1 s.2) ρ|.chain o E a b d,ρ=>(iD (isVar a) (ev c a) (isVar b) (ev c b) ρ).bind λs ρ=>(lift (if flat s.2=true then cm o s.1 s.2 else none) ρ).bind λk ρ=>if k then(cP (isVar d) (ev c d) ρ).bind λz ρ=>lift (rQ E s.2 z) ρ else .ok (.val (.bl false)) ρ|.QL t a b,ρ=>(iR (ev c t) ρ).bind λk ρ=>if k then(ev c a ρ).bind λr ρ=>.ok (.val r.d) ρ else(ev c b ρ).bind λr ρ=>.ok (.val r.d) ρ|.tup as,ρ=>(evs c as ρ).bind λq ρ=>.ok (.val (.tup q)) ρ|.lst as,ρ=>(evs c as ρ).bind λq ρ=>.ok (.own q) ρ|.idx a i,ρ=>(iD (isVar a) (ev c a) (isVar i) (ev c i) ρ).bind λs ρ=>lift (Lp s.1 s.2) ρ|.slice a l h,ρ=>match isVar a with|some i=>(lift (pk ρ i) ρ).bind λ_ ρ=>(cP (isVar l) (ev c l) ρ).bind λy ρ=>(cP (isVar h) (ev c h) ρ).bind λz ρ=>(lift (pk ρ i) ρ).bind λx ρ=>lift (Hg x (part l y) (part h z)) ρ|none=>(cP none (ev c a) ρ).bind λx ρ=>(cP (isVar l) (ev c l) ρ).bind λy ρ=>(cP (isVar h) (ev c h) ρ).bind λz ρ=>lift (Hg x (part l y) (part h z)) ρ
 |.call f as,ρ=>(yF c as ρ).bind λxs ρ=>qz c f xs ρ|.blt b [a],ρ=>(cP (isVar a) (ev c a) ρ).bind λx ρ=>lift (blt b [x]) ρ|.blt b as,ρ=>(evs c as ρ).bind λq ρ=>lift (blt b q) ρ|.inst G a,ρ=>(cP (isVar a) (ev c a) ρ).bind λx ρ=>.ok (.val (.bl (G.any λt=>cN t x))) ρ|.comp src n is one w A,ρ=>(srcOf (isVar src) (ev c src) ρ).bind λq g=>if q.length<=lim then(turns is one (oR c w) (ev c A) q [] (g++b_ n .aQ)).bind λxs u=>.ok (.own xs) (aY ρ (isVar src) (u.take g.length))else .stuck|.rY a b,ρ=>(iD (isVar a) (ev c a) (isVar b) (ev c b) ρ).bind λs ρ=>lift ((iY s.1).bind λi=>(iY s.2).bind λj=>if-1000000<=i/\i<=1000000000/\j<=1000000000/\-1000000000<=j then some (.val (.lst ((dP (j-i).toNat).map λ(k:Nat)=>D.int (i+(k:Int)))))else none) ρ|.enm a,ρ=>(ev c a ρ).bind λr ρ=>lift ((items r.d).map λq=>.val (.lst (q.mapIdx λi d=>D.tup [.int (i:Int),d]))) ρ|.zip a b,ρ=>(ev c a ρ).bind λx ρ=>(ev c b ρ).bind λy ρ=>lift ((items x.d).bind λq=>(items y.d).map λes=>.val (.lst ((q.zip es).map λp=>D.tup [p.1,p.2]))) ρ|.Xp x k d,ρ=>match ρ[x]?with
   |some (.gO _)=>(cP (isVar k) (ev c k) ρ).bind λB ρ=>(cP (isVar d) (ev c d) ρ).bind λH ρ=>match ρ[x]?with|some (.gO m)=>lift ((m.get B).bind λo=>(iY H).map λv=>.val (.int (o.getD v))) ρ|_=>.stuck
   |_=>.stuck
 |.vw x,ρ=>match ρ[x]?with|some (.gO m)=>.ok (.val (.eG m)) (ρ.set x (.val false (.eG m)))|some (.cQ kvs)=>.ok (.val (.dv (kvs.map (·.1)) (kvs.map (·.2)))) (ρ.set x (.val false (.dv (kvs.map (·.1)) (kvs.map (·.2)))))|some (.own b q)=>.ok (.val (.lst q)) (ρ.set x (.val b (.lst q)))|some (.val _ d)=>.ok (.val d) ρ|_=>.stuck
 |.QM x k,ρ=>match ρ[x]?with
   |some (.cQ _)=>(cP (isVar k) (ev c k) ρ).bind λB ρ=>match ρ[x]?with|some (.cQ kvs)=>lift ((iY B).bind λk=>(lL kvs k).map .val) ρ|_=>.stuck
   |_=>.stuck
 |.QQ x k neg,ρ=>(cP (isVar k) (ev c k) ρ).bind λB ρ=>match ρ[x]?with|some (.cQ kvs)=>lift ((iY B).map λk=>.val (.bl (if neg then !(kvs.map (·.1)).contains k else(kvs.map (·.1)).contains k))) ρ|_=>.stuck
 |.An k e,ρ=>.ok (.val (.dv [k] [.int e])) ρ|.lA i a n is one w A,ρ=>(Il i (ev c a) ρ).bind λC g=>if C.1.length<=lim then(turns is one (oR c w) (ev c A) C.1 [] (g++b_ n .aQ)).bind λxs u=>.ok (.own xs) (aY C.2 (some i) (u.take g.length))else .stuck
noncomputable def evs(c:Call):List P->List Sl->Res (List D)|[],ρ=>.ok [] ρ|a::r,ρ=>(ev c a ρ).bind λx ρ=>(evs c r ρ).bind λxs ρ=>.ok (x.d::xs) ρ
noncomputable def yF(c:Call):List P->List Sl->Res (List Arg)|[],ρ=>.ok [] ρ|a::r,ρ=>match isVar a with|some i=>(lift (pk ρ i) ρ).bind λ_ ρ=>(yF c r ρ).bind λxs ρ=>.ok (.fM i::xs) ρ|none=>(ev c a ρ).bind λx ρ=>(yF c r ρ).bind λxs ρ=>.ok (wU x::xs) ρ
noncomputable def oR(c:Call):Option P->List Sl->Res Bool|none,ρ=>.ok true ρ|some t,ρ=>iR (ev c t) ρ
end
theorem E1{c i ρ}:ev c (.var i) ρ=match ρ[i]?with|some (.val _ d)=>.ok (.val d) ρ|some (.own b a)=>.ok (.val (.lst a)) (ρ.set i (.val b (.lst a)))|some (.gO (.k kvs))=>.ok (.val (.eG (.k kvs))) (ρ.set i (.val false (.eG (.k kvs))))|some (.cQ kvs)=>.ok (.val (.dv (kvs.map (·.1)) (kvs.map (·.2)))) (ρ.set i (.val false (.dv (kvs.map (·.1)) (kvs.map (·.2)))))|_=>.stuck:=(rfl)
theorem E2{c d ρ}:ev c (.con d) ρ=.ok (.val d) ρ:=(rfl)
theorem E3{c w1 d ρ}:ev c (.glob w1 d) ρ=.ok (.val d) ρ:=(rfl)
theorem E4{c o a b ρ}:ev c (.bin o a b) ρ=(iD (isVar a) (ev c a) (isVar b) (ev c b) ρ).bind λe ρ=>lift (sX o e.1 e.2) ρ:=(rfl)
theorem E5{c a ρ}:ev c (.neg a) ρ=(cP (isVar a) (ev c a) ρ).bind λx ρ=>lift (Gu x) ρ:=(rfl)
theorem E6{c a ρ}:ev c (.not a) ρ=(iR (ev c a) ρ).bind λb ρ=>.ok (.val (.bl (!b))) ρ:=(rfl)
theorem E7{c a b ρ}:ev c (.and a b) ρ=(iR (ev c a) ρ).bind λx ρ=>if x then(iR (ev c b) ρ).bind λy ρ=>.ok (.val (.bl y)) ρ else .ok (.val (.bl false)) ρ:=(rfl)
theorem E8{c a b ρ}:ev c (.or a b) ρ=(iR (ev c a) ρ).bind λx ρ=>if x then .ok (.val (.bl true)) ρ else(iR (ev c b) ρ).bind λy ρ=>.ok (.val (.bl y)) ρ:=(rfl)
theorem E9{c o a b ρ}:ev c (.cmp o a b) ρ=(iD (isVar a) (ev c a) (isVar b) (ev c b) ρ).bind λe ρ=>lift (rQ o e.1 e.2) ρ:=(rfl)
theorem E10{c o o' a b d ρ}:ev c (.chain o o' a b d) ρ=(iD (isVar a) (ev c a) (isVar b) (ev c b) ρ).bind λe ρ=>(lift (if flat e.2=true then cm o e.1 e.2 else none) ρ).bind λk ρ=>if k then(cP (isVar d) (ev c d) ρ).bind λz ρ=>lift (rQ o' e.2 z) ρ else .ok (.val (.bl false)) ρ:=(rfl)
theorem E11{c t a b ρ}:ev c (.QL t a b) ρ=(iR (ev c t) ρ).bind λk ρ=>if k then(ev c a ρ).bind λr ρ=>.ok (.val r.d) ρ else(ev c b ρ).bind λr ρ=>.ok (.val r.d) ρ:=(rfl)
theorem E12{c as ρ}:ev c (.tup as) ρ=(evs c as ρ).bind λa ρ=>.ok (.val (.tup a)) ρ:=(rfl)
theorem E13{c as ρ}:ev c (.lst as) ρ=(evs c as ρ).bind λa ρ=>.ok (.own a) ρ:=(rfl)
theorem E14{c a i ρ}:ev c (.idx a i) ρ=(iD (isVar a) (ev c a) (isVar i) (ev c i) ρ).bind λb ρ=>lift (Lp b.1 b.2) ρ:=(rfl)
theorem E15{c a l h ρ}:ev c (.slice a l h) ρ=match isVar a with|some i=>(lift (pk ρ i) ρ).bind λ_ ρ=>(cP (isVar l) (ev c l) ρ).bind λy ρ=>(cP (isVar h) (ev c h) ρ).bind λz ρ=>(lift (pk ρ i) ρ).bind λx ρ=>lift (Hg x (part l y) (part h z)) ρ|none=>(cP none (ev c a) ρ).bind λx ρ=>(cP (isVar l) (ev c l) ρ).bind λy ρ=>(cP (isVar h) (ev c h) ρ).bind λz ρ=>lift (Hg x (part l y) (part h z)) ρ:=(rfl)
theorem E16{c f as ρ}:ev c (.call f as) ρ=(yF c as ρ).bind λxs ρ=>qz c f xs ρ:=(rfl)
theorem E17{c b a ρ}:ev c (.blt b [a]) ρ=(cP (isVar a) (ev c a) ρ).bind λx ρ=>lift (blt b [x]) ρ:=(rfl)
theorem E18{c b x y r ρ}:ev c (.blt b (x::y::r)) ρ=(evs c (x::y::r) ρ).bind λa ρ=>lift (blt b a) ρ:=(rfl)
theorem ZG{c b ρ}:ev c (.blt b []) ρ=(evs c [] ρ).bind λa ρ=>lift (blt b a) ρ:=(rfl)
theorem E19{c ts a ρ}:ev c (.inst ts a) ρ=(cP (isVar a) (ev c a) ρ).bind λx ρ=>.ok (.val (.bl (ts.any λt=>cN t x))) ρ:=(rfl)
theorem E20{c src n is one test elt ρ}:ev c (.comp src n is one test elt) ρ=(srcOf (isVar src) (ev c src) ρ).bind λe a=>if e.length<=lim then(turns is one (oR c test) (ev c elt) e [] (a++b_ n .aQ)).bind λxs b=>.ok (.own xs) (aY ρ (isVar src) (b.take a.length))else .stuck:=(rfl)
theorem E21{c a b ρ}:ev c (.rY a b) ρ=(iD (isVar a) (ev c a) (isVar b) (ev c b) ρ).bind λe ρ=>lift ((iY e.1).bind λi=>(iY e.2).bind λj=>if-1000000<=i/\i<=1000000000/\j<=1000000000/\-1000000000<=j then some (.val (.lst ((dP (j-i).toNat).map λ(k:Nat)=>D.int (i+(k:Int)))))else none) ρ:=(rfl)
theorem E22{c a ρ}:ev c (.enm a) ρ=(ev c a ρ).bind λr ρ=>lift ((items r.d).map λb=>.val (.lst (b.mapIdx λi d=>D.tup [.int (i:Int),d]))) ρ:=(rfl)
theorem E23{c a b ρ}:ev c (.zip a b) ρ=(ev c a ρ).bind λx ρ=>(ev c b ρ).bind λy ρ=>lift ((items x.d).bind λe=>(items y.d).map λes=>.val (.lst ((e.zip es).map λp=>D.tup [p.1,p.2]))) ρ:=(rfl)
theorem E24{c x k d ρ}:ev c (.Xp x k d) ρ=match ρ[x]?with
 |some (.gO _)=>(cP (isVar k) (ev c k) ρ).bind λa ρ=>(cP (isVar d) (ev c d) ρ).bind λb ρ=>match ρ[x]?with|some (.gO m)=>lift ((m.get a).bind λo=>(iY b).map λv=>.val (.int (o.getD v))) ρ|_=>.stuck
 |_=>.stuck:=(rfl)
theorem E25{c x ρ}:ev c (.vw x) ρ=match ρ[x]?with|some (.gO m)=>.ok (.val (.eG m)) (ρ.set x (.val false (.eG m)))|some (.cQ kvs)=>.ok (.val (.dv (kvs.map (·.1)) (kvs.map (·.2)))) (ρ.set x (.val false (.dv (kvs.map (·.1)) (kvs.map (·.2)))))|some (.own b a)=>.ok (.val (.lst a)) (ρ.set x (.val b (.lst a)))|some (.val _ d)=>.ok (.val d) ρ|_=>.stuck:=(rfl)
theorem E26{c x k ρ}:ev c (.QM x k) ρ=match ρ[x]?with
 |some (.cQ _)=>(cP (isVar k) (ev c k) ρ).bind λa ρ=>match ρ[x]?with|some (.cQ kvs)=>lift ((iY a).bind λk=>(lL kvs k).map .val) ρ|_=>.stuck
 |_=>.stuck:=(rfl)
theorem E27{c x k neg ρ}:ev c (.QQ x k neg) ρ=(cP (isVar k) (ev c k) ρ).bind λa ρ=>match ρ[x]?with|some (.cQ kvs)=>lift ((iY a).map λk=>.val (.bl (if neg then !(kvs.map (·.1)).contains k else(kvs.map (·.1)).contains k))) ρ|_=>.stuck:=(rfl)
theorem E28{c k e ρ}:ev c (.An k e) ρ=.ok (.val (.dv [k] [.int e])) ρ:=(rfl)
theorem E29{c i a n is one test elt ρ}:ev c (.lA i a n is one test elt) ρ=(Il i (ev c a) ρ).bind λf b=>if f.1.length<=lim then(turns is one (oR c test) (ev c elt) f.1 [] (b++b_ n .aQ)).bind λxs e=>.ok (.own xs) (aY f.2 (some i) (e.take b.length))else .stuck:=(rfl)
inductive S where|pass|brk|cont|bad|expr(e:P)|asg(i:Nat)(e:P)|par(i j:Nat)(a b:P)|unp(i:List Nat)(e:P)|O1(x:Nat)(i e:P)|app(x:Nat)(e:P)|ret(e:P)|aam|ifs(c:P)(a b:List S)|gG(src:P)(i:List Nat)(one:Bool)(body:List S)|whl(c:P)(body:List S)|aug(x:Nat)(sub:Bool)(e:P)|Kf(x:Nat)(i:P)(sub:Bool)(e:P)|Kg(x:Nat)(e:P)|Kh(x:Nat)(t:Bool)|dput(x:Nat)(k e:P)|Kl(x:Nat)(src:P)(k:Nat)(is:List Nat)(one:Bool)(elt:P)|Km(x:Nat)(i e:P)|Gh(src:P)(is:List Nat)(one:Bool)(body:List S)|dz(x:Nat)|Gi(x:Nat)|Ko(x:Nat)(k e:Int)|fZ(x:Nat)(k e:P)deriving Inhabited
inductive Fl where|next|brk|cont|ret(r:R)deriving Inhabited
noncomputable def zO:R->Sl|.val d=>.val false d|.own a=>.own false a
noncomputable def iK(is:List Nat)(one:Bool)(body:List Sl->Res Fl):List D->List Sl->Res Fl|[],ρ=>.ok .next ρ|d::r,ρ=>match cT ρ is one d with|none=>.stuck|some ρ=>(body ρ).bind λfl ρ=>match fl with|.next=>iK is one body r ρ|.cont=>iK is one body r ρ|.brk=>.ok .next ρ|.ret r=>.ok (.ret r) ρ
noncomputable def sV(a:List Sl->Res Bool)(body:List Sl->Res Fl):Nat->List Sl->Res Fl|0,_=>.stuck|n+1,ρ=>(a ρ).bind λb ρ=>if b then(body ρ).bind λfl ρ=>match fl with|.next=>sV a body n ρ|.cont=>sV a body n ρ|.brk=>.ok .next ρ|.ret r=>.ok (.ret r) ρ else .ok .next ρ
noncomputable def fO(is:List Nat)(one:Bool)(b:Ev):List D->List (List D)->List Sl->Res (List (List D))|[],a,ρ=>.ok a ρ|d::r,a,ρ=>match cT ρ is one d with|none=>.stuck|some ρ=>(b ρ).bind λx ρ=>match x with|.own c=>fO is one b r (a++[c]) ρ|.val _=>.stuck
noncomputable def rowAt(a:List (List D))(k:Int):Option (List D):=(jE a.length k).bind λr=>a[r]?
noncomputable def jR(a:List (List D))(k:Int)(f:List D->Option (List D)):Option (List (List D)):=(jE a.length k).bind λr=>(a[r]?).bind λrow=>(f row).map λb=>a.set r b
noncomputable def setAt(l:Int)(d:D)(row:List D):Option (List D):=(jE row.length l).map λm=>row.set m d
noncomputable def jj(ρ:List Sl)(x:Nat):Option (List (List D)):=match ρ[x]?with|some (.hold a)=>some a|_=>none
noncomputable def vy(ρ:List Sl)(x:Nat)(k:D):Option (List D):=(jj ρ x).bind λa=>(iY k).bind λk=>rowAt a k
noncomputable def Ga(ρ:List Sl)(x:Nat)(o:Option (List (List D))):Res Fl:=match o with|some a=>.ok .next (ρ.set x (.hold a))|none=>.stuck
noncomputable def rowOne(x r:Nat)(b c e:List Sl->Res D)(ρ:List Sl):Res Fl:=(c ρ).bind λk ρ=>(lift ((jj ρ x).bind λa=>(a[r]?).bind λrow=>(iY k).bind λk=>(at' row k).bind iY) ρ).bind λu ρ=>(e ρ).bind λl ρ=>(lift ((jj ρ x).bind λa=>(a[r]?).bind λrow=>(iY l).bind λl=>(at' row l).bind iY) ρ).bind λv ρ=>(b ρ).bind λj ρ=>Ga ρ x ((jj ρ x).bind λa=>(a[r]?).bind λrow=>(iY j).bind λj=>(setAt j (.int (u+v)) row).map λf=>a.set r f)
noncomputable def Th(x y:Nat)(a b c:List Sl->Res D):Nat->Nat->List Sl->Res Fl|0,_,ρ=>.ok .next ρ|m+1,r,ρ=>(lift (put ρ y .aQ) ρ).bind λρ _=>(rowOne x r a b c ρ).bind λ_ ρ=>Th x y a b c m (r+1) ρ
noncomputable def Rh(is:List Nat)(one:Bool)(body:List Sl->Res Fl)(b:List Sl->Option (Nat×List Sl)):List D->List Sl->Option (Nat×List Sl)|[],_=>none|d::r,ρ=>match cT ρ is one d with|none=>none|some ρ=>match b ρ with|some x=>some x|none=>match body ρ with|.ok .next a=>Rh is one body b r a|.ok .cont a=>Rh is one body b r a|_=>none
noncomputable def RQ:P->P|.idx a _=>a|e=>e
noncomputable def Qn(c:Call)(e:P)(ρ:List Sl):Option (Nat×List Sl):=match RQ e with
 |.call f as=>match yF c as ρ with
   |.ok xs b=>match cg b xs []with
     |some args=>match c f args with|.exc k a=>some (k,dC xs a 0 b)|_=>none
     |none=>none
   |_=>none
 |_=>none
mutual
noncomputable def ex(c:Call)(n:Nat):S->List Sl->Res Fl
 |.pass,ρ=>.ok .next ρ|.brk,ρ=>.ok .brk ρ|.cont,ρ=>.ok .cont ρ|.bad,_=>.stuck|.expr e,ρ=>(ev c e ρ).bind λ_ ρ=>.ok .next ρ|.asg i e,ρ=>(ev c e ρ).bind λr ρ=>(lift (put ρ i (zO r)) ρ).bind λh _=>.ok .next h|.par i j a b,ρ=>(ev c a ρ).bind λx ρ=>(ev c b ρ).bind λy ρ=>(lift ((put ρ i (.val false x.d)).bind λρ=>put ρ j (.val false y.d)) ρ).bind λh _=>.ok .next h|.unp is e,ρ=>(ev c e ρ).bind λr ρ=>match r.d with|.tup g=>(lift (putAll ρ is g) ρ).bind λh _=>.ok .next h|_=>.stuck
 |.O1 x i e,ρ=>(ev c e ρ).bind λr ρ=>(lift (pk ρ x) ρ).bind λ_ ρ=>(cP (isVar i) (ev c i) ρ).bind λk ρ=>match ρ[x]?,k with
   |some (.own b g),.int k=>match jE g.length k with|some j=>.ok .next (ρ.set x (.own b (g.set j r.d)))|none=>.stuck
   |_,_=>.stuck
 |.app x e,ρ=>(lift (zJ ρ x) ρ).bind λ_ ρ=>(ev c e ρ).bind λr ρ=>match ρ[x]?with|some (.own b g)=>if g.length<lim then .ok .next (ρ.set x (.own b (g++[r.d])))else .stuck|_=>.stuck
 |.ret e,ρ=>match isVar e with
   |some i=>match ρ[i]?with|some (.own false g)=>.ok (.ret (.own g)) (ρ.set i .aQ)|_=>(ev c e ρ).bind λr ρ=>.ok (.ret r) ρ
   |none=>(ev c e ρ).bind λr ρ=>.ok (.ret r) ρ
 |.aam,ρ=>.ok (.ret (.val .non)) ρ|.ifs t a b,ρ=>(iR (ev c t) ρ).bind λk ρ=>if k then iB c n a ρ else iB c n b ρ|.gG src is one body,ρ=>(srcOf (isVar src) (ev c src) ρ).bind λg f=>(iK is one (iB c n body) g f).bind λfl p=>.ok fl (aY ρ (isVar src) p)|.whl t body,ρ=>sV (iR (ev c t)) (iB c n body) n ρ|.aug x sub e,ρ=>(lift (pk ρ x) ρ).bind λa ρ=>(cP (isVar e) (ev c e) ρ).bind λb ρ=>match a,b with|.int i,.int j=>(lift (put ρ x (.val false (.int (if sub then i-j else i+j)))) ρ).bind λh _=>.ok .next h|_,_=>.stuck
 |.Kf x i sub e,ρ=>(lift (zJ ρ x) ρ).bind λ_ ρ=>(cP (isVar i) (ev c i) ρ).bind λk ρ=>(lift (zJ ρ x) ρ).bind λl ρ=>(lift ((iY k).bind λi=>at' l i) ρ).bind λa ρ=>(cP (isVar e) (ev c e) ρ).bind λb ρ=>match a,b,ρ[x]?,k with
   |.int u,.int v,some (.own w g),.int k=>match jE g.length k with|some j=>.ok .next (ρ.set x (.own w (g.set j (.int (if sub then u-v else u+v)))))|none=>.stuck
   |_,_,_,_=>.stuck
 |.Kg x e,ρ=>(lift (zJ ρ x) ρ).bind λ_ ρ=>(ev c e ρ).bind λr ρ=>match ρ[x]?,r with|some (.own b g),.own es=>if g.length+es.length<=lim then .ok .next (ρ.set x (.own b (g++es)))else .stuck|_,_=>.stuck
 |.Kh x t,ρ=>match ρ[x]?with|some .aQ=>.ok .next (ρ.set x (.gO (if t then .t []else .k [])))|_=>.stuck
 |.dput x k e,ρ=>(ev c e ρ).bind λr ρ=>match ρ[x]?with
   |some (.gO _)=>(cP (isVar k) (ev c k) ρ).bind λq ρ=>match ρ[x]?,r with
     |some (.gO m),.val (.int v)=>match m.put q v with|some z=>.ok .next (ρ.set x (.gO z))|none=>.stuck
     |_,_=>.stuck
   |_=>.stuck
 |.Kl x src k is one s,ρ=>(srcOf (isVar src) (ev c src) ρ).bind λg f=>if g.length<=lim then(fO is one (ev c s) g [] (f++b_ k .aQ)).bind λo p=>(lift (put (aY ρ (isVar src) (p.take f.length)) x (.hold o)) ρ).bind λh _=>.ok .next h else .stuck|.Km x i e,ρ=>(cP (isVar i) (ev c i) ρ).bind λk ρ=>(lift (vy ρ x k) ρ).bind λ_ ρ=>(ev c e ρ).bind λr ρ=>Ga ρ x ((jj ρ x).bind λo=>(iY k).bind λk=>jR o k λrow=>if row.length<lim then some (row++[r.d])else none)|.Gh src is one body,ρ=>(ev c src ρ).bind λr f=>(lift (items r.d) f).bind λg f=>iK is one (iB c n body) g f|.dz x,ρ=>match ρ[x]?with|some (.hold o)=>.ok .next (ρ.set x (.val false (.lst (o.map D.lst))))|_=>.stuck
 |.Gi x,ρ=>match ρ[x]?with|some .aQ=>.ok .next (ρ.set x (.cQ []))|some (.cQ _)=>.ok .next (ρ.set x (.cQ []))|some (.val false _)=>.ok .next (ρ.set x (.cQ []))|_=>.stuck
 |.Ko x k e,ρ=>match ρ[x]?with|some .aQ=>.ok .next (ρ.set x (.cQ [(k,.int e)]))|some (.cQ _)=>.ok .next (ρ.set x (.cQ [(k,.int e)]))|some (.val false _)=>.ok .next (ρ.set x (.cQ [(k,.int e)]))|_=>.stuck
 |.fZ x k e,ρ=>(ev c e ρ).bind λr ρ=>match ρ[x]?with
   |some (.cQ _)=>(cP (isVar k) (ev c k) ρ).bind λq ρ=>match ρ[x]?,q with|some (.cQ kvs),.int k=>if kvs.length<lim then .ok .next (ρ.set x (.cQ (fZ kvs k r.d)))else .stuck|_,_=>.stuck
   |_=>.stuck
noncomputable def iB(c:Call)(n:Nat):List S->List Sl->Res Fl|[],ρ=>.ok .next ρ|s::r,ρ=>(ex c n s ρ).bind λfl ρ=>match fl with|.next=>iB c n r ρ|fl=>.ok fl ρ
noncomputable def exX(c:Call)(n:Nat):S->List Sl->Option (Nat×List Sl)
 |.ifs t a b,ρ=>match iR (ev c t) ρ with|.ok x f=>if x then Js c n a f else Js c n b f|_=>none
 |.gG src is one body,ρ=>match srcOf (isVar src) (ev c src) ρ with|.ok g f=>(Rh is one (iB c n body) (Js c n body) g f).map λx=>(x.1,aY ρ (isVar src) x.2)|_=>none
 |.asg _ e,ρ=>Qn c e ρ|.expr e,ρ=>Qn c e ρ|_,_=>none
noncomputable def Js(c:Call)(n:Nat):List S->List Sl->Option (Nat×List Sl)|[],_=>none|s::r,ρ=>match exX c n s ρ with|some x=>some x|none=>match ex c n s ρ with|.ok .next a=>Js c n r a|_=>none
end
theorem X1{c n ρ}:ex c n (.pass) ρ=.ok .next ρ:=(rfl)
theorem X2{c n ρ}:ex c n (.brk) ρ=.ok .brk ρ:=(rfl)
theorem X3{c n ρ}:ex c n (.cont) ρ=.ok .cont ρ:=(rfl)
theorem X4{c n ρ}:ex c n (.bad) ρ=.stuck:=(rfl)
theorem X5{c n e ρ}:ex c n (.expr e) ρ=(ev c e ρ).bind λ_ ρ=>.ok .next ρ:=(rfl)
theorem X6{c n i e ρ}:ex c n (.asg i e) ρ=(ev c e ρ).bind λr ρ=>(lift (put ρ i (zO r)) ρ).bind λa _=>.ok .next a:=(rfl)
theorem X7{c n i j a b ρ}:ex c n (.par i j a b) ρ=(ev c a ρ).bind λx ρ=>(ev c b ρ).bind λy ρ=>(lift ((put ρ i (.val false x.d)).bind λρ=>put ρ j (.val false y.d)) ρ).bind λe _=>.ok .next e:=(rfl)
theorem X8{c n is e ρ}:ex c n (.unp is e) ρ=(ev c e ρ).bind λr ρ=>match r.d with|.tup b=>(lift (putAll ρ is b) ρ).bind λa _=>.ok .next a|_=>.stuck:=(rfl)
theorem X9{c n x i e ρ}:ex c n (.O1 x i e) ρ=(ev c e ρ).bind λr ρ=>(lift (pk ρ x) ρ).bind λ_ ρ=>(cP (isVar i) (ev c i) ρ).bind λk ρ=>match ρ[x]?,k with
 |some (.own b a),.int k=>match jE a.length k with|some j=>.ok .next (ρ.set x (.own b (a.set j r.d)))|none=>.stuck
 |_,_=>.stuck:=(rfl)
theorem X10{c n x e ρ}:ex c n (.app x e) ρ=(lift (zJ ρ x) ρ).bind λ_ ρ=>(ev c e ρ).bind λr ρ=>match ρ[x]?with|some (.own b a)=>if a.length<lim then .ok .next (ρ.set x (.own b (a++[r.d])))else .stuck|_=>.stuck:=(rfl)
theorem X11{c n e ρ}:ex c n (.ret e) ρ=match isVar e with
 |some i=>match ρ[i]?with|some (.own false a)=>.ok (.ret (.own a)) (ρ.set i .aQ)|_=>(ev c e ρ).bind λr ρ=>.ok (.ret r) ρ
 |none=>(ev c e ρ).bind λr ρ=>.ok (.ret r) ρ:=(rfl)
theorem X12{c n ρ}:ex c n (.aam) ρ=.ok (.ret (.val .non)) ρ:=(rfl)
theorem X13{c n t a b ρ}:ex c n (.ifs t a b) ρ=(iR (ev c t) ρ).bind λk ρ=>if k then iB c n a ρ else iB c n b ρ:=(rfl)
theorem X14{c n src is one body ρ}:ex c n (.gG src is one body) ρ=(srcOf (isVar src) (ev c src) ρ).bind λe a=>(iK is one (iB c n body) e a).bind λfl b=>.ok fl (aY ρ (isVar src) b):=(rfl)
theorem X15{c n t body ρ}:ex c n (.whl t body) ρ=sV (iR (ev c t)) (iB c n body) n ρ:=(rfl)
theorem X16{c n x sub e ρ}:ex c n (.aug x sub e) ρ=(lift (pk ρ x) ρ).bind λa ρ=>(cP (isVar e) (ev c e) ρ).bind λb ρ=>match a,b with|.int i,.int j=>(lift (put ρ x (.val false (.int (if sub then i-j else i+j)))) ρ).bind λf _=>.ok .next f|_,_=>.stuck:=(rfl)
theorem X17{c n x i sub e ρ}:ex c n (.Kf x i sub e) ρ=(lift (zJ ρ x) ρ).bind λ_ ρ=>(cP (isVar i) (ev c i) ρ).bind λk ρ=>(lift (zJ ρ x) ρ).bind λl ρ=>(lift ((iY k).bind λi=>at' l i) ρ).bind λa ρ=>(cP (isVar e) (ev c e) ρ).bind λb ρ=>match a,b,ρ[x]?,k with
 |.int u,.int v,some (.own g f),.int k=>match jE f.length k with|some j=>.ok .next (ρ.set x (.own g (f.set j (.int (if sub then u-v else u+v)))))|none=>.stuck
 |_,_,_,_=>.stuck:=(rfl)
theorem X18{c n x e ρ}:ex c n (.Kg x e) ρ=(lift (zJ ρ x) ρ).bind λ_ ρ=>(ev c e ρ).bind λr ρ=>match ρ[x]?,r with|some (.own b a),.own es=>if a.length+es.length<=lim then .ok .next (ρ.set x (.own b (a++es)))else .stuck|_,_=>.stuck:=(rfl)
theorem X19{c n x t ρ}:ex c n (.Kh x t) ρ=match ρ[x]?with|some .aQ=>.ok .next (ρ.set x (.gO (if t then .t []else .k [])))|_=>.stuck:=(rfl)
theorem X20{c n x k e ρ}:ex c n (.dput x k e) ρ=(ev c e ρ).bind λr ρ=>match ρ[x]?with
 |some (.gO _)=>(cP (isVar k) (ev c k) ρ).bind λa ρ=>match ρ[x]?,r with
   |some (.gO m),.val (.int v)=>match m.put a v with|some b=>.ok .next (ρ.set x (.gO b))|none=>.stuck
   |_,_=>.stuck
 |_=>.stuck:=(rfl)
theorem X21{c n x src k is one elt ρ}:ex c n (.Kl x src k is one elt) ρ=(srcOf (isVar src) (ev c src) ρ).bind λg a=>if g.length<=lim then(fO is one (ev c elt) g [] (a++b_ k .aQ)).bind λe b=>(lift (put (aY ρ (isVar src) (b.take a.length)) x (.hold e)) ρ).bind λf _=>.ok .next f else .stuck:=(rfl)
theorem X22{c n x i e ρ}:ex c n (.Km x i e) ρ=(cP (isVar i) (ev c i) ρ).bind λk ρ=>(lift (vy ρ x k) ρ).bind λ_ ρ=>(ev c e ρ).bind λr ρ=>Ga ρ x ((jj ρ x).bind λa=>(iY k).bind λk=>jR a k λrow=>if row.length<lim then some (row++[r.d])else none):=(rfl)
theorem X23{c n src is one body ρ}:ex c n (.Gh src is one body) ρ=(ev c src ρ).bind λr a=>(lift (items r.d) a).bind λb a=>iK is one (iB c n body) b a:=(rfl)
theorem X24{c n x ρ}:ex c n (.dz x) ρ=match ρ[x]?with|some (.hold a)=>.ok .next (ρ.set x (.val false (.lst (a.map D.lst))))|_=>.stuck:=(rfl)
theorem X25{c n x ρ}:ex c n (.Gi x) ρ=match ρ[x]?with|some .aQ=>.ok .next (ρ.set x (.cQ []))|some (.cQ _)=>.ok .next (ρ.set x (.cQ []))|some (.val false _)=>.ok .next (ρ.set x (.cQ []))|_=>.stuck:=(rfl)
theorem X26{c n x k e ρ}:ex c n (.Ko x k e) ρ=match ρ[x]?with|some .aQ=>.ok .next (ρ.set x (.cQ [(k,.int e)]))|some (.cQ _)=>.ok .next (ρ.set x (.cQ [(k,.int e)]))|some (.val false _)=>.ok .next (ρ.set x (.cQ [(k,.int e)]))|_=>.stuck:=(rfl)
theorem X27{c n x k e ρ}:ex c n (.fZ x k e) ρ=(ev c e ρ).bind λr ρ=>match ρ[x]?with
 |some (.cQ _)=>(cP (isVar k) (ev c k) ρ).bind λa ρ=>match ρ[x]?,a with|some (.cQ kvs),.int k=>if kvs.length<lim then .ok .next (ρ.set x (.cQ (fZ kvs k r.d)))else .stuck|_,_=>.stuck
 |_=>.stuck:=(rfl)
structure Fd where
 np:Nat
 nn:Nat
 body:List S deriving Inhabited
noncomputable abbrev Tab:=Nat->Option Fd
noncomputable def enter(c:Call)(n:Nat)(d:Fd)(args:List Sl):Res R:=if args.length=d.np/\d.np<=d.nn then match iB c n d.body (args++b_ (d.nn-d.np) .aQ)with|.ok .next ρ=>.ok (.val .non) (ρ.take d.np)|.ok (.ret r) ρ=>.ok r (ρ.take d.np)|_=>match Js c n d.body (args++b_ (d.nn-d.np) .aQ)with|some (k,ρ)=>.exc k (ρ.take d.np)|none=>.stuck else .stuck
noncomputable def run(Γ:Tab)(w:Nat):Nat->Call|0,_,_=>.stuck|n+1,f,args=>match Γ f with|some d=>enter (run Γ w n) w d args|none=>.stuck
end HH
end
section
namespace HH
open PySem L2
variable{ρ:List Sl}{σ:St}{v:V}
noncomputable def Dc.ho:Dc->HO|.k kvs=>.dK (kvs.map λp=>(dL p.1,V.int p.2))|.t kvs=>.dT (kvs.map λp=>(p.1.map dL,V.int p.2))
noncomputable def Cd(ks:List Int)(vs:List V):HO:=.dK ((ks.zip vs).map λp=>(dL p.1,p.2))
section
variable(K:PySem.W.Frag)
mutual
noncomputable def Rep(F:Hp):V->D->Prop|v,.non=>v=.non|v,.bl b=>v=.bl b|v,.int i=>v=.int i|v,.str x=>v=.str x|v,.tup c=>∃a xs,v=.ref a/\iM K F a xs/\aH F xs c|v,.lst c=>∃a xs,v=.ref a/\eO K F a xs/\aH F xs c|v,.eG m=>∃a o,v=.ref a/\F a=some (.dz o m.ho)|v,.dv ks c=>∃a o vs,v=.ref a/\F a=some (.dz o (Cd ks vs))/\aH F vs c/\ks.length=c.length
noncomputable def aH(F:Hp):List V->List D->Prop|vs,[]=>vs=[]|vs,d::a=>∃v r,vs=v::r/\Rep F v d/\aH F r a
end
end
section
variable{K:PySem.W.Frag}{F F' H H':Hp}
theorem aG.gD{a:bd}{xs:List V}(e:aG H H')(h:iM K H a xs):iM K H' a xs:=by
 rcases h with(h|⟨o,h⟩)|h;.exact .inl (.inl (e _ _ h))
 .exact .inl (.inr ⟨o,e _ _ h⟩)
 .exact .inr h
mutual
theorem Rep.mono(e:aG F F'):∀{d:D}{v:V},Rep K F v d->Rep K F' v d|.non,_,h=>by rw[Rep]at h ⊢;exact h|.bl _,_,h=>by rw[Rep]at h ⊢;exact h|.int _,_,h=>by rw[Rep]at h ⊢;exact h|.str _,_,h=>by rw[Rep]at h ⊢;exact h|.tup b,_,h=>by rw[Rep]at h ⊢;obtain⟨a,xs,rfl,hs,r⟩:=h;exact⟨a,xs,rfl,aG.gD e hs,aH.mono e r⟩|.lst b,_,h=>by rw[Rep]at h ⊢;obtain⟨a,xs,rfl,hs,r⟩:=h;exact⟨a,xs,rfl,e.seq hs,aH.mono e r⟩|.eG m,_,h=>by rw[Rep]at h ⊢;obtain⟨a,o,rfl,hs⟩:=h;exact⟨a,o,rfl,e _ _ hs⟩|.dv ks b,_,h=>by rw[Rep]at h ⊢;obtain⟨a,o,vs,rfl,hs,r,c⟩:=h;exact⟨a,o,vs,rfl,e _ _ hs,aH.mono e r,c⟩theorem aH.mono(e:aG F F'):∀{a:List D}{vs:List V},aH K F vs a->aH K F' vs a|[],_,h=>by rw[aH]at h ⊢;exact h|d::a,_,h=>by rw[aH]at h ⊢;obtain⟨v,r,rfl,h1,b⟩:=h;exact⟨v,r,rfl,Rep.mono e h1,aH.mono e b⟩end
theorem aH.nil:aH K F [] []:=by rw[aH]
theorem aH.cons{v:V}{d:D}{vs:List V}{a:List D}(h:Rep K F v d)(t:aH K F vs a):aH K F (v::vs) (d::a):=by rw[aH];exact⟨v,vs,rfl,h,t⟩
theorem aH.cL{vs:List V}{d:D}{a:List D}(h:aH K F vs (d::a)):∃v r,vs=v::r/\Rep K F v d/\aH K F r a:=by rw[aH]at h;exact h
theorem aH.fV{vs:List V}(h:aH K F vs []):vs=[]:=by rw[aH]at h;exact h
theorem aH.length:∀{a:List D}{vs:List V},aH K F vs a->vs.length=a.length|[],_,h=>by rw[h.fV];rfl|d::a,_,h=>by obtain⟨v,r,rfl,_,t⟩:=h.cL;simp[aH.length t]
theorem aH.get:∀{a:List D}{vs:List V}{i:Nat}{d:D},aH K F vs a->a[i]?=some d->∃v,vs[i]?=some v/\Rep K F v d|[],_,_,_,h,e=>by simp at e|d::a,_,0,_,h,e=>by obtain⟨v,r,rfl,h1,t⟩:=h.cL;simp at e;subst e;exact⟨v,rfl,h1⟩|d::a,_,i+1,_,h,e=>by obtain⟨v,r,rfl,_,t⟩:=h.cL;simp at e;obtain⟨w,b,c⟩:=t.get e;exact⟨w,by simpa using b,c⟩
theorem aH.append:∀{a es:List D}{vs b:List V},aH K F vs a->aH K F b es->aH K F (vs++b) (a++es)|[],_,_,_,h,h'=>by rw[h.fV];exact h'|d::a,_,_,_,h,h'=>by obtain⟨v,r,rfl,h1,t⟩:=h.cL;exact .cons h1 (t.append h')
theorem aH.set{v:V}{d:D}(hr:Rep K F v d):∀{a:List D}{vs:List V}(i:Nat),aH K F vs a->aH K F (vs.set i v) (a.set i d)|[],_,_,h=>by rw[h.fV];exact .nil|_::_,_,0,h=>by obtain⟨w,r,rfl,h1,t⟩:=h.cL;exact .cons hr t|_::_,_,i+1,h=>by obtain⟨w,r,rfl,h1,t⟩:=h.cL;exact .cons h1 (aH.set hr i t)
theorem aH.take:∀{a:List D}{vs:List V}(n:Nat),aH K F vs a->aH K F (vs.take n) (a.take n)|[],_,n,h=>by rw[h.fV];simpa using aH.nil|_::_,_,0,h=>.nil|_::_,_,n+1,h=>by obtain⟨w,r,rfl,h1,t⟩:=h.cL;exact .cons h1 (t.take n)
theorem aH.drop:∀{a:List D}{vs:List V}(n:Nat),aH K F vs a->aH K F (vs.drop n) (a.drop n)|[],_,n,h=>by rw[h.fV];simpa using aH.nil|_::_,_,0,h=>h|_::_,_,n+1,h=>by obtain⟨w,r,rfl,h1,t⟩:=h.cL;exact t.drop n
theorem aH.rep{a:List D}{vs:List V}(h:aH K F vs a):∀n,aH K F (b_ n vs).flatten (b_ n a).flatten|0=>by simpa using aH.nil|n+1=>by simpa[gS]using h.append (aH.rep h n)
inductive Oc where|l(ds:List D)|d(m:Dc)|v(kvs:List (Int×D))
noncomputable def lst?:Sl->Option Oc|.own _ a=>some (.l a)|.lent a=>some (.l a)|.gO m=>some (.d m)|.cQ kvs=>some (.v kvs)|_=>none
noncomputable def kZ(K:PySem.W.Frag)(F:Hp)(o:HO):Oc->Prop|.l a=>∃xs,o=.lst xs/\aH K F xs a|.d m=>o=m.ho|.v kvs=>∃vs,o=Cd (kvs.map (·.1)) vs/\aH K F vs (kvs.map (·.2))
theorem kZ.mono{o:HO}{x:Oc}(e:aG F F')(h:kZ K F o x):kZ K F' o x:=by cases x with|l b=>obtain⟨xs,a,h⟩:=h;exact⟨xs,a,h.mono e⟩|d m=>exact h|v kvs=>obtain⟨xs,a,h⟩:=h;exact⟨xs,a,h.mono e⟩
noncomputable def bf(ρ:List Sl)(σ:St)(i:Nat)(a:bd):Prop:=(∃s b,ρ[i]?=some s/\lst? s=some b)/\σ[i]?=some (some (V.ref a))
noncomputable def Own(ρ:List Sl)(σ:St)(a:bd):Prop:=∃i,bf ρ σ i a
structure GS(K:PySem.W.Frag)(F:Hp)(ρ:List Sl)(σ:St)(H:Hp):Prop where
 sub:aG F H
 len:ρ.length=σ.length
 val:∀(i:Nat)(b:Bool)(d:D),ρ[i]?=some (Sl.val b d)->∃v:V,σ[i]?=some (some v)/\Rep K F v d
 own:∀(i:Nat)(s:Sl)(ds:Oc),ρ[i]?=some s->lst? s=some ds->∃(a:bd)(xs:HO),σ[i]?=some (some (V.ref a))/\H a=some xs/\F a=none/\kZ K F xs ds
 dis:∀(i j:Nat)(a:bd),bf ρ σ i a->bf ρ σ j a->i=j
theorem GS.lK(g:GS K F ρ σ H)(i:Nat)(s:Sl)(b:List D)(e:ρ[i]?=some s)(c:lst? s=some (.l b)):∃(a:bd)(xs:List V),σ[i]?=some (some (V.ref a))/\H a=some (.lst xs)/\F a=none/\aH K F xs b:=by obtain⟨a,o,h1,f,h,xs,rfl,j⟩:=g.own i s (.l b) e c;exact⟨a,xs,h1,f,h,j⟩
noncomputable def tL:Sl->Bool|.val b _=>b|.own b _=>b|.lent _=>true|.aQ=>false|.gO _=>false|.cQ _=>false|.hold _=>true
noncomputable def mW:Sl->Sl->Prop|.val true d,s=>s=.val true d|.own true _,s=>(∃a,s=.own true a)\/∃d,s=.val true d|.lent a,s=>s=.lent a|.hold a,s=>s=.hold a|_,_=>True
theorem mW.refl(s:Sl):mW s s:=by unfold mW;split<;>first|rfl|exact .inl ⟨_,rfl⟩|trivial
theorem mW.tL{s a:Sl}(h:mW s a)(l:tL s=true):HH.tL a=true:=by cases s with
 |aQ=>cases l|gO _=>cases l|cQ _=>cases l|val b d=>cases b with|true=>cases h;rfl|false=>cases l
 |own b d=>cases b with|true=>rcases h with⟨_,rfl⟩|⟨_,rfl⟩<;>rfl|false=>cases l
 |lent d=>cases h;rfl|hold d=>cases h;rfl
theorem mW.trans{s c a:Sl}(l:HH.tL s=true)(h:mW s c)(h':mW c a):mW s a:=by cases s with
 |aQ=>cases l|gO _=>cases l|cQ _=>cases l|val b d=>cases b with|true=>cases h;exact h'|false=>cases l
 |own b d=>cases b with
   | true => rcases h with⟨_,rfl⟩|⟨d,rfl⟩;.exact h'
             .exact .inr ⟨d,h'⟩|false=>cases l
 |lent d=>cases h;exact h'|hold d=>cases h;exact h'
noncomputable def nt:Option HO->Option HO|some (.tup _)=>none|o=>o
theorem kh{o:Option HO}(h:o=none):nt o=none:=by rw[h];rfl
theorem G6{H:Hp}{b:bd}{xs:List V}(h:H b=some (.lst xs))(z:nt (H b)=none):False:=by rw[h]at z;cases z
theorem JB{o:HO}{x:Oc}(h:kZ K F o x)(z:nt (some o)=none):False:=by cases x with|l a=>obtain⟨xs,rfl,_⟩:=h;cases z|d m=>cases m<;>(cases(show o=_ from h);cases z)|v kvs=>obtain⟨xs,rfl,_⟩:=h;cases z
structure aB(K:PySem.W.Frag)(F:Hp)(ρ:List Sl)(σ:St)(H:Hp)(F':Hp)(ρ':List Sl)(σ':St)(H':Hp):Prop where
 gs:GS K F' ρ' σ' H'
 bQ:aG F F'
 yt:∀b,F b=none->F' b≠none->Own ρ σ b\/nt (H b)=none
 keep:∀b o,H b=some o->¬ Own ρ σ b->H' b=some o
 wg:∀b,Own ρ' σ' b->Own ρ σ b\/H b=none
 len:ρ'.length=ρ.length
 lk:∀(i:Nat)(s:Sl),ρ[i]?=some s->tL s=true->σ'[i]?=σ[i]?/\∃s',ρ'[i]?=some s'/\mW s s'
theorem aB.refl{ρ:List Sl}{σ:St}(g:GS K F ρ σ H):aB K F ρ σ H F ρ σ H:=⟨g,aG.refl _,λb h h'=>absurd h h',λ_ _ h _=>h,λ_ h=>.inl h,rfl,λi s h _=>⟨rfl,s,h,.refl s⟩⟩
theorem aB.trans{F1 p m r:Hp}{ρ f j:List Sl}{σ g k:St}(a:aB K F ρ σ H F1 f g m)(b:aB K F1 f g m p j k r):aB K F ρ σ H p j k r:=by
 have back:∀c,Own f g c\/m c=none->Own ρ σ c\/H c=none:=λc h=>by
  rcases h with h|h;.exact a.wg c h
  . by_cases ho:Own ρ σ c;.exact .inl ho
    .right;cases e:H c with|none=>rfl|some o=>rw[a.keep c o e ho]at h;cases h
 refine⟨b.gs,a.bQ.trans b.bQ,λc h h'=>?_,λc o h n=>?_,λc h=>back c (b.wg c h),b.len.trans a.len,λi s h l=>?_⟩
 . by_cases e:F1 c=none
   . by_cases ho:Own ρ σ c;.exact .inl ho
     . rcases b.yt c e h' with z|z;.exact(back c (.inl z)).imp id kh
       .right;cases q:H c with|none=>rfl|some o=>rw[a.keep c o q ho]at z;exact z
   .exact a.yt c h e
 . refine b.keep c o (a.keep c o h n) λh'=>?_;rcases a.wg c h' with h'|h';.exact n h'
   .rw[h]at h';cases h'
 .obtain⟨u,s1,h1,t⟩:=a.lk i s h l;obtain⟨w,s2,x,y⟩:=b.lk i s1 h1 (t.tL l);exact⟨w.trans u,s2,x,.trans l t y⟩
noncomputable def dG(K:PySem.W.Frag)(F H:Hp)(v:V)(d:D):Prop:=Rep K F v d\/∃a xs b,v=.ref a/\H a=some (.lst xs)/\aH K F xs b/\d=.lst b
noncomputable def cW(K:PySem.W.Frag)(F':Hp)(b:List Sl)(c:St)(H':Hp)(ρ:List Sl)(σ:St)(H:Hp)(v:V):R->Prop|.val d=>Rep K F' v d|.own e=>∃a xs,v=.ref a/\H' a=some (.lst xs)/\F' a=none/\aH K F' xs e/\¬ Own b c a/\(Own ρ σ a\/H a=none)
theorem aG.cG{F:Hp}{a:bd}{o:HO}(h:F a=none):aG F (upd F a o):=λb u e=>by
 have:b≠a:=by rintro rfl;rw[h]at e;cases e
 rw[aC this];exact e
theorem aB.dz{c:List Sl}{f:St}{r:R}(s:aB K F ρ σ H F' c f H')(h:cW K F' c f H' ρ σ H v r):∃g,aB K F ρ σ H g c f H'/\aG F' g/\Rep K g v r.d:=by cases r with|val d=>exact⟨F',s,.refl _,h⟩|own t=>
   obtain⟨a,xs,rfl,h1,u,w,x,y⟩:=h;have sm:aG F' (upd F' a (.lst xs)):=aG.cG u;refine⟨upd F' a (.lst xs),⟨⟨λb o e=>?_,s.gs.len,λi b d e=>?_,λi sl k e p=>?_,s.gs.dis⟩,s.bQ.trans sm,λb n q=>?_,s.keep,s.wg,s.len,s.lk⟩,sm,?_⟩
   . by_cases j:b=a;.subst j;rw[aP]at e;cases e;exact h1
     .rw[aC j]at e;exact s.gs.sub b o e
   .obtain⟨v,l,m⟩:=s.gs.val i b d e;exact⟨v,l,m.mono sm⟩
   . obtain⟨b,ys,l,m,z,A⟩:=s.gs.own i sl k e p;have j:b≠a:=by rintro rfl;exact x ⟨i,⟨sl,k,e,p⟩,l⟩
     exact⟨b,ys,l,m,by rw[aC j];exact z,A.mono sm⟩
   . by_cases j:b=a;.subst j;exact y.imp id kh
     .rw[aC j]at q;exact s.yt b n q
   .show Rep K _ _ (.lst t);rw[Rep];exact⟨a,xs,rfl,eO.of aP,w.mono sm⟩
theorem dG.mono{v:V}(e:aG F F')(k:∀a xs,v=.ref a->H a=some (.lst xs)->H' a=some (.lst xs)){d:D}(h:dG K F H v d):dG K F' H' v d:=by
 rcases h with h|⟨a,xs,b,h1,c,f,g⟩;.exact .inl (h.mono e)
 .exact .inr ⟨a,xs,b,h1,k a xs h1 c,f.mono e,g⟩
theorem GS.pk{ρ:List Sl}{σ:St}{i:Nat}{d:D}(g:GS K F ρ σ H)(e:HH.pk ρ i=some d):∃v:V,σ[i]?=some (some v)/\dG K F H v d:=by
 unfold HH.pk at e;split at e;.rename_i b d' h;cases e;obtain⟨v,h1,c⟩:=g.val i b d h;exact⟨v,h1,.inl c⟩
 .rename_i b f h;cases e;obtain⟨a,xs,h1,c,k,j⟩:=g.lK i _ f h rfl;exact⟨.ref a,h1,.inr ⟨a,xs,f,rfl,c,j,rfl⟩⟩
 .rename_i f h;cases e;obtain⟨a,xs,h1,c,k,j⟩:=g.lK i _ f h rfl;exact⟨.ref a,h1,.inr ⟨a,xs,f,rfl,c,j,rfl⟩⟩
 .cases e
structure Ext(F H F' H':Hp):Prop where
 hs:aG H H'
 fs:aG F F'
 sub:aG F' H'
 gr:∀b,F b=none->F' b≠none->nt (H b)=none
theorem Ext.refl(h:aG F H):Ext F H F H:=⟨.refl _,.refl _,h,λ_ a b=>absurd a b⟩
theorem Ext.stp(g:GS K F ρ σ H)(e:Ext F H F' H'):aB K F ρ σ H F' ρ σ H':=by
 refine⟨⟨e.sub,g.len,λi b d h=>?_,λi s j h h'=>?_,g.dis⟩,e.fs,λb n k=>.inr (e.gr b n k),λb o h _=>e.hs b o h,λ_ h=>.inl h,rfl,λi s h _=>⟨rfl,s,h,.refl s⟩⟩;.obtain⟨v,h1,c⟩:=g.val i b d h;exact⟨v,h1,c.mono e.fs⟩
 .obtain⟨a,xs,h1,c,l,f⟩:=g.own i s j h h';refine⟨a,xs,h1,e.hs _ _ c,?_,f.mono e.fs⟩;cases q:F' a with|none=>rfl|some o=>have:=e.gr a l (by rw[q];simp);rw[c]at this;exact(JB f this).elim
noncomputable def cF(K:PySem.W.Frag)(F' H' H:Hp)(v:V):R->Prop|.val d=>Rep K F' v d|.own b=>∃a xs,v=.ref a/\H' a=some (.lst xs)/\F' a=none/\aH K F' xs b/\H a=none
theorem cF.pG{r:R}(g:GS K F ρ σ H)(h:cF K F' H' H v r):cW K F' ρ σ H' ρ σ H v r:=by cases r with|val d=>exact h|own p=>obtain⟨a,xs,rfl,h1,l,m,f⟩:=h;refine⟨a,xs,rfl,h1,l,m,?_,.inr f⟩;rintro⟨i,⟨s,c,e,n⟩,o⟩;obtain⟨b,ys,j,k,_⟩:=g.own i s c e n;rw[o]at j;cases j;rw[f]at k;cases k
theorem cW.later{F1 j k l:Hp}{c f:List Sl}{g i:St}{r:R}(a:aB K F ρ σ H F1 c g j)(h:cW K k f i l c g j v r):cW K k f i l ρ σ H v r:=by cases r with|val d=>exact h|own q=>
   obtain⟨b,xs,rfl,h1,m,n,p,h5⟩:=h;refine⟨b,xs,rfl,h1,m,n,p,?_⟩;rcases h5 with h5|h5;.exact a.wg b h5
   . by_cases ho:Own ρ σ b;.exact .inl ho
     .right;cases e:H b with|none=>rfl|some o=>rw[a.keep b o e ho]at h5;cases h5
end
end HH
end
section
namespace HH
open PySem L2 PySem.Spec PyProof.Rows
variable{ρ' ρ ρ₀:List Sl}{es:List dr}{K:PySem.W.Frag}{F H H₀:Hp}{σ:L2.St}{i n:Nat}{ds:List D}{x:Str}{v:V}{vs:List V}{op:n_}{p':Pos}{as:List Arg}
theorem aj{c e:Type}{x:Res c}{f:c->List Sl->Res e}{b:e}(h:x.bind f=.ok b ρ'):∃a ρ,x=.ok a ρ/\f a ρ=.ok b ρ':=by cases x with|ok a ρ=>exact⟨a,ρ,rfl,h⟩|exc _ _=>cases h|stuck=>cases h
theorem aD{c:Type}{o:Option c}{a:c}(h:lift o ρ=.ok a ρ'):o=some a/\ρ=ρ':=by cases o with|none=>cases h|some b=>cases h;exact⟨rfl,rfl⟩
theorem map_some{c e:Type}{o:Option c}{f:c->e}{b:e}(h:o.map f=some b):∃a,o=some a/\f a=b:=by cases o with|none=>cases h|some a=>cases h;exact⟨a,rfl,rfl⟩
theorem cJ{c e:Type}{o:Option c}{f:c->Option e}{b:e}(h:o.bind f=some b):∃a,o=some a/\f a=some b:=by cases o with|none=>cases h|some a=>exact⟨a,rfl,h⟩
theorem bC{e:Type}{c:Prop}[Decidable c]{a b:e}(h:(if c then some a else none)=some b):c/\a=b:=by
 split at h;.rename_i hc;cases h;exact⟨hc,rfl⟩
 .cases h
section
variable{X:Cx}{c:Call}{e a b:dr}{p pa pb:P}{pos:Pos}
theorem dR{t t':TE}(h:PE X e t)(i:∀σ H Q,t' σ H Q->t σ H Q):PE X e t':=λf s σ H Q I q=>h f s σ H Q I (i σ H Q q)
theorem wu{t t':TT}(h:PT X e t)(i:∀σ H Q,t' σ H Q->t σ H Q):PT X e t':=λf s σ H Q I q=>h f s σ H Q I (i σ H Q q)
theorem Pj{t t':TT}(h:PW X e t)(i:∀σ H Q,t' σ H Q->t σ H Q):PW X e t':=λwh f s σ H Q I q=>h wh f s σ H Q I (i σ H Q q)
theorem qL{t t':TA}(h:PA X es t)(i:∀σ H Q,t' σ H Q->t σ H Q):PA X es t':=λpos f s σ H Q I q=>h pos f s σ H Q I (i σ H Q q)
inductive vK(K:PySem.W.Frag)(f:Ev)(σ:L2.St)(H:Hp)(Q:VK):Prop where|mk(F:Hp)(ρ:List Sl)(r:R)(ρ':List Sl)(g:GS K F ρ σ H)(e:f ρ=.ok r ρ')(k:∀v F' H',aB K F ρ σ H F' ρ' σ H'->cW K F' ρ' σ H' ρ σ H v r->Q v H')
inductive DP(K:PySem.W.Frag)(f:List Sl->Res Bool)(σ:L2.St)(H:Hp)(Q:Bool->Hp->Prop):Prop where|mk(F:Hp)(ρ:List Sl)(b:Bool)(ρ':List Sl)(g:GS K F ρ σ H)(e:f ρ=.ok b ρ')(k:∀F' H',aB K F ρ σ H F' ρ' σ H'->Q b H')
inductive aeg(K:PySem.W.Frag)(f:List Sl->Res (List D))(σ:L2.St)(H:Hp)(Q:List V->Hp->Prop):Prop where|mk(F:Hp)(ρ:List Sl)(ds:List D)(ρ':List Sl)(g:GS K F ρ σ H)(e:f ρ=.ok ds ρ')(k:∀vs F' H',aB K F ρ σ H F' ρ' σ H'->aH K F' vs ds->Q vs H')
structure SX(X:Cx)(c:Call)(e:dr)(p:P):Prop where ev:PE X e (vK X.K (HH.ev c p))var:∀i,isVar p=some i->PE X e (Q4 i)
noncomputable def SA(X:Cx)(c:Call)(es:List dr)(ps:List P):Prop:=PA X es (aeg X.K (evs c ps))/\ps.length=es.length
theorem SX.cP(h:SX X c e p):∃t,PE X e t/\∀{σ:L2.St}{H F:Hp}{ρ ρ':List Sl}{d:D}{Q:VK},GS X.K F ρ σ H->cP (isVar p) (HH.ev c p) ρ=.ok d ρ'->(∀v j f,aB X.K F ρ σ H j ρ' σ f->dG X.K j f v d->Q v f)->t σ H Q:=by cases hv:isVar p with|none=>refine⟨_,h.ev,λ{σ H F ρ ρ' d Q}g e k=>?_⟩;obtain⟨r,q,l,m⟩:=aj e;cases m;refine⟨F,ρ,r,_,g,l,λv j f s u=>?_⟩;obtain⟨o,w,_,y⟩:=s.dz u;exact k v o f w (.inl y)|some i=>refine⟨_,h.var i hv,λ{σ H F ρ ρ' d Q}g e k=>?_⟩;obtain⟨l,m⟩:=aD e;subst m;obtain⟨v,h1,z⟩:=g.pk l;exact⟨v,h1,k v F H (.refl g) z⟩
theorem SX.iD(J:SX X c a pa)(N:SX X c b pb):∃L h,PE X a L/\PE X b h/\∀{σ:L2.St}{H F:Hp}{ρ ρ':List Sl}{j:D×D}{R:V->V->Hp->Prop},GS X.K F ρ σ H->iD (isVar pa) (HH.ev c pa) (isVar pb) (HH.ev c pb) ρ=.ok j ρ'->(∀v u w l,aB X.K F ρ σ H w ρ' σ l->dG X.K w l v j.1->dG X.K w l u j.2->R v u l)->L σ H λx z=>h σ z λy A=>R x y A:=by obtain⟨h,m,o⟩:=N.cP;cases hv:isVar pa with|none=>refine⟨_,h,J.ev,m,λ{σ H F ρ ρ' j R}g e k=>?_⟩;obtain⟨x,B,q,e⟩:=aj e;obtain⟨y,C,f,e⟩:=aj e;cases e;obtain⟨r,M,q,E⟩:=aj q;cases E;refine⟨F,ρ,r,_,g,q,λv w l s O=>?_⟩;obtain⟨F1,s1,_,Q⟩:=s.dz O;refine o s1.gs f λu U A s2 G=>?_;exact k v u U A (s1.trans s2) (.inl (Q.mono s2.bQ)) G|some i=>refine⟨_,h,J.var i hv,m,λ{σ H F ρ ρ' j R}g e k=>?_⟩;obtain⟨x0,W,E,e⟩:=aj e;obtain⟨I,Y⟩:=aD E;subst Y;obtain⟨y,B,q,e⟩:=aj e;obtain⟨x,C,f,e⟩:=aj e;cases e;have Z:=aD f;clear f;obtain⟨f,e3⟩:=Z;subst e3;obtain⟨v,h1,_⟩:=g.pk I;refine⟨v,h1,o g q λu F1 z s1 G=>?_⟩;obtain⟨v',t,pv⟩:=s1.gs.pk f;rw[h1]at t;cases t;exact k v u F1 z s1 pv G
inductive rD(K:PySem.W.Frag)(f:D->D->Option R)(x y:V)(H:Hp)(Q:VK):Prop where|mk(F:Hp)(d e:D)(r:R)(sm:aG F H)(px:dG K F H x d)(py:dG K F H y e)(he:f d e=some r)(k:∀v F' H',Ext F H F' H'->cF K F' H' H v r->Q v H')
inductive rD1(K:PySem.W.Frag)(f:D->Option R)(x:V)(H:Hp)(Q:VK):Prop where|mk(F:Hp)(d:D)(r:R)(sm:aG F H)(px:dG K F H x d)(he:f d=some r)(k:∀v F' H',Ext F H F' H'->cF K F' H' H v r->Q v H')
theorem vM{E:dr}{f:D->D->Option R}{q:P}(t:∀{m o},PE X a m->PE X b o->PE X E (Sv (rD X.K f) m o))(y:SX X c a pa)(z:SX X c b pb)(A:∀ρ,HH.ev c q ρ=(HH.iD (isVar pa) (HH.ev c pa) (isVar pb) (HH.ev c pb) ρ).bind λj ρ=>lift (f j.1 j.2) ρ)(B:isVar q=none):SX X c E q:=by obtain⟨m,o,h1,C,G⟩:=y.iD z;refine⟨dR (t h1 C) ?_,λi h=>by rw[B]at h;cases h⟩;rintro σ H Q⟨F,ρ,r,ρ',g,e,k⟩;rw[A]at e;obtain⟨j,I,J,l⟩:=aj e;have L:=aD l;clear l;obtain⟨l,M⟩:=L;subst M;refine G g J λv u N H' s O U=>⟨N,j.1,j.2,r,s.gs.sub,O,U,l,λw W Y x Z=>?_⟩;exact k w W Y (s.trans (x.stp s.gs)) (.later s (Z.pG s.gs))
theorem Ub{E:dr}{f:D->Option R}{q:P}(m:∀{l},PE X a l->PE X E (tUn (rD1 X.K f) l))(o:SX X c a pa)(t:∀ρ,HH.ev c q ρ=(HH.cP (isVar pa) (HH.ev c pa) ρ).bind λx ρ=>lift (f x) ρ)(u:isVar q=none):SX X c E q:=by obtain⟨l,h1,y⟩:=o.cP;refine⟨dR (m h1) ?_,λi h=>by rw[u]at h;cases h⟩;rintro σ H Q⟨F,ρ,r,ρ',g,e,k⟩;rw[t]at e;obtain⟨x,z,A,j⟩:=aj e;have B:=aD j;clear j;obtain⟨j,C⟩:=B;subst C;refine y g A λv G N s I=>⟨G,x,r,s.gs.sub,I,j,λw J L x M=>?_⟩;exact k w J L (s.trans (x.stp s.gs)) (.later s (M.pG s.gs))
theorem GS.freeze{b:Bool}(g:GS K F ρ σ H)(e:ρ[i]?=some (.own b ds)):∃v z,σ[i]?=some (some v)/\aB K F ρ σ H z (ρ.set i (.val b (.lst ds))) σ H/\Rep K z v (.lst ds):=by
 obtain⟨a,xs,h1,C,E,G⟩:=g.lK i _ ds e rfl;have hi:i<ρ.length:=(dJ e).1;have sm:aG F (upd F a (.lst xs)):=aG.cG E;have A:Rep K (upd F a (.lst xs)) (.ref a) (.lst ds):=by rw[Rep];exact⟨a,xs,rfl,eO.of aP,G.mono sm⟩
 have I:Own ρ σ a:=⟨i,⟨_,_,e,rfl⟩,h1⟩;have r:∀j x,bf (ρ.set i (.val b (.lst ds))) σ j x->bf ρ σ j x/\j≠i:=λj x⟨⟨s,h,m,u⟩,y⟩=>by
  by_cases f:j=i;.subst f;rw[bx hi]at m;cases m;cases u
  .rw[fG f]at m;exact⟨⟨⟨s,h,m,u⟩,y⟩,f⟩
 refine⟨.ref a,upd F a (.lst xs),h1,⟨⟨λx o q=>?_,by simpa using g.len,λj J d q=>?_,λj s h q w=>?_,λj k x q w=>g.dis j k x (r j x q).1 (r k x w).1⟩,sm,λx n B=>?_,λ_ _ q _=>q,λx⟨j,q⟩=>.inl ⟨j,(r j x q).1⟩,by simp,λj s q l=>⟨rfl,?_⟩⟩,A⟩
 . by_cases t:x=a;.subst t;rw[aP]at q;cases q;exact C
   .rw[aC t]at q;exact g.sub x o q
 . by_cases f:j=i;.subst f;rw[bx hi]at q;cases q;exact⟨_,h1,A⟩
   .rw[fG f]at q;obtain⟨v,m,u⟩:=g.val j J d q;exact⟨v,m,u.mono sm⟩
 . by_cases f:j=i;.subst f;rw[bx hi]at q;cases q;cases w
   . rw[fG f]at q;obtain⟨x,ys,m,u,y,L⟩:=g.own j s h q w;have t:x≠a:=by rintro rfl;exact f (g.dis j i x ⟨⟨s,h,q,w⟩,m⟩ ⟨⟨_,_,e,rfl⟩,h1⟩)
     exact⟨x,ys,m,u,by rw[aC t];exact y,L.mono sm⟩
 . by_cases t:x=a;.subst t;exact .inl I
   .rw[aC t]at B;exact absurd n B
 . by_cases f:j=i;.subst f;rw[e]at q;cases q;refine⟨_,bx hi,?_⟩;cases b with|true=>exact .inr ⟨_,rfl⟩|false=>cases l
   .exact⟨s,by rw[fG f];exact q,.refl s⟩
theorem GS.BV{m:Dc}(g:GS K F ρ σ H)(e:ρ[i]?=some (.gO m)):∃a,σ[i]?=some (some (.ref a))/\H a=some m.ho/\∀u,aB K F ρ σ H (upd F a (.dz u m.ho)) (ρ.set i (.val false (.eG m))) σ (upd H a (.dz u m.ho))/\Rep K (upd F a (.dz u m.ho)) (.ref a) (.eG m):=by
 obtain⟨a,G,h1,I,J,L⟩:=g.own i _ _ e rfl;cases(show G=m.ho from L);have hi:i<ρ.length:=(dJ e).1;refine⟨a,h1,I,λu=>?_⟩;have sm:aG F (upd F a (.dz u m.ho)):=aG.cG J;have B:Rep K (upd F a (.dz u m.ho)) (.ref a) (.eG m):=by rw[Rep];exact⟨a,u,rfl,aP⟩
 have C:Own ρ σ a:=⟨i,⟨_,_,e,rfl⟩,h1⟩;have w:∀j x,bf (ρ.set i (.val false (.eG m))) σ j x->bf ρ σ j x/\j≠i:=λj x⟨⟨s,r,t,y⟩,A⟩=>by
  by_cases f:j=i;.subst f;rw[bx hi]at t;cases t;cases y
  .rw[fG f]at t;exact⟨⟨⟨s,r,t,y⟩,A⟩,f⟩
 refine⟨⟨⟨λx o q=>?_,by simpa using g.len,λj M d q=>?_,λj s r q z=>?_,λj k x q z=>g.dis j k x (w j x q).1 (w k x z).1⟩,sm,λx n E=>?_,λx o q n=>?_,λx⟨j,q⟩=>.inl ⟨j,(w j x q).1⟩,by simp,λj s q l=>⟨rfl,?_⟩⟩,B⟩
 . by_cases h:x=a;.subst h;rw[aP]at q ⊢;exact q
   .rw[aC h]at q ⊢;exact g.sub x o q
 . by_cases f:j=i;.subst f;rw[bx hi]at q;cases q;exact⟨_,h1,B⟩
   .rw[fG f]at q;obtain⟨v,t,y⟩:=g.val j M d q;exact⟨v,t,y.mono sm⟩
 . by_cases f:j=i;.subst f;rw[bx hi]at q;cases q;cases z
   . rw[fG f]at q;obtain⟨x,ys,t,y,A,N⟩:=g.own j s r q z;have h:x≠a:=by rintro rfl;exact f (g.dis j i x ⟨⟨s,r,q,z⟩,t⟩ ⟨⟨_,_,e,rfl⟩,h1⟩)
     exact⟨x,ys,t,by rw[aC h];exact y,by rw[aC h];exact A,N.mono sm⟩
 . by_cases h:x=a;.subst h;exact .inl C
   .rw[aC h]at E;exact absurd n E
 . have h:x≠a:=by rintro rfl;exact n C
   rw[aC h];exact q
 . by_cases f:j=i;.subst f;rw[e]at q;cases q;cases l
   .exact⟨s,by rw[fG f];exact q,.refl s⟩
theorem GS.Dl{kvs:List (Int×D)}(g:GS K F ρ σ H)(e:ρ[i]?=some (.cQ kvs)):∃a vs,σ[i]?=some (some (.ref a))/\H a=some (Cd (kvs.map (·.1)) vs)/\∀t,aB K F ρ σ H (upd F a (.dz t (Cd (kvs.map (·.1)) vs))) (ρ.set i (.val false (.dv (kvs.map (·.1)) (kvs.map (·.2))))) σ (upd H a (.dz t (Cd (kvs.map (·.1)) vs)))/\Rep K (upd F a (.dz t (Cd (kvs.map (·.1)) vs))) (.ref a) (.dv (kvs.map (·.1)) (kvs.map (·.2))):=by
 obtain⟨a,N,h1,E,G,I⟩:=g.own i _ _ e rfl;obtain⟨vs,rfl,J⟩:=I;have hi:i<ρ.length:=(dJ e).1;refine⟨a,vs,h1,E,λt=>?_⟩;have sm:aG F (upd F a (.dz t (Cd (kvs.map (·.1)) vs))):=aG.cG G;have A:Rep K (upd F a (.dz t (Cd (kvs.map (·.1)) vs))) (.ref a) (.dv (kvs.map (·.1)) (kvs.map (·.2))):=by rw[Rep];exact⟨a,t,vs,rfl,aP,J.mono sm,by simp⟩
 have B:Own ρ σ a:=⟨i,⟨_,_,e,rfl⟩,h1⟩;have u:∀j x,bf (ρ.set i (.val false (.dv (kvs.map (·.1)) (kvs.map (·.2))))) σ j x->bf ρ σ j x/\j≠i:=λj x⟨⟨s,m,r,w⟩,z⟩=>by
  by_cases f:j=i;.subst f;rw[bx hi]at r;cases r;cases w
  .rw[fG f]at r;exact⟨⟨⟨s,m,r,w⟩,z⟩,f⟩
 refine⟨⟨⟨λx o q=>?_,by simpa using g.len,λj L d q=>?_,λj s m q y=>?_,λj k x q y=>g.dis j k x (u j x q).1 (u k x y).1⟩,sm,λx n C=>?_,λx o q n=>?_,λx⟨j,q⟩=>.inl ⟨j,(u j x q).1⟩,by simp,λj s q l=>⟨rfl,?_⟩⟩,A⟩
 . by_cases h:x=a;.subst h;rw[aP]at q ⊢;exact q
   .rw[aC h]at q ⊢;exact g.sub x o q
 . by_cases f:j=i;.subst f;rw[bx hi]at q;cases q;exact⟨_,h1,A⟩
   .rw[fG f]at q;obtain⟨v,r,w⟩:=g.val j L d q;exact⟨v,r,w.mono sm⟩
 . by_cases f:j=i;.subst f;rw[bx hi]at q;cases q;cases y
   . rw[fG f]at q;obtain⟨x,ys,r,w,z,M⟩:=g.own j s m q y;have h:x≠a:=by rintro rfl;exact f (g.dis j i x ⟨⟨s,m,q,y⟩,r⟩ ⟨⟨_,_,e,rfl⟩,h1⟩)
     exact⟨x,ys,r,by rw[aC h];exact w,by rw[aC h];exact z,M.mono sm⟩
 . by_cases h:x=a;.subst h;exact .inl B
   .rw[aC h]at C;exact absurd n C
 . have h:x≠a:=by rintro rfl;exact n B
   rw[aC h];exact q
 . by_cases f:j=i;.subst f;rw[e]at q;cases q;cases l
   .exact⟨s,by rw[fG f];exact q,.refl s⟩
theorem Inv.HY{X:Cx}{f:List (bd×Obj)}{s:a_}{a:bd}{kvs:List (Key×V)}(I:L2.Inv X f σ H s)(h:H a=some (.dK kvs)):∃o,L2.Inv X f σ (upd H a (.dz o (.dK kvs))) s:=by obtain⟨hz,j,vs,r,g⟩:=(show bJ X.prog X.w H s.heap a (.dK kvs)from I.hok a _ h);obtain⟨o,ho,_⟩:=g.typeIs;exact⟨o,I.write (h':=s.heap) (t':=s.toks) (by rw[h];exact trivial) (.inl rfl) (λb u _ e=>e) ⟨o,ho⟩ ⟨ho,hz,j,vs,r,g⟩⟩
theorem Tn(z:X.N[i]?=some x)(A:v9 X.env.scope x)(hd:(x==("__debug__":Str))=false:=by decide)(t:(x==("__classdict__":Str))=false:=by decide):SX X c (.Name x pos) (.var i):=by
 have h:=fC (X:=X) (pos:=pos) z A hd t;refine⟨?_,λj B=>by cases B;exact h⟩;rintro f s σ H Q I⟨F,ρ,r,ρ',g,e,k⟩;rw[HH.E1]at e;split at e;.rename_i b d q;cases e;obtain⟨v,h1,l⟩:=g.val i b d q;exact h f s σ H Q I ⟨v,h1,k v F H (.refl g) l⟩
 .rename_i b ds q;cases e;obtain⟨v,C,h1,l,m⟩:=g.freeze q;exact h f s σ H Q I ⟨v,h1,k v C H l m⟩
 .rename_i kvs q;cases e;obtain⟨a,h1,l,m⟩:=g.BV q;refine bY (h f s σ H (λv w=>v=.ref a/\w=H) I ⟨.ref a,h1,rfl,rfl⟩) λu s1⟨v,H1,I1,r1,e1,e2⟩=>?_;subst e1 e2;obtain⟨o,y⟩:=Inv.HY I1 l;exact⟨.ref a,_,y,r1,k _ _ _ (m o).1 (m o).2⟩
 .rename_i kvs q;cases e;obtain⟨a,vs,h1,l,m⟩:=g.Dl q;refine bY (h f s σ H (λv w=>v=.ref a/\w=H) I ⟨.ref a,h1,rfl,rfl⟩) λu s1⟨v,H1,I1,r1,e1,e2⟩=>?_;subst e1 e2;obtain⟨o,y⟩:=Inv.HY I1 l;exact⟨.ref a,_,y,r1,k _ _ _ (m o).1 (m o).2⟩
 .cases e
theorem yN{d:D}(h:PE X e (tC v))(hr:∀F,Rep X.K F v d):SX X c e (.con d):=⟨dR h λσ H Q⟨F,ρ,r,ρ',g,e,k⟩=>by rw[HH.E2]at e;cases e;exact k v F H (.refl g) (hr F),λi h=>by cases h⟩
theorem aa{i j}:SX X c (.Constant (.int i) j pos) (.con (.int i)):=yN qW λF=>by rw[Rep]
theorem qw{i j}:SX X c (.Constant (.bool i) j pos) (.con (.bl i)):=yN XR λF=>by rw[Rep]
theorem G9{j}:SX X c (.Constant .none j pos) (.con .non):=yN Um λF=>by rw[Rep]
theorem iH{i:Int}{t:Tok}(f:Gl X x)(j:X.mg x=some (.int i t))(hd:(x==("__debug__":Str))=false:=by decide):SX X c (.Name x pos) (.glob x (.int i)):=⟨dR (NP (v:=.int i) f j ⟨t,rfl⟩ hd) λσ H Q⟨F,ρ,r,ρ',g,e,k⟩=>by rw[HH.E3]at e;cases e;exact k (.int i) F H (.refl g) (show Rep X.K F (.int i) (.int i)by rw[Rep]),λi h=>by cases h⟩
theorem dG.int{K:PySem.W.Frag}{F H:Hp}{v:V}{i:Int}(h:dG K F H v (.int i)):v=.int i:=by
 rcases h with h|⟨_,_,_,_,_,_,h⟩;.rw[Rep]at h;exact h
 .cases h
theorem dG.bl{K:PySem.W.Frag}{F H:Hp}{v:V}{i:Bool}(h:dG K F H v (.bl i)):v=.bl i:=by
 rcases h with h|⟨_,_,_,_,_,_,h⟩;.rw[Rep]at h;exact h
 .cases h
theorem dG.str{K:PySem.W.Frag}{F H:Hp}{v:V}{i:Str}(h:dG K F H v (.str i)):v=.str i:=by
 rcases h with h|⟨_,_,_,_,_,_,h⟩;.rw[Rep]at h;exact h
 .cases h
theorem dG.non{K:PySem.W.Frag}{F H:Hp}{v:V}(h:dG K F H v .non):v=.non:=by
 rcases h with h|⟨_,_,_,_,_,_,h⟩;.rw[Rep]at h;exact h
 .cases h
theorem dG.tup{K:PySem.W.Frag}{F H:Hp}{v:V}{ds:List D}(s:aG F H)(h:dG K F H v (.tup ds)):∃a xs,v=.ref a/\iM K H a xs/\aH K F xs ds/\Rep K F v (.tup ds):=by
 rcases h with h|⟨_,_,_,_,_,_,h⟩;.have h':=h;rw[Rep]at h;obtain⟨a,xs,rfl,h1,f⟩:=h;exact⟨a,xs,rfl,aG.gD s h1,f,h'⟩
 .cases h
theorem dG.lst{K:PySem.W.Frag}{F H:Hp}{v:V}{ds:List D}(s:aG F H)(h:dG K F H v (.lst ds)):∃a xs,v=.ref a/\eO K H a xs/\aH K F xs ds:=by
 rcases h with h|⟨a,xs,es,h1,f,g,h⟩;.rw[Rep]at h;obtain⟨a,xs,rfl,h1,f⟩:=h;exact⟨a,xs,rfl,s.seq h1,f⟩
 .cases h;exact⟨a,xs,h1,eO.of f,g⟩
theorem dG.eG{m:Dc}(s:aG F H)(h:dG K F H v (.eG m)):∃a o,v=.ref a/\H a=some (.dz o m.ho):=by
 rcases h with h|⟨_,_,_,_,_,_,h⟩;.rw[Rep]at h;obtain⟨a,o,rfl,h⟩:=h;exact⟨a,o,rfl,s _ _ h⟩
 .cases h
theorem IV{X:Cx}{f:List (bd×Obj)}{s:a_}{a:bd}{g:Obj}{m:Dc}(I:L2.Inv X f σ H s)(h:H a=some (.dz g m.ho)):∃o,s.heap.get? a=some o/\o.cls=.type "dict":=by have z:=(show bJ X.prog X.w H s.heap a (.dz g m.ho)from I.hok a _ h).2;cases m with|k kvs=>obtain⟨_,_,vs,_,d2⟩:=(show bJ X.prog X.w H s.heap a (.dK _)from z);exact d2.typeIs|t kvs=>obtain⟨_,_,xs,_,o,es,ep,h1,j,_⟩:=(show bJ X.prog X.w H s.heap a (.dT _)from z);exact⟨o,h1,j.1⟩
theorem dG.dv{ks:List Int}(s:aG F H)(h:dG K F H v (.dv ks ds)):∃a o vs,v=.ref a/\H a=some (.dz o (Cd ks vs))/\aH K F vs ds/\ks.length=ds.length:=by
 rcases h with h|⟨_,_,_,_,_,_,h⟩;.rw[Rep]at h;obtain⟨a,o,vs,rfl,h,h1,f⟩:=h;exact⟨a,o,vs,rfl,s _ _ h,h1,f⟩
 .cases h
theorem Ik{X:Cx}{f:List (bd×Obj)}{s:a_}{a:bd}{g:Obj}{ks:List Int}(I:L2.Inv X f σ H s)(h:H a=some (.dz g (Cd ks vs))):∃o,s.heap.get? a=some o/\o.cls=.type "dict":=by have z:=(show bJ X.prog X.w H s.heap a (.dz g (Cd ks vs))from I.hok a _ h).2;obtain⟨_,_,vs,_,d2⟩:=(show bJ X.prog X.w H s.heap a (.dK _)from z);exact d2.typeIs
theorem dG.items{d:D}(s:aG F H)(h:dG K F H v d)(e:items d=some ds):∃a xs,v=.ref a/\(eO K H a xs\/iM K H a xs)/\aH K F xs ds:=by cases d with|tup es=>cases e;obtain⟨a,xs,h1,f,g,_⟩:=h.tup s;exact⟨a,xs,h1,.inr f,g⟩|lst es=>cases e;obtain⟨a,xs,h1,f,g⟩:=h.lst s;exact⟨a,xs,h1,.inl f,g⟩|_=>cases e
theorem cF.dm{Q:VK}{d:D}(s:aG F H)(r:Rep K F v d)(k:∀v g f,Ext F H g f->cF K g f H v (.val d)->Q v f):Q v H:=k v F H (.refl s) r
theorem bO(i:Int):Rep K F (.int i) (.int i):=by rw[Rep]
theorem fU(i:Bool):Rep K F (.bl i) (.bl i):=by rw[Rep]
theorem UT(i:Str):Rep K F (.str i) (.str i):=by rw[Rep]
theorem Sh:Rep K F .non .non:=by rw[Rep]
theorem zP{Q:VK}{xs:List V}{p:bd}(s:aG F H)(r:aH K F xs ds)(f:H p=none)(k:∀v h g,Ext F H h g->cF K h g H v (.own ds)->Q v g):Q (.ref p) (upd H p (.lst xs)):=by
 have j:F p=none:=by cases q:F p with|none=>rfl|some o=>rw[s p o q]at f;cases f
 exact k _ F _ ⟨aG.cG f,.refl _,s.trans (aG.cG f),λ_ a b=>absurd a b⟩ ⟨p,xs,rfl,aP,j,r,f⟩
theorem zu{Q:VK}{xs:List V}{p:bd}(s:aG F H)(r:aH K F xs ds)(g:H p=none)(k:∀v j h,Ext F H j h->cF K j h H v (.val (.tup ds))->Q v h):Q (.ref p) (upd H p (.tup xs)):=by
 have m:F p=none:=by cases q:F p with|none=>rfl|some o=>rw[s p o q]at g;cases g
 have sm:aG F (upd F p (.tup xs)):=aG.cG m;refine k _ (upd F p (.tup xs)) _ ⟨aG.cG g,sm,λb o e=>?_,λb n l=>?_⟩ ?_
 . by_cases f:b=p;.subst f;rw[aP]at e ⊢;exact e
   .rw[aC f]at e ⊢;exact s b o e
 . by_cases f:b=p;.subst f;exact kh g
   .rw[aC f]at l;exact absurd n l
 .show Rep K _ _ (.tup ds);rw[Rep];exact⟨p,xs,rfl,iM.of aP,r.mono sm⟩
end
theorem sY(k:Int)(t:Tok)(l:bd)(a:Array aX)(n:Nat)(b:Option bd)(sl:Array (Option aX)):mw (im.«int.__rmul__» ⟨[.int k t,.ref l],[]⟩) (λ_ R s=>s.heap.get? l=some ⟨.type "list",b,.seq a n,sl⟩/\R (.ok (.ret kC)) s):=.of_wp λprog w A R s h=>by obtain⟨c,g,d,e,os⟩:=s;obtain⟨f,h⟩:=h;wp_walk;exact⟨_,rfl,h⟩
theorem Ef(l:bd)(a:Array aX)(n:Nat)(b:Option bd)(sl:Array (Option aX))(k:Int)(t:Tok)(h0:¬(!Builtin.List.listFitsIndex k)=true)(h1:¬a.size*k.toNat>(2^63-1)/8)(c:¬m2 (a.size*k.toNat)=true):mw (im.«list.__mul__» ⟨[.ref l,.int k t],[]⟩) (λ_ R s=>s.heap.get? l=some ⟨.type "list",b,.seq a n,sl⟩/\R (.ok (.ret (dY s.heap.objs.size))) {s with heap:=s.heap.push {cls:=.type "list",data:=.seq (qk (·++·) #[] (b_ (if a.isEmpty=true then 0 else k.toNat) a))}}):=.of_wp λprog w A R s h=>by obtain⟨f,g,d,j,os⟩:=s;obtain⟨e,h⟩:=h;have hz:=AutoListH.joined_fits c;wp_walk using fS e;refine wpAny_ite_false (decide_eq_false (Nat.not_lt.mpr hz)) ?_;wp_walk;exact⟨_,rfl,h⟩
section
variable{X:Cx}{c:Call}{e a b d:dr}{p pa pb pd:P}{pos:Pos}
theorem Ol:fX X (fw .Add) (λx y H Q=>∃l b xs o,x=.ref l/\y=.ref b/\eO X.K H l xs/\eO X.K H b o/\xs.length+o.length<=sizeLine/\∀p,H p=none->Q (.ref p) (upd H p (.lst (xs++o)))):=by
 intro z s σ H x y v u Q I C E h;obtain⟨l,b,xs,o,rfl,rfl,G,J,hz,q⟩:=h;cases C;cases E;obtain⟨g,r,L,_⟩:=I.list G;obtain⟨f,A,M,_⟩:=I.list J;obtain⟨⟨cls,N,data,sl⟩,ho,hc,n,hd⟩:=id L.isList;obtain⟨⟨B,t,data2,w⟩,j,k,O,m⟩:=id M.isList;simp only at hc hd k m;subst hc hd k m;have e:g.toArray++f.toArray=(g++f).toArray:=by simp
 refine mu ⟨_,ho,rfl⟩ ⟨_,j,rfl⟩ noFill_list_add seq_list_add PySem.F.slot_list_add PySem.F.entry_list_add (PySem.F.args_list_add_2 _ _) (list_addW l b g.toArray f.toArray n O N t sl w (by simp only[cx];rw[<-r.length,<-A.length];exact hz)) ⟨ho,j,?_⟩;rw[e];exact⟨.ref _,_,I.Rx (t':=s.toks) (r.append A) (by rw[dZ];exact hz),rfl,q _ I.fresh⟩
theorem Hn:fX X (fw .Add) (λx y H Q=>∃a b ys,x=.ref a/\y=.ref b/\iM X.K H a []/\iM X.K H b ys/\Q (.ref b) H):=by intro r s σ H x y v u Q I w z h;obtain⟨a,b,ys,rfl,rfl,A,B,q⟩:=h;cases w;cases z;obtain⟨l,r1,p1,_⟩:=I.tuple A;obtain⟨f,J,p2,_⟩:=I.tuple B;obtain⟨⟨cls,C,data,sl⟩,ho,hc,n,hd⟩:=id p1;obtain⟨⟨t,m,data2,o⟩,g,j,E,k⟩:=id p2;simp only at hc hd j k;subst hc hd j k;have G:l=[]:=r1.pQ.mpr rfl;subst G;exact mu ⟨_,ho,rfl⟩ ⟨_,g,rfl⟩ mM ot slot_tuple_add entry_tuple_add (args_tuple_add_2 _ _) (tuple_addW0 a b _ f.toArray n E C m sl o (by simp)) ⟨ho,g,⟨.ref b,H,I,rfl,q⟩⟩
theorem aF:fX X (fw .Add) (rD X.K (sX .add)):=by
 rintro f s σ H x y v u Q I g h⟨F,d,e,r,sm,o,q,he,k⟩;replace he:rG d e=some r:=he;unfold rG at he;split at he;.cases he;rw[o.int]at g;rw[q.int]at h;exact Uk f s σ H _ _ v u Q I g h ⟨_,_,rfl,rfl,cF.dm sm (bO _) k⟩
 .rename_i xs ys;obtain⟨m,he⟩:=bC he;subst he;obtain⟨a,vs,rfl,t,j⟩:=o.lst sm;obtain⟨b,w,rfl,z,l⟩:=q.lst sm;exact Ol f s σ H _ _ v u Q I g h ⟨a,b,vs,w,rfl,rfl,t,z,by rw[j.length,l.length];exact m,λp A=>zP sm (j.append l) A k⟩
 . rename_i xs ys;obtain⟨m,he⟩:=bC he;subst he;obtain⟨a,vs,rfl,t,j,C⟩:=o.tup sm;obtain⟨b,w,rfl,z,l,E⟩:=q.tup sm;by_cases h0:vs=[]
   . subst h0;have B:xs=[]:=by have:=j.length;exact gE this.symm
     subst B;exact Hn f s σ H _ _ v u Q I g h ⟨a,b,w,rfl,rfl,t,z,cF.dm sm E k⟩
   . refine Og f s σ H _ _ v u Q I g h ⟨a,b,vs,w,rfl,rfl,t,z,h0,by rw[j.length,l.length];exact m,λe=>?_,λ_ p A=>zu sm (j.append l) A k⟩;subst e;have B:ys=[]:=by have:=l.length;exact gE this.symm
     subst B;rw[fE]at k;exact cF.dm sm C k
 .rename_i G J;obtain⟨m,he⟩:=bC he;subst he;rw[o.str]at g;rw[q.str]at h;exact yZ f s σ H _ _ v u Q I g h ⟨_,_,rfl,rfl,m,cF.dm sm (UT _) k⟩
 .cases he
theorem bV:fX X (fw .Sub) (rD X.K (sX .sub)):=by
 rintro f s σ H x y v u Q I g h⟨F,d,e,r,sm,j,l,he,k⟩;replace he:wH d e=some r:=he;unfold wH at he;split at he;.cases he;rw[j.int]at g;rw[l.int]at h;exact Q9 f s σ H _ _ v u Q I g h ⟨_,_,rfl,rfl,cF.dm sm (bO _) k⟩
 .cases he
theorem Mt:fX X (fw .Mult) (λx y H Q=>∃l k xs,x=.ref l/\y=.int k/\eO X.K H l xs/\-(2^63)<=k/\k<2^63/\xs.length*k.toNat<=sizeLine/\∀p,H p=none->Q (.ref p) (upd H p (.lst (b_ k.toNat xs).flatten))):=by
 intro w s σ H x y v u Q I A B h;obtain⟨l,k,xs,rfl,rfl,C,h1,E,hz,q⟩:=h;cases A;obtain⟨t,rfl⟩:=B;obtain⟨f,r,G,_⟩:=I.list C;obtain⟨⟨cls,z,data,sl⟩,ho,hc,n,hd⟩:=id G.isList;simp only at hc hd;subst hc hd;have g:f.toArray.size*k.toNat<=sizeLine:=by rw[cx,<-r.length];exact hz
 have o:¬ f.toArray.size*k.toNat>(2^63-1)/8:=by
  have:(sizeLine:Nat)<=(2^63-1)/8:=by decide
  omega
 have j:qk (·++·) #[] (b_ (if f.toArray.isEmpty=true then 0 else k.toNat) f.toArray)=(b_ k.toNat f).flatten.toArray:=by
  have f0:∀m:Nat,qk (·++·) #[] (b_ m f.toArray)=(b_ m f).flatten.toArray:=λm=>by have:=foldl_rep f m [];rw[nz]at this;exact this
  rw[f0];cases f with|nil=>simp|cons a L=>rw[if_neg (by simp)]
 refine og (T:="list") (U:="int") (by decide) ⟨_,ho,rfl⟩ (λJ=>l7 J k t) noFill_list_mul F.fills_int_mul F.slot_int_rmul repeat_list F.slot_int_index.lookup ?_;refine kP F.slot_int_rmul (l7 s k t) F.entry_int_rmul (F.args_int_rmul_2 _ _) (sY k t l f.toArray n z sl) ⟨ho,rfl,⟨_,ho,rfl⟩,?_⟩;refine kP F.slot_list_mul ⟨_,ho,rfl⟩ F.entry_list_mul (F.args_list_mul_2 _ _) (Ef l f.toArray n z sl k t (by rw[fitsIndex_both h1 E];exact dQ) o (by rw[wy g];exact dQ)) ⟨ho,?_⟩;rw[j];exact⟨.ref _,_,I.Rx (t':=s.toks) (r.rep k.toNat) (by rw[len_rep,nN];exact hz),rfl,q _ I.fresh⟩
theorem nZ:fillsNumberSlot (.type "tuple") "mul"=eT false:=PySem.fillsNumberSlot_seq (id:="tuple.__mul__") (r:=some (.builtin "tuple.__rmul__")) slot_tuple_mul.lookup (by decide+kernel) PySem.F.slot_tuple_rmul.lookup (by decide+kernel)
theorem uW:seqRepeat? (.type "tuple")=eT (some (.builtin "tuple.__mul__")):=by unfold seqRepeat?;rw[PySem.seqSlot_of (T:="tuple") (name:="__mul__") (id:="tuple.__mul__") slot_tuple_mul.lookup (by decide+kernel),PySem.seqSlot_of (T:="tuple") (name:="__rmul__") (id:="tuple.__rmul__") PySem.F.slot_tuple_rmul.lookup (by decide+kernel)];rfl
theorem qI(k:Int)(t:Tok)(l:bd)(f:Array aX)(n:Nat)(j:Option bd)(sl:Array (Option aX)):mw (im.«int.__rmul__» ⟨[.int k t,.ref l],[]⟩) (λ_ R s=>s.heap.get? l=some ⟨.type "tuple",j,.seq f n,sl⟩/\R (.ok (.ret kC)) s):=.of_wp λprog w A R s h=>by obtain⟨m,g,d,o,os⟩:=s;obtain⟨q,h⟩:=h;wp_walk;exact⟨_,rfl,h⟩
theorem zV(l:bd)(f:Array aX)(n:Nat)(r:Option bd)(sl:Array (Option aX))(k:Int)(t:Tok)(h0:0<=k)(h1:k<2^63)(hz:f.size*k.toNat<=sizeLine)(u:0<f.size):mw (im.«tuple.__mul__» ⟨[.ref l,.int k t],[]⟩) (λ_ R s=>s.heap.get? l=some ⟨.type "tuple",r,.seq f n,sl⟩/\(k=1->R (.ok (.ret (dY l))) s)/\(k≠1->R (.ok (.ret (dY s.heap.objs.size))) {s with heap:=s.heap.push {cls:=.type "tuple",data:=.seq (qk (·++·) #[] (b_ k.toNat f))}})):=.of_wp λprog w A R s h=>by
  obtain⟨y,g,d,I,os⟩:=s;obtain⟨o,z,B⟩:=h;have j:f.isEmpty=false:=by cases e:f.isEmpty with|false=>rfl|true=>rw[Array.isEmpty_iff_size_eq_zero]at e;omega
  show cy _ _ (asIndex (.int k t)>>=_) _ _ _;wp_walk using fS o;have C:oI y l f:=⟨_,o,rfl,n,rfl⟩;rw[if_neg (by simp;omega)];refine av (PyProof.Rows.tupleItemsOf_ C ?_);try dsimp only
  by_cases m:k=1;.rw[if_pos (by simp[m])];wp_walk using fS o;exact⟨_,rfl,z m⟩
  . have q:=B m;rw[if_neg (by simp[j,m])];by_cases E:k=0;.subst E;rw[if_pos (by simp)];unfold i6;refine av (ew ?_);exact cr ⟨_,rfl,q⟩
    . have J:(f.size:Int)*k<=sizeLine:=by
       have:((f.size*k.toNat:Nat):Int)<=(sizeLine:Nat):=by exact_mod_cast hz
       rw[Int.natCast_mul,show((k.toNat:Nat):Int)=k by omega]at this;exact this
      have G:(sizeLine:Int)<=(2^63-1)/8:=by decide
      rw[if_neg (by simp[j];omega),if_neg (by omega),if_neg (by simp[Builtin.Tuple.tupleTooMany];omega)];unfold i6;refine av (ew ?_ ?_);.exact cr ⟨_,rfl,q⟩
      .have:=foldl_rep f.toList k.toNat [];rw[nz,show f.toList.toArray=f by simp]at this;show(qk (·++·) #[] (b_ k.toNat f)).size<=sizeLine;rw[show(#[]:Array aX)=([]:List aX).toArray from rfl,this,cx,len_rep,i_,nN];exact hz
theorem Oh:fX X (fw .Mult) (λx y H Q=>∃l k xs,x=.ref l/\y=.int k/\iM X.K H l xs/\0<xs.length/\0<=k/\k<2^63/\xs.length*k.toNat<=sizeLine/\(k=1->Q (.ref l) H)/\(k≠1->∀p,H p=none->Q (.ref p) (upd H p (.tup (b_ k.toNat xs).flatten)))):=by
 intro w s σ H x y v u Q I A B h;obtain⟨l,k,xs,rfl,rfl,C,m,h1,E,hz,G,J⟩:=h;cases A;obtain⟨t,rfl⟩:=B;obtain⟨f,r,L,_⟩:=I.tuple C;obtain⟨⟨cls,z,data,sl⟩,ho,hc,n,hd⟩:=id L;simp only at hc hd;subst hc hd;have g:f.toArray.size*k.toNat<=sizeLine:=by rw[cx,<-r.length];exact hz
 have j:qk (·++·) #[] (b_ k.toNat f.toArray)=(b_ k.toNat f).flatten.toArray:=by have:=foldl_rep f k.toNat [];rw[nz]at this;exact this
 refine og (T:="tuple") (U:="int") (by decide) ⟨_,ho,rfl⟩ (λM=>l7 M k t) nZ F.fills_int_mul F.slot_int_rmul uW F.slot_int_index.lookup ?_;refine kP F.slot_int_rmul (l7 s k t) F.entry_int_rmul (F.args_int_rmul_2 _ _) (qI k t l f.toArray n z sl) ⟨ho,rfl,⟨_,ho,rfl⟩,?_⟩;refine kP slot_tuple_mul ⟨_,ho,rfl⟩ PySem.F.entry_tuple_mul (PySem.F.args_tuple_mul_2 _ _) (zV l f.toArray n z sl k t h1 E g (by rw[cx,<-r.length];exact m)) ⟨ho,λe=>⟨.ref l,H,I,rfl,G e⟩,λe=>?_⟩;rw[j];refine⟨.ref s.heap.objs.size,_,I.laid (t':=s.toks) (o:=.tup (b_ k.toNat xs).flatten) (λb N q=>dM q) (dw) ?_,rfl,J e _ (I.hok.fresh (dw))⟩;exact⟨by rw[len_rep,nN];exact hz,_,r.rep k.toNat,kG _ _⟩
theorem cC:fX X (fw .Mult) (rD X.K (sX .mul)):=by
 rintro f s σ H x y v u Q I l g⟨F,d,e,r,sm,o,q,he,k⟩;replace he:mY d e=some r:=he;unfold mY at he;split at he;.obtain⟨hc,he⟩:=bC he;subst he;rw[o.int]at l;rw[q.int]at g;exact TY f s σ H _ _ v u Q I l g ⟨_,_,rfl,rfl,hc,cF.dm sm (bO _) k⟩
 . rename_i xs i;obtain⟨⟨h1,m,j⟩,he⟩:=bC he;subst he;obtain⟨a,vs,rfl,t,h⟩:=o.lst sm;rw[q.int]at g;have w:i<2^63:=by have z:=nV i.toNat m;have B:i.toNat<=16777216:=h_ z j;omega
   exact Mt f s σ H _ _ v u Q I l g ⟨a,i,vs,rfl,rfl,t,by omega,w,by rw[h.length];exact j,λp A=>zP sm (h.rep i.toNat) A k⟩
 . rename_i xs i;obtain⟨⟨h1,m,j⟩,he⟩:=bC he;subst he;obtain⟨a,vs,rfl,t,h,C⟩:=o.tup sm;rw[q.int]at g;have w:i<2^63:=by have z:=nV i.toNat m;have B:i.toNat<=16777216:=h_ z j;omega
   refine Oh f s σ H _ _ v u Q I l g ⟨a,i,vs,rfl,rfl,t,by rw[h.length];exact m,h1,w,by rw[h.length];exact j,λe=>?_,λe p A=>zu sm (h.rep i.toNat) A k⟩;subst e;refine cF.dm sm ?_ k;have E:(b_ (1:Int).toNat xs).flatten=xs:=by simp
   rw[E];exact C
 .cases he
theorem xx:fX X (fw .FloorDiv) (rD X.K (sX .fdiv)):=by
 rintro f s σ H x y v u Q I g h⟨F,d,e,r,sm,l,m,he,k⟩;replace he:qD d e=some r:=he;unfold qD at he;split at he
 . rename_i i j;obtain⟨⟨h1,q⟩,he⟩:=bC he;subst he;rw[l.int]at g;rw[m.int]at h;obtain⟨t,rfl⟩:=g;obtain⟨t',rfl⟩:=h;have o:j.natAbs.log2<9000:=by
    have:j.natAbs<2^200:=by
     have:(2:Nat)^200=1606938044258990275541962092341162602522202993782792835301376:=by decide
     omega
    have w:=(Nat.log2_lt (by omega)).mpr this;omega
   exact floordiv_int (by omega) (by rw[Int.fdiv_eq_ediv_of_nonneg i (by omega)];exact⟨.int _,H,I.tok _,⟨_,rfl⟩,cF.dm sm (bO _) k⟩) (.inl (PyProof.noPylong_of_log2 o))
 .cases he
theorem dH:fX X (fw .Mod) (rD X.K (sX .mod)):=by
 rintro f s σ H x y v u Q I g h⟨F,d,e,r,sm,j,l,he,k⟩;replace he:yd d e=some r:=he;unfold yd at he;split at he;.obtain⟨h1,he⟩:=bC he;subst he;rw[j.int]at g;rw[l.int]at h;exact R6 f s σ H _ _ v u Q I g h ⟨_,_,rfl,rfl,h1,cF.dm sm (bO _) k⟩
 .cases he
theorem fW:fX X (fw .Pow) (rD X.K (sX .pow)):=by
 rintro f s σ H x y v u Q I g h⟨F,d,e,r,sm,j,l,he,k⟩;replace he:ye d e=some r:=he;unfold ye at he;split at he;.obtain⟨⟨h1,o,m⟩,he⟩:=bC he;subst he;rw[j.int]at g;rw[l.int]at h;exact Sg f s σ H _ _ v u Q I g h ⟨_,_,rfl,rfl,⟨h1,by omega,m⟩,cF.dm sm (bO _) k⟩
 .cases he
theorem ao{o:Op}{op:lh}(ho:fX X (fw op) (rD X.K (sX o)))(f:SX X c a pa)(g:SX X c b pb):SX X c (.BinOp a op b pos) (.bin o pa pb):=vM (λh1 h=>Yy ho h1 h) f g (λρ=>rfl) rfl
theorem Af(j:SX X c a pa):SX X c (.UnaryOp .USub a pos) (.neg pa):=by refine Ub (f:=Gu) (λh1=>Zm ?_ h1) j (λρ=>rfl) rfl;rintro g s σ H x v Q I h⟨F,d,r,sm,l,he,k⟩;unfold Gu at he;obtain⟨i,m,o⟩:=map_some he;subst o;cases d<;>cases m;rw[l.int]at h;exact Ri g s σ H _ v Q I h ⟨_,rfl,cF.dm sm (bO _) k⟩
theorem Cr{f:Int->Int->Bool}(ho:fX X (eg op) (K3 λi j=>.bl (f i j))):fX X (eg op) (rD X.K λx y=>(KQ f x y).map λk=>.val (.bl k)):=by
 rintro g s σ H x y v u Q I l m⟨F,d,e,r,sm,o,q,he,k⟩;obtain⟨t,h,w⟩:=map_some (show(KQ f d e).map _=some r from he);subst w;unfold KQ at h;split at h;.cases h;rw[o.int]at l;rw[q.int]at m;exact ho g s σ H _ _ v u Q I l m ⟨_,_,rfl,rfl,cF.dm sm (fU _) k⟩
 .cases h
theorem Ai{f:Int->Int->Bool}(ho:fX X (eg op) (K3 λi j=>.bl (f i j))){o:Cm}(hc:cm o=KQ f):fX X (eg op) (rD X.K (rQ o)):=by
 have e:rQ o=λx y=>(KQ f x y).map λk=>.val (.bl k):=by funext x y;unfold rQ;rw[hc]
 rw[e];exact Cr ho
theorem Sy:fX X (eg .Lt) (rD X.K λx y=>(KQ (λi j=>decide (i<j)) x y).map λk=>.val (.bl k)):=Cr Ze
theorem nQ:fX X (eg .LtE) (rD X.K (rQ .le)):=Ai Zk rfl
theorem jO:fX X (eg .Gt) (rD X.K (rQ .gt)):=Ai Yp rfl
theorem Sd:fX X (eg .GtE) (rD X.K (rQ .ge)):=Ai Yt rfl
theorem Ex{d:D}(h:dG K F H v d):decide (v=.non)=jz d:=by cases d with
 |non=>rw[h.non];rfl|bl _=>rw[h.bl];rfl|int _=>rw[h.int];rfl|str _=>rw[h.str];rfl|tup _=>
   rcases h with h|⟨a,_,_,rfl,_⟩;.rw[Rep]at h;obtain⟨a,_,rfl,_⟩:=h;rfl
   .rfl|lst _=>
   rcases h with h|⟨a,_,_,rfl,_⟩;.rw[Rep]at h;obtain⟨a,_,rfl,_⟩:=h;rfl
   .rfl|eG _=>
   rcases h with h|⟨a,_,_,rfl,_⟩;.rw[Rep]at h;obtain⟨a,_,rfl,_⟩:=h;rfl
   .rfl|dv _ _=>
   rcases h with h|⟨a,_,_,rfl,_⟩;.rw[Rep]at h;obtain⟨a,_,_,rfl,_⟩:=h;rfl
   .rfl
theorem M3:fX X (eg .IsNot) (rD X.K (rQ .OJ)):=by
 rintro f s σ H x y v u Q I h j⟨F,d,e,r,sm,l,m,he,k⟩;obtain⟨t,g,o⟩:=map_some (show(cmN true d e).map _=some r from he);subst o;unfold cmN at g;split at g;.cases g;exact Np f s σ H x y v u Q I h j ⟨m.non,by rw[Ex l];exact cF.dm sm (fU _) k⟩
 .cases g
theorem lH{o:Cm}(ho:fX X (eg op) (rD X.K (rQ o)))(f:SX X c a pa)(g:SX X c b pb)(h:gc op b=false):SX X c (.Compare a [op] [b] pos) (.cmp o pa pb):=vM (λh1 j=>Ml ho h1 j h) f g (λρ=>rfl) rfl
theorem wL{o E:Cm}{l:n_}(ho:fX X (eg op) (rD X.K (rQ o)))(A:fX X (eg l) (rD X.K (rQ E)))(G:SX X c a pa)(I:SX X c b pb)(hd:SX X c d pd)(J:lastMarks [op,l] [b,d]=false:=by with_unfolding_all rfl):SX X c (.Compare a [op,l] [b,d] pos) (.chain o E pa pb pd):=by
 obtain⟨ta,tb,h1,L,M⟩:=G.iD I;obtain⟨td,N,O⟩:=hd.cP;refine⟨dR (Hf ho A h1 L N J) ?_,λi h=>by cases h⟩;rintro σ H Q⟨F,ρ,r,ρ',g,e,k⟩;rw[HH.E10]at e;obtain⟨m,U,W,e⟩:=aj e;obtain⟨t,Y,j,e⟩:=aj e;have Z:=aD j;clear j;obtain⟨j,B⟩:=Z;subst B;have f:flat m.2=true/\cm o m.1 m.2=some t:=by
  split at j;.rename_i hf;exact⟨hf,j⟩
  .cases j
 obtain⟨f,j⟩:=f;refine M g W λv u F' H' s pv y=>⟨F',m.1,m.2,.val (.bl t),s.gs.sub,pv,y,by unfold rQ;rw[j];rfl,λw C H2 x q=>?_⟩;have s2:=s.trans (x.stp s.gs);have q:Rep X.K C w (.bl t):=q;rw[Rep]at q;subst q;refine⟨t,rfl,?_⟩;cases t with|false=>rw[if_neg dQ]at e ⊢;cases e;exact k _ C H2 s2 (show Rep X.K C _ _ from fU _)|true=>
   rw[if_pos rfl]at e ⊢;obtain⟨z,ac,B,e⟩:=aj e;obtain⟨e4,e5⟩:=aD e;subst e5;refine O s2.gs B λw F3 H3 s3 pw=>⟨F3,m.2,z,r,s3.gs.sub,?_,pw,e4,λw' F4 H4 x4 q=>?_⟩
   . have x1:=x.fs;have x2:=s3.bQ;rcases y with y|⟨_,_,_,_,_,_,h⟩;.exact .inl ((y.mono x1).mono x2)
     .rw[h]at f;cases f
   .have s4:=s2.trans s3;exact k w' F4 H4 (s4.trans (x4.stp s4.gs)) (.later s4 (q.pG s4.gs))
end
section
variable{X:Cx}{c:Call}{e a b d:dr}{p pa pb pd:P}{pos:Pos}{rest:List dr}
theorem qm{x:D}{k:Bool}(h:yI x=some k):x=.bl k:=by cases x<;>cases h;rfl
theorem cZ{x:D}{k:Int}(h:iY x=some k):x=.int k:=by cases x<;>cases h;rfl
theorem cW.bool{g j:Hp}{f:L2.St}{r:R}{k:Bool}(h:cW K g ρ' f j ρ σ H v r)(e:r.d=.bl k):v=.bl k:=by cases r with|val d=>cases(show d=.bl k from e);have h:Rep K g v (.bl k):=h;rw[Rep]at h;exact h|own ds=>cases e
noncomputable def ST(X:Cx)(c:Call)(e:dr)(p:P):Prop:=PT X e (DP X.K (iR (HH.ev c p)))
noncomputable def SW(X:Cx)(c:Call)(e:dr)(p:P):Prop:=PW X e (DP X.K (iR (HH.ev c p)))
theorem SW.st(h:SW X c e p):ST X c e p:=PW.pt h
theorem oF{t:TE}{Q:Bool->Hp->Prop}(hi:∀Q,vK X.K (HH.ev c p) σ H Q->t σ H Q)(h:DP X.K (iR (HH.ev c p)) σ H Q):t σ H λx l=>∃k,x=.bl k/\Q k l:=by obtain⟨F,ρ,k,ρ',g,e,q⟩:=h;obtain⟨r,j,m,f⟩:=aj e;have o:=aD f;clear f;obtain⟨f,u⟩:=o;subst u;exact hi _ ⟨F,ρ,r,j,g,m,λv w y s z=>⟨k,z.bool (qm f),q w y s⟩⟩
theorem iu(h:SX X c e p)(he:∀f,isTrue e X.env f=(do let v<-f;standAt e.pos;ki [v] (truthy v)):=by intro _;rfl):ST X c e p:=wu (RJ h.ev he) λσ H Q q=>oF (λ_ z=>z) q
theorem dj{o:Cm}(ho:fX X (eg op) (rD X.K (rQ o)))(j:SX X c a pa)(l:SX X c b pb)(m:gc op b=false):ST X c (.Compare a [op] [b] pos) (.cmp o pa pb):=by obtain⟨y,A,h1,B,C⟩:=j.iD l;refine wu (CQ ho h1 B m) λσ H Q q=>oF (t:=Sv (rD X.K (rQ o)) y A) (λQ z=>?_) q;obtain⟨F,ρ,r,ρ',g,e,k⟩:=z;rw[HH.E9]at e;obtain⟨h,E,G,f⟩:=aj e;have I:=aD f;clear f;obtain⟨f,J⟩:=I;subst J;refine C g G λv u L Y s M N=>⟨L,h.1,h.2,r,s.gs.sub,M,N,f,λw O U x W=>?_⟩;exact k w O U (s.trans (x.stp s.gs)) (.later s (W.pG s.gs))
theorem qX(l:ST X c a pa):ST X c (.UnaryOp .Not a pos) (.not pa):=by
 refine wu (Vc l) ?_;rintro σ H Q⟨F,ρ,k,ρ',g,e,q⟩;unfold iR at e;rw[HH.E6]at e;obtain⟨r,m,o,f⟩:=aj e;obtain⟨h,t,u,w⟩:=aj o;cases w;have y:=aD f;clear f;obtain⟨f,z⟩:=y;subst z;have f:(!h)=k:=by cases f;rfl
 exact⟨F,ρ,h,_,g,u,λA j s=>by show Q (!h) j;rw[f];exact q A j s⟩
theorem MJ(ρ:List Sl):iR (HH.ev c (.and pa pb)) ρ=(iR (HH.ev c pa) ρ).bind λx ρ=>if x then iR (HH.ev c pb) ρ else .ok false ρ:=by unfold iR;rw[HH.E7];unfold iR;cases HH.ev c pa ρ with|exc _ _=>rfl|stuck=>rfl|ok r f=>simp only[Res.bind];cases h:yI r.d with|none=>rfl|some k=>cases k with|false=>rfl|true=>simp only[lift,if_true];cases HH.ev c pb f with|exc _ _=>rfl|stuck=>rfl|ok g j=>simp only[Res.bind];cases h2:yI g.d with|none=>rfl|some l=>rfl
theorem Up(ρ:List Sl):iR (HH.ev c (.or pa pb)) ρ=(iR (HH.ev c pa) ρ).bind λx ρ=>if x then .ok true ρ else iR (HH.ev c pb) ρ:=by unfold iR;rw[HH.E8];unfold iR;cases HH.ev c pa ρ with|exc _ _=>rfl|stuck=>rfl|ok r f=>simp only[Res.bind];cases h:yI r.d with|none=>rfl|some k=>cases k with|true=>rfl|false=>simp only[lift,iq,if_false];cases HH.ev c pb f with|exc _ _=>rfl|stuck=>rfl|ok g j=>simp only[Res.bind];cases h2:yI g.d with|none=>rfl|some l=>rfl
theorem M6(f:ST X c a pa):SW X c (.BoolOp .And [a] pos) pa:=Mu f
theorem u0(f:ST X c a pa):SW X c (.BoolOp .Or [a] pos) pa:=Rv f
theorem Ti(h:ST X c a pa)(j:SW X c (.BoolOp .And (b::rest) pos) pb):SW X c (.BoolOp .And (a::b::rest) pos) (.and pa pb):=by refine Pj (Ua h j) ?_;rintro σ H Q⟨F,ρ,k,ρ',g,e,q⟩;rw[MJ]at e;obtain⟨x,f,l,e⟩:=aj e;refine⟨F,ρ,x,f,g,l,λF1 m s1=>?_⟩;cases x with|true=>rw[if_pos rfl]at e ⊢;exact⟨F1,f,k,ρ',s1.gs,e,λo r s2=>q o r (s1.trans s2)⟩|false=>rw[if_neg dQ]at e ⊢;cases e;exact q F1 m s1
theorem Cy(h:ST X c a pa)(j:SW X c (.BoolOp .Or (b::rest) pos) pb):SW X c (.BoolOp .Or (a::b::rest) pos) (.or pa pb):=by refine Pj (YX h j) ?_;rintro σ H Q⟨F,ρ,k,ρ',g,e,q⟩;rw[Up]at e;obtain⟨x,f,l,e⟩:=aj e;refine⟨F,ρ,x,f,g,l,λF1 m s1=>?_⟩;cases x with|true=>rw[if_pos rfl]at e ⊢;cases e;exact q F1 m s1|false=>rw[if_neg dQ]at e ⊢;exact⟨F1,f,k,ρ',s1.gs,e,λo r s2=>q o r (s1.trans s2)⟩
theorem Ve(j:SX X c a pa):SX X c (.UnaryOp .Not a pos) (.not pa):=by refine⟨dR (Uo j.ev) ?_,λi h=>by cases h⟩;rintro σ H Q⟨F,ρ,r,ρ',g,e,k⟩;rw[HH.E6]at e;obtain⟨x,l,m,o⟩:=aj e;cases o;exact oF (c:=c) (λ_ z=>z) ⟨F,ρ,x,_,g,m,λf q s=>k _ f q s (show Rep X.K f _ _ from fU _)⟩
theorem m6{op}(f:SX X c a pa):PE X (.BoolOp op [a] pos) (vK X.K (HH.ev c pa)):=Uu f.ev
theorem gZ(o:SX X c a pa)(q:PE X (.BoolOp .And (b::rest) pos) (vK X.K (HH.ev c pb))):SX X c (.BoolOp .And (a::b::rest) pos) (.and pa pb):=by refine⟨dR (UJ o.ev q) ?_,λi h=>by cases h⟩;rintro σ H Q⟨F,ρ,r,ρ',g,e,k⟩;rw[HH.E7]at e;obtain⟨x,f,s,e⟩:=aj e;refine oF (c:=c) (λ_ z=>z) (Q:=λx j=>if x=true then vK X.K (HH.ev c pb) σ j Q else Q (.bl false) j) ⟨F,ρ,x,f,g,s,λF1 j s1=>?_⟩;cases x with|true=>rw[if_pos rfl]at e ⊢;obtain⟨y,t,u,w⟩:=aj e;cases w;obtain⟨A,B,C,l⟩:=aj u;have E:=aD l;clear l;obtain⟨l,G⟩:=E;subst G;refine⟨F1,f,A,_,s1.gs,C,λv m I s2 J=>?_⟩;rw[J.bool (qm l)];exact k _ m I (s1.trans s2) (show Rep X.K m _ _ from fU _)|false=>rw[if_neg dQ]at e ⊢;cases e;exact k _ F1 j s1 (show Rep X.K F1 _ _ from fU _)
theorem vq(hc:ST X c e p)(w:SX X c a pa)(y:SX X c b pb):SX X c (.IfExp e a b pos) (.QL p pa pb):=by refine⟨dR (GX hc w.ev y.ev) ?_,λi h=>by cases h⟩;rintro σ H Q⟨F,ρ,r,ρ',g,e,k⟩;rw[HH.E11]at e;obtain⟨x,f,z,e⟩:=aj e;refine⟨F,ρ,x,f,g,z,λF1 B s1=>?_⟩;cases x with|true=>rw[if_pos rfl]at e ⊢;obtain⟨j,l,m,o⟩:=aj e;cases o;refine⟨F1,f,j,_,s1.gs,m,λv A q s2 s=>?_⟩;obtain⟨t,s3,_,u⟩:=s2.dz s;exact k v t q (s1.trans s3) u|false=>rw[if_neg dQ]at e ⊢;obtain⟨j,l,m,o⟩:=aj e;cases o;refine⟨F1,f,j,_,s1.gs,m,λv A q s2 s=>?_⟩;obtain⟨t,s3,_,u⟩:=s2.dz s;exact k v t q (s1.trans s3) u
theorem uJ:∀{ps:List P}{ρ ρ':List Sl}{ds:List D},evs c ps ρ=.ok ds ρ'->ds.length=ps.length|[],_,_,_,h=>by rw[evs]at h;cases h;rfl|p::ps,_,_,_,h=>by rw[evs]at h;obtain⟨r,f,_,h⟩:=aj h;obtain⟨xs,g,j,h⟩:=aj h;cases h;simp[uJ j]
theorem aO:SA X c [] []:=⟨qL dD λσ H Q⟨F,ρ,ds,ρ',g,e,k⟩=>by rw[evs]at e;cases e;exact k [] F H (.refl g) .nil,rfl⟩
theorem pP{ps:List P}(h:SX X c a pa)(hr:SA X c es ps)(hs:cv (a::es) X.env=(false,eu a X.env)::cv es X.env:=by rfl):SA X c (a::es) (pa::ps):=by refine⟨qL (bF h.ev hr.1 hs) ?_,by simp[hr.2]⟩;rintro σ H Q⟨F,ρ,ds,ρ',g,e,k⟩;rw[evs]at e;obtain⟨r,f,j,e⟩:=aj e;obtain⟨xs,l,m,e⟩:=aj e;cases e;refine⟨F,ρ,r,f,g,j,λv y z s o=>?_⟩;obtain⟨F1,s1,_,q⟩:=s.dz o;refine⟨F1,f,xs,_,s1.gs,m,λvs t u s2 w=>?_⟩;exact k _ t u (s1.trans s2) (.cons (q.mono s2.bQ) w)
theorem Ext.N7{h j:Hp}{Q:VK}{xs:List V}(s:aB K j ρ σ h F ρ' σ H)(r:aH K F xs ds)(k:∀v g f,aB K j ρ σ h g ρ' σ f->cW K g ρ' σ f ρ σ h v (.val (.tup ds))->Q v f)(p:bd)(l:H p=none):Q (.ref p) (upd H p (.tup xs)):=zu s.gs.sub r l λv g f x m=>k v g f (s.trans (x.stp s.gs)) m
theorem cM{ps:List P}{x1}(h:SA X c es ps)(hz:ps.length<=sizeLine:=by decide):SX X c (.Tuple es x1 pos) (.tup ps):=by refine⟨dR (Jt h.1) ?_,λi h=>by cases h⟩;rintro σ H Q⟨F,ρ,r,ρ',g,e,k⟩;rw[HH.E12]at e;obtain⟨ds,l,f,e⟩:=aj e;cases e;exact⟨F,ρ,ds,_,g,f,λvs o q s j=>⟨by rw[j.length,uJ f];exact hz,λp m=>Ext.N7 s j k p m⟩⟩
theorem cj{ps:List P}(h:SA X c es ps)(hz:ps.length<=sizeLine:=by decide):SX X c (.List es pos) (.lst ps):=by refine⟨dR (Td h.1) ?_,λi h=>by cases h⟩;rintro σ H Q⟨F,ρ,r,ρ',g,e,k⟩;rw[HH.E13]at e;obtain⟨ds,l,f,e⟩:=aj e;cases e;exact⟨F,ρ,ds,_,g,f,λvs u w s j=>⟨by rw[j.length,uJ f];exact hz,λp m=>zP s.gs.sub j m λv o q x t=>k v o q (s.trans (x.stp s.gs)) (.later s (t.pG s.gs))⟩⟩
theorem Ii{i:Int}{d:D}(h:at' ds i=some d):∃j,L2.jE ds.length i=some j/\ds[j]?=some d:=cJ h
theorem aeO:IxR X (rD X.K Lp):=by
 rintro f slice g s σ H x y v u Q I m l⟨F,d,e,r,sm,t,A,he,k⟩hs;unfold Lp at he;obtain⟨ds,B,he⟩:=cJ he;obtain⟨i,C,he⟩:=cJ he;obtain⟨z,E,he⟩:=map_some he;subst he;cases cZ C;rw[A.int]at l;obtain⟨p,xs,rfl,hq,o⟩:=t.items sm B;obtain⟨j,h1,G⟩:=Ii E;obtain⟨w,J,q⟩:=o.get G;have h:Jl xs i=some w:=by unfold Jl;rw[o.length,h1];exact J
 rcases hq with hq|hq;.exact BL f slice g s σ H _ _ v u Q I m l ⟨p,xs,i,w,rfl,rfl,hq,h,cF.dm sm q k⟩ hs
 .exact Uq f slice g s σ H _ _ v u Q I m l ⟨p,xs,i,w,rfl,rfl,hq,h,cF.dm sm q k⟩ hs
theorem aq(g:SX X c a pa)(h:SX X c b pb)(hs:vH b:=by intro _ _;rfl):SX X c (.Subscript a b pos) (.idx pa pb):=vM (f:=Lp) (λh1 j=>O8 aeO h1 j hs) g h (λρ=>rfl) rfl
noncomputable def Mp(K:PySem.W.Frag)(f:D->Option R):List V->Hp->VK->Prop:=λxs H Q=>∃x,xs=[x]/\rD1 K f x H Q
theorem oV{E:dr}{f:D->Option R}{q:P}(l:∀{t},PA X [a] t->PE X E (tCB (Mp X.K f) t))(m:SX X c a pa)(o:∀ρ,HH.ev c q ρ=(HH.cP (isVar pa) (HH.ev c pa) ρ).bind λx ρ=>lift (f x) ρ)(u:isVar q=none)(hs:cv [a] X.env=(false,eu a X.env)::cv [] X.env:=by rfl):SX X c E q:=by obtain⟨N,h1,y⟩:=m.cP;refine⟨dR (l (bF h1 dD hs)) ?_,λi h=>by rw[u]at h;cases h⟩;rintro σ H Q⟨F,ρ,r,ρ',g,e,k⟩;rw[o]at e;obtain⟨x,z,A,j⟩:=aj e;have B:=aD j;clear j;obtain⟨j,C⟩:=B;subst C;refine y g A λv G O s I=>⟨v,rfl,G,x,r,s.gs.sub,I,j,λw J L x M=>?_⟩;exact k w J L (s.trans (x.stp s.gs)) (.later s (M.pG s.gs))
theorem ZF:dN X (.builtin "len") (Mp X.K λx=>blt .len [x]):=by rintro f s σ H xs g Q I r⟨x,h,F,d,j,sm,l,he,k⟩;obtain⟨ds,m,he⟩:=map_some (show(items d).map _=some j from he);subst he;obtain⟨p,ys,rfl,o,q⟩:=l.items sm m;exact uP f s σ H xs g Q I r ⟨p,ys,h,o,by rw[q.length];exact cF.dm sm (bO _) k⟩
theorem Ui:dN X (.type "list") (Mp X.K λx=>blt .list [x]):=by rintro f s σ H xs g Q I r⟨x,h,F,d,j,sm,m,he,k⟩;obtain⟨ds,o,he⟩:=map_some (show(items d).map _=some j from he);subst he;obtain⟨p,ys,rfl,q,t⟩:=m.items sm o;exact vB f s σ H xs g Q I r ⟨p,ys,h,q,λl u=>zP sm t u k⟩
theorem Mm:dN X (.type "tuple") (Mp X.K λx=>blt .tuple [x]):=by rintro f s σ H xs j Q I r⟨x,m,F,d,t,sm,o,he,k⟩;obtain⟨ds,g,he⟩:=map_some (show(items d).map _=some t from he);subst he;cases d with|tup es=>cases g;obtain⟨a,ys,rfl,h,q,rt⟩:=o.tup sm;exact lr f s σ H xs j Q I r ⟨a,ys,m,.inr ⟨h,cF.dm sm rt k⟩⟩|lst es=>cases g;obtain⟨a,ys,rfl,h,q⟩:=o.lst sm;exact lr f s σ H xs j Q I r ⟨a,ys,m,.inl ⟨h,λl u=>zu sm q u k⟩⟩|_=>cases g
theorem cz(f:x="len")(g:Gl X x)(j:X.mg x=none)(k:SX X c a pa)(hs:cv [a] X.env=(false,eu a X.env)::cv [] X.env:=by rfl):SX X c (.Call (.Name x p') [a] [] pos) (.blt .len [pa]):=by subst f;exact oV (λh=>dX ZF g j PySem.boot_len h (he:=hs)) k (λρ=>rfl) rfl hs
theorem MT(f:x="list")(g:Gl X x)(j:X.mg x=none)(k:SX X c a pa)(hs:cv [a] X.env=(false,eu a X.env)::cv [] X.env:=by rfl):SX X c (.Call (.Name x p') [a] [] pos) (.blt .list [pa]):=by subst f;exact oV (λh=>nT Ui g j (by decide+kernel) h (he:=hs)) k (λρ=>rfl) rfl hs
theorem gF(f:x="tuple")(g:Gl X x)(j:X.mg x=none)(k:SX X c a pa)(hs:cv [a] X.env=(false,eu a X.env)::cv [] X.env:=by rfl):SX X c (.Call (.Name x p') [a] [] pos) (.blt .tuple [pa]):=by subst f;exact oV (λh=>nT Mm g j (by decide+kernel) h (he:=hs)) k (λρ=>rfl) rfl hs
end
noncomputable def M5(K:PySem.W.Frag)(np:Nat)(f:List Sl->Res R):Sp:=λvs H Q _=>vs.length=np/\∃F args r a,GS K F args (vs.map some) H/\f args=.ok r a/\∀v e b c,aB K F args (vs.map some) H e a b c->cW K e a b c args (vs.map some) H v r->Q v c
section
variable{K:PySem.W.Frag}
noncomputable def zL(K:PySem.W.Frag)(F:Hp)(ρ:List Sl)(σ:L2.St)(H:Hp)(ρ₀:List Sl)(H₀:Hp)(v:V):Arg->Prop|.dat d=>Rep K F v d|.tmp ds=>∃x xs,v=.ref x/\H x=some (.lst xs)/\F x=none/\aH K F xs ds/\¬ Own ρ σ x/\(Own ρ₀ σ x\/H₀ x=none)|.fM i=>σ[i]?=some (some v)
structure wA(K:PySem.W.Frag)(F:Hp)(ρ:List Sl)(σ:L2.St)(H:Hp)(ρ₀:List Sl)(H₀:Hp)(as:List Arg)(vs:List V):Prop where
 len:as.length=vs.length
 one:∀(j:Nat)(a:Arg)(v:V),as[j]?=some a->vs[j]?=some v->zL K F ρ σ H ρ₀ H₀ v a
 dis:∀(j k:Nat)(ds es:List D)(x:bd),as[j]?=some (.tmp ds)->as[k]?=some (.tmp es)->vs[j]?=some (.ref x)->vs[k]?=some (.ref x)->j=k
theorem zL.later{b f:Hp}{a:Arg}(s:aB K F ρ σ H b ρ' σ f)(h:zL K F ρ σ H ρ₀ H₀ v a):zL K b ρ' σ f ρ₀ H₀ v a:=by cases a with|dat d=>exact Rep.mono s.bQ h|fM i=>exact h|tmp ds=>
   obtain⟨x,xs,h1,c,g,j,e,k⟩:=h;refine⟨x,xs,h1,s.keep x _ c e,?_,j.mono s.bQ,λo=>?_,k⟩;.cases q:b x with|none=>rfl|some o=>
       rcases s.yt x g (by rw[q];simp)with z|z;.exact absurd z e
       .exact(G6 c z).elim
   . rcases s.wg x o with z|z;.exact e z
     .rw[c]at z;cases z
theorem wA.nil:wA K F ρ σ H ρ₀ H₀ [] []:=⟨rfl,λj a v h=>by simp at h,λj k ds es x h=>by simp at h⟩
theorem wA.cons{F H H₀:Hp}{ρ ρ₀:List Sl}{σ:L2.St}{a:Arg}{v:V}{as:List Arg}{vs:List V}(h:zL K F ρ σ H ρ₀ H₀ v a)(t:wA K F ρ σ H ρ₀ H₀ as vs)(hd:∀ds x,a=.tmp ds->v=.ref x->∀(k:Nat)es,as[k]?=some (.tmp es)->vs[k]?≠some (.ref x)):wA K F ρ σ H ρ₀ H₀ (a::as) (v::vs):=by
 refine⟨by simp[t.len],λj b u h1 c=>?_,λj k ds es x h1 c e f=>?_⟩;.cases j with|zero=>simp at h1 c;subst h1;subst c;exact h|succ j=>exact t.one j b u (by simpa using h1) (by simpa using c)
 .cases j with
   |zero=>cases k with|zero=>rfl|succ k=>simp at h1 e;exact absurd (by simpa using f) (hd ds x h1 e k es (by simpa using c))
   |succ j=>cases k with|zero=>simp at c f;exact absurd (by simpa using e) (hd es x c f j ds (by simpa using h1))|succ k=>rw[t.dis j k ds es x (by simpa using h1) (by simpa using c) (by simpa using e) (by simpa using f)]
noncomputable def Gw(ρ:List Sl):Arg->Sl->Prop|.dat d,s=>s=.val false d|.tmp ds,s=>s=.own false ds|.fM i,s=>(∃b d,ρ[i]?=some (.val b d)/\s=.val false d)\/(∃b ds,ρ[i]?=some (.own b ds)/\s=.own true ds)\/∃ds,ρ[i]?=some (.lent ds)/\s=.lent ds
theorem qt{ρ:List Sl}:∀{as:List Arg}{c:List Nat}{args:List Sl},cg ρ as c=some args->args.length=as.length/\(∀(j:Nat)(a:Arg)(s:Sl),as[j]?=some a->args[j]?=some s->Gw ρ a s)/\(∀(j:Nat)(i:Nat)(s:Sl)ds,as[j]?=some (.fM i)->args[j]?=some s->lst? s=some ds->i∉c)/\(∀(j k:Nat)(i:Nat)(s t:Sl)ds es,as[j]?=some (.fM i)->as[k]?=some (.fM i)->args[j]?=some s->args[k]?=some t->lst? s=some ds->lst? t=some es->j=k)
 |[],c,args,h=>by rw[cg]at h;cases h;exact⟨rfl,λj a s h=>by simp at h,λj i s ds h=>by simp at h,λj k i s t ds es h=>by simp at h⟩|a::as,c,args,h=>by--the afP slot,the afQ
   have key:∃s0 r u,args=s0::r/\cg ρ as u=some r/\Gw ρ a s0/\((∃i ds,a=.fM i/\lst? s0=some ds/\u=i::c/\i∉c)\/((∀i ds,a=.fM i->lst? s0≠some ds)/\u=c)):=by cases a with|dat d=>rw[cg]at h;obtain⟨r,g,l⟩:=map_some h;exact⟨_,r,c,l.symm,g,rfl,.inr ⟨λi ds z=>(by cases z),rfl⟩⟩|tmp d=>rw[cg]at h;obtain⟨r,g,l⟩:=map_some h;exact⟨_,r,c,l.symm,g,rfl,.inr ⟨λi ds z=>(by cases z),rfl⟩⟩|fM i=>
      rw[cg]at h;split at h;.rename_i b d q;obtain⟨r,g,l⟩:=map_some h;exact⟨_,r,c,l.symm,g,.inl ⟨b,d,q,rfl⟩,.inr ⟨λ_ _ _ z=>(by cases z),rfl⟩⟩
      . rename_i b ds q;split at h;.cases h
        .rename_i o;obtain⟨r,g,l⟩:=map_some h;exact⟨_,r,_,l.symm,g,.inr (.inl ⟨b,ds,q,rfl⟩),.inl ⟨i,_,rfl,rfl,rfl,by simpa using o⟩⟩
      . rename_i ds q;split at h;.cases h
        .rename_i o;obtain⟨r,g,l⟩:=map_some h;exact⟨_,r,_,l.symm,g,.inr (.inr ⟨ds,q,rfl⟩),.inl ⟨i,_,rfl,rfl,rfl,by simpa using o⟩⟩
      .cases h
   obtain⟨s0,r,u,rfl,hr,A,o⟩:=key;obtain⟨l1,l2,B,M⟩:=qt hr;have sub:∀i,i∉u->i∉c:=λi hi J=>by
    rcases o with⟨_,_,_,_,rfl,_⟩|⟨_,rfl⟩;.exact hi (dE _ J)
    .exact hi J
   refine⟨by simp[l1],λj b s h1 f=>?_,λj i s ds h1 f p=>?_,λj k i s t ds es h1 f p y C E=>?_⟩;.cases j with|zero=>simp at h1 f;subst h1;subst f;exact A|succ j=>exact l2 j b s (by simpa using h1) (by simpa using f)
   .cases j with|zero=>
       simp at h1 f;subst h1;subst f;rcases o with⟨L,_,e,_,_,m⟩|⟨m,_⟩;.cases e;exact m
       .exact absurd p (m i ds rfl)|succ j=>exact sub i (B j i s ds (by simpa using h1) (by simpa using f) p)
   . have N:∀(k:Nat)(t:Sl)es,a=.fM i->lst? s0=some ds->(as[k]?=some (.fM i))->r[k]?=some t->lst? t=some es->False:=λk t es w G I ht he=>by
      rcases o with⟨L,_,e,_,rfl,m⟩|⟨m,_⟩;.rw[w]at e;cases e;exact B k i t es I ht he hU
      .exact m i ds w G
     have O:∀(k:Nat)(t:Sl)es,a=.fM i->lst? s0=some es->(as[k]?=some (.fM i))->r[k]?=some t->lst? t=some ds->False:=λk t es w G I ht he=>by
      rcases o with⟨L,_,e,_,rfl,m⟩|⟨m,_⟩;.rw[w]at e;cases e;exact B k i t ds I ht he hU
      .exact m i es w G
     cases j with
     |zero=>cases k with|zero=>rfl|succ k=>simp at h1 p;subst p;exact(N k t es h1 C (by simpa using f) (by simpa using y) E).elim
     |succ j=>cases k with|zero=>simp at f y;subst y;exact(O j s es f E (by simpa using h1) (by simpa using p) C).elim|succ k=>rw[M j k i s t ds es (by simpa using h1) (by simpa using f) (by simpa using p) (by simpa using y) C E]
theorem wA.get(A:wA K F ρ σ H ρ₀ H₀ as vs){args:List Sl}{j:Nat}{s:Sl}(c:args.length=as.length)(h:args[j]?=some s):∃a v,as[j]?=some a/\vs[j]?=some v/\zL K F ρ σ H ρ₀ H₀ v a:=by
 have e:j<args.length:=(dJ h).1;have h1:j<as.length:=by omega
 have b:j<vs.length:=by rw[<-A.len];exact h1
 exact⟨as[j],vs[j],by simp[h1],by simp[b],A.one j _ _ (by simp[h1]) (by simp[b])⟩
theorem args_gs{args:List Sl}(g:GS K F ρ σ H)(A:wA K F ρ σ H ρ₀ H₀ as vs)(h:cg ρ as []=some args):GS K F args (vs.map some) H:=by
 obtain⟨l1,l2,l3,Y⟩:=qt h;have L:∀{j:Nat}{v:V},vs[j]?=some v->(vs.map some)[j]?=some (some v):=λe=>by rw[eR,e];rfl
 have dn:∀{j:Nat}{v:V},(vs.map some)[j]?=some (some v)->vs[j]?=some v:=λ{j v}e=>by rw[eR]at e;cases q:vs[j]?with|none=>rw[q]at e;cases e|some w=>rw[q]at e;cases e;rfl
 refine⟨g.sub,by rw[l1,A.len,dy],λj b d e=>?_,λj s ds e I=>?_,λj k x⟨⟨s,ds,e1,e2⟩,M⟩⟨⟨t,es,f1,f2⟩,f3⟩=>?_⟩;.obtain⟨a,v,h1,u,m⟩:=A.get l1 e;have B:=l2 j a _ h1 e;refine⟨v,L u,?_⟩;cases a with|dat d'=>cases B;exact m|tmp ds=>cases B|fM i=>
     rcases B with⟨N,d',r,c⟩|⟨_,_,_,c⟩|⟨_,_,c⟩;.cases c;obtain⟨w,f,p⟩:=g.val i N d r;have m:σ[i]?=some (some v):=m;rw[m]at f;cases f;exact p
     .cases c
     .cases c
 .obtain⟨a,v,h1,u,m⟩:=A.get l1 e;have B:=l2 j a _ h1 e;cases a with|dat d'=>cases B;cases I|tmp es=>cases B;cases I;obtain⟨x,xs,rfl,c,f,p,_⟩:=m;exact⟨x,_,L u,c,f,xs,rfl,p⟩|fM i=>
     have m:σ[i]?=some (some v):=m;rcases B with⟨N,d',r,c⟩|⟨N,es,r,c⟩|⟨es,r,c⟩;.cases c;cases I
     .cases c;cases I;obtain⟨x,xs,f,p⟩:=g.own i _ _ r rfl;rw[m]at f;cases f;exact⟨x,xs,L u,p⟩
     .cases c;cases I;obtain⟨x,xs,f,p⟩:=g.own i _ _ r rfl;rw[m]at f;cases f;exact⟨x,xs,L u,p⟩
 . obtain⟨a,v,h1,u,m⟩:=A.get l1 e1;obtain⟨O,v',C,J,E⟩:=A.get l1 f1;have M:=dn M;have f3:=dn f3;rw[u]at M;cases M;rw[J]at f3;cases f3;have s1:=l2 j a _ h1 e1;have s2:=l2 k O _ C f1;have Q:∀{i:Nat}{s:Sl}{ds:Oc},lst? s=some ds->Gw ρ (.fM i) s->∃G o,ρ[i]?=some G/\lst? G=some o:=λ{i s ds}l z=>by
    rcases z with⟨_,_,_,z⟩|⟨b,es,q,_⟩|⟨es,q,_⟩;.subst z;cases l
    .exact⟨_,_,q,rfl⟩
    .exact⟨_,_,q,rfl⟩
   cases a with
   |dat d=>cases s1;cases e2|tmp Z=>cases O with|dat d=>cases s2;cases f2|tmp X=>exact A.dis j k Z X x h1 C u J|fM i=>obtain⟨y,_,r,_,_,_,c,_⟩:=m;cases r;obtain⟨G,o,f,p⟩:=Q f2 s2;exact absurd ⟨i,⟨G,o,f,p⟩,E⟩ c
   |fM i=>obtain⟨G,o,f,p⟩:=Q e2 s1;cases O with|dat d=>cases s2;cases f2|tmp X=>obtain⟨y,_,r,_,_,_,c,_⟩:=E;cases r;exact absurd ⟨i,⟨G,o,f,p⟩,m⟩ c|fM i'=>obtain⟨U,W,q5,q6⟩:=Q f2 s2;have:=g.dis i i' x ⟨⟨G,o,f,p⟩,m⟩ ⟨⟨U,W,q5,q6⟩,E⟩;subst this;exact Y j k i s t ds es h1 C e1 f1 e2 f2
theorem nG{as:List Arg}{ss:List Sl}:∀(ρ:List Sl)(n i:Nat),(dC as ss n ρ)[i]?=(ρ[i]?).map λs=>fc s (bh (n+i) as ss)
 |[],n,i=>by simp[dC]|s::ρ,n,0=>by simp[dC]|s::ρ,n,i+1=>by
   rw[dC];simp only[fk];rw[nG ρ (n+1) i];have:n+1+i=n+(i+1):=by omega
   rw[this]
theorem nj{as:List Arg}{ss:List Sl}:∀(ρ:List Sl)(n:Nat),(dC as ss n ρ).length=ρ.length|[],n=>rfl|s::ρ,n=>by rw[dC];simp[nj ρ]
theorem iV{i:Nat}:∀{as:List Arg}{ss:List Sl}{t:Sl},bh i as ss=some t->∃j:Nat,as[j]?=some (.fM i)/\ss[j]?=some t
 |[],_,_,h=>by simp[bh]at h|a::as,[],_,h=>by cases a<;>simp[bh]at h|a::as,s::ss,t,h=>by
   have b:bh i as ss=some t->∃j:Nat,(a::as)[j]?=some (.fM i)/\(s::ss)[j]?=some t:=λh=>by obtain⟨j,h1,c⟩:=iV h;exact⟨j+1,by simpa using h1,by simpa using c⟩
   cases a with|dat d=>exact b (by simpa[bh]using h)|tmp d=>exact b (by simpa[bh]using h)|fM k=>
     rw[bh]at h;split at h;.rename_i e;cases h;subst e;exact⟨0,rfl,rfl⟩
     .exact b h
theorem lG{i:Nat}:∀{as:List Arg}{ss:List Sl},as.length=ss.length->bh i as ss=none->∀j:Nat,as[j]?≠some (.fM i)
 |[],_,_,_=>λj h=>by simp at h|a::as,[],b,_=>by simp at b|a::as,s::ss,b,h=>λj c=>by
   have f:as.length=ss.length:=by simpa using b
   have g:bh i as ss=none/\a≠.fM i:=by cases a with|dat d=>exact⟨by simpa[bh]using h,by simp⟩|tmp d=>exact⟨by simpa[bh]using h,by simp⟩|fM k=>
      rw[bh]at h;split at h;.cases h
      .rename_i l;exact⟨h,λe=>l (by cases e;rfl)⟩
   cases j with|zero=>simp at c;exact g.2 c|succ j=>exact lG f g.1 j (by simpa using c)
theorem Jf{O W H':Hp}{args c:List Sl}{X:L2.St}(s0:aB K O ρ₀ σ H₀ F ρ σ H)(A:wA K F ρ σ H ρ₀ H₀ as vs)(hb:cg ρ as []=some args)(s:aB K F args (vs.map some) H W c X H'):aB K O ρ₀ σ H₀ W (dC as c 0 ρ) σ H'/\∀v r,cW K W c X H' args (vs.map some) H v r->cW K W (dC as c 0 ρ) σ H' ρ₀ σ H₀ v r:=by
 have g:=s0.gs;obtain⟨l1,l2,l3,l4⟩:=qt hb;have up:∀{j:Nat}{v:V},vs[j]?=some v->(vs.map some)[j]?=some (some v):=λe=>by rw[eR,e];rfl
 have dn:∀{j:Nat}{v:V},(vs.map some)[j]?=some (some v)->vs[j]?=some v:=λ{j v}e=>by rw[eR]at e;cases q:vs[j]?with|none=>rw[q]at e;cases e|some w=>rw[q]at e;cases e;rfl
 have la:as.length=c.length:=by rw[s.len,l1]--whose are the lists that the callee holds
 have own:∀b,Own args (vs.map some) b->(∃(j:Nat)(ds:List D),as[j]?=some (Arg.tmp ds)/\vs[j]?=some (V.ref b)/\¬ Own ρ σ b/\(Own ρ₀ σ b\/H₀ b=none))\/Own ρ σ b:=λb⟨j,⟨sl,ds,E,Q⟩,e3⟩=>by obtain⟨a,v,h1,C,J⟩:=A.get l1 E;have s1:=l2 j a _ h1 E;have e3:=dn e3;rw[C]at e3;cases e3;cases a with|dat d=>cases s1;cases Q|tmp es=>obtain⟨x,_,k,_,_,_,f,M⟩:=J;cases k;exact .inl ⟨j,es,h1,C,f,M⟩|fM i=>
    right;rcases s1 with⟨_,_,_,z⟩|⟨b',es,q,_⟩|⟨es,q,_⟩;.subst z;cases Q
    .exact⟨i,⟨_,_,q,rfl⟩,J⟩
    .exact⟨i,⟨_,_,q,rfl⟩,J⟩
 have back:∀b,Own ρ σ b\/H b=none->Own ρ₀ σ b\/H₀ b=none:=λb h=>by
  rcases h with h|h;.exact s0.wg b h
  . by_cases ho:Own ρ₀ σ b;.exact .inl ho
    .right;cases e:H₀ b with|none=>rfl|some o=>rw[s0.keep b o e ho]at h;cases h
 have L:∀b,Own args (vs.map some) b->Own ρ₀ σ b\/H₀ b=none:=λb h=>by
  rcases own b h with⟨_,_,_,_,_,z⟩|z;.exact z
  .exact back b (.inl z)--a name's slot behind the call
 have slot:∀{i:Nat}{t:Sl},(dC as c 0 ρ)[i]?=some t->∃s1,ρ[i]?=some s1/\t=fc s1 (bh i as c):=λ{i t}h=>by rw[nG]at h;obtain⟨s1,E,Q⟩:=map_some h;exact⟨s1,E,by rw[<-Q,nL]⟩
 have ae:∀{i:Nat}{s1:Sl},ρ[i]?=some s1->(dC as c 0 ρ)[i]?=some (fc s1 (bh i as c)):=λ{i s1}h=>by rw[nG,h,nL];rfl--what the callee left of a list that was lent to it
 have lent:∀{i j:Nat}{s1 t:Sl}{ds:List D},ρ[i]?=some s1->lst? s1=some (.l ds)->as[j]?=some (.fM i)->c[j]?=some t->∃v s2,σ[i]?=some (some v)/\X[j]?=some (some v)/\args[j]?=some s2/\mW s2 t/\((∃b,s1=.own b ds/\s2=.own true ds)\/(s1=.lent ds/\s2=.lent ds)):=λ{i j s1 t ds}h1 C J h4=>by
  have Y:j<args.length:=by rw[l1];exact(dJ J).1
  have E:args[j]?=some args[j]:=by simp[Y]
  obtain⟨a,v,k,f,M⟩:=A.get l1 E;rw[J]at k;cases k;have q4:=l2 j _ _ J E;have kind:(∃b,s1=.own b ds/\args[j]=.own true ds)\/(s1=.lent ds/\args[j]=.lent ds):=by
   rcases q4 with⟨_,_,z,_⟩|⟨b,es,z,z'⟩|⟨es,z,z'⟩;.rw[h1]at z;cases z;cases C
   .rw[h1]at z;cases z;cases C;exact .inl ⟨b,rfl,z'⟩
   .rw[h1]at z;cases z;cases C;exact .inr ⟨rfl,z'⟩
  have lk:tL args[j]=true:=by rcases kind with⟨_,_,z⟩|⟨_,z⟩<;>rw[z]<;>rfl
  obtain⟨u,s',y,z3⟩:=s.lk j _ E lk;rw[h4]at y;cases y;exact⟨v,_,M,by rw[u];exact up f,E,z3,kind⟩
 have O3:∀{i:Nat}{x:bd},bf (dC as c 0 ρ) σ i x->bf ρ σ i x:=λ{i x}⟨⟨t,ds,E,Q⟩,e3⟩=>by obtain⟨s1,k,f⟩:=slot E;refine⟨?_,e3⟩;cases s1 with|aQ=>subst f;cases Q|val b d=>subst f;cases Q|own b es=>exact⟨_,_,k,rfl⟩|lent es=>exact⟨_,_,k,rfl⟩|gO m=>exact⟨_,_,k,rfl⟩|cQ m=>exact⟨_,_,k,rfl⟩|hold _=>subst f;cases Q
 refine⟨?_,λv r h=>?_⟩;rotate_left;.cases r with|val d=>exact h|own ds=>
     obtain⟨x,xs,h1,C,J,h4,h5,h6⟩:=h;refine⟨x,xs,h1,C,J,h4,λ⟨i,h⟩=>?_,?_⟩
     . have hO:=O3 h;obtain⟨⟨s1,VD,k,f⟩,M⟩:=hO;obtain⟨x',ai,w1,w2,_⟩:=g.own i s1 VD k f;rw[M]at w1;cases w1;rcases h6 with h6|h6
       . rcases own x h6 with⟨_,_,_,_,z,_⟩|_;.exact z ⟨i,⟨s1,VD,k,f⟩,M⟩
         .--a name was lent
           obtain⟨j,⟨sl,es,Z,w4⟩,w5⟩:=h6;obtain⟨a',v',G,N,y3⟩:=A.get l1 Z;have sa:=l2 j a' _ G Z;have w5:=dn w5;rw[N]at w5;cases w5;cases a' with|dat d=>cases sa;cases w4|tmp al=>obtain⟨_,_,u1,_,_,_,u2,_⟩:=y3;cases u1;exact u2 ⟨i,⟨s1,VD,k,f⟩,M⟩|fM i'=>
             have ex:∃s' ac,ρ[i']?=some s'/\lst? s'=some ac:=by
              rcases sa with⟨_,_,_,z⟩|⟨b,es,q,_⟩|⟨es,q,_⟩;.subst z;cases w4
              .exact⟨_,_,q,rfl⟩
              .exact⟨_,_,q,rfl⟩
             have:=g.dis i i' x ⟨⟨s1,VD,k,f⟩,M⟩ ⟨ex,y3⟩;subst this;have hk:∃O2,VD=.l O2:=by
              rcases sa with⟨_,_,_,z⟩|⟨b,es,q,_⟩|⟨es,q,_⟩;.subst z;cases w4
              .rw[k]at q;cases q;cases f;exact⟨_,rfl⟩
              .rw[k]at q;cases q;cases f;exact⟨_,rfl⟩
             obtain⟨O2,rfl⟩:=hk;have Y:j<c.length:=by rw[<-la];exact(dJ G).1
             have B:c[j]?=some c[j]:=by simp[Y]
             obtain⟨v2,s2,u1,u2,u3,u4,u5⟩:=lent k f G B;rw[M]at u1;cases u1--the slot behind the call is a list's
             obtain⟨⟨t,dt,t1,t2⟩,_⟩:=h;obtain⟨s3,t3,t4⟩:=slot t1;rw[k]at t3;cases t3;have lo:∃t5,bh i as c=some t5:=by cases I:bh i as c with|none=>exact absurd G (lG la I j)|some t5=>exact⟨t5,rfl⟩
             obtain⟨t5,I⟩:=lo;obtain⟨j2,t6,t7⟩:=iV I;have am:j2<args.length:=by rw[l1];exact(dJ t6).1
             obtain⟨_,s6,_,ap,af,ar,ag⟩:=lent k f t6 t7;have ah:j2=j:=by
              have a1:lst? s6=some (.l O2):=by rcases ag with⟨_,_,z⟩|⟨_,z⟩<;>rw[z]<;>rfl
              have a2:lst? s2=some (.l O2):=by rcases u5 with⟨_,_,z⟩|⟨_,z⟩<;>rw[z]<;>rfl
              exact l4 j2 j i s6 s2 _ _ t6 G af u3 a1 a2
             subst ah;rw[B]at t7;cases t7;rw[I]at t4;refine h5 ⟨j2,?_,u2⟩;rcases u5 with⟨b,u,y⟩|⟨u,y⟩
             . subst u;subst y;rcases u4 with⟨d2,z⟩|⟨d2,z⟩;.exact⟨_,.l d2,B,by rw[z];rfl⟩
               .rw[z]at t4;subst t4;cases t2
             .subst u;subst y;exact⟨_,.l O2,B,by rw[show c[j2]=.lent O2 from u4];rfl⟩
       .rw[w2]at h6;cases h6
     . rcases h6 with h6|h6;.exact L x h6
       .exact back x (.inr h6)
 refine⟨⟨s.gs.sub,by rw[nj];exact g.len,λi b d e=>?_,λi t ds e B=>?_,λi j x h1 C=>g.dis i j x (O3 h1) (O3 C)⟩,s0.bQ.trans s.bQ,λb n n'=>?_,λb o h n=>?_,λb⟨i,h⟩=>back b (.inl ⟨i,O3 h⟩),by rw[nj];exact s0.len,λi s1 h l=>?_⟩;.--data
   obtain⟨s1,k,f⟩:=slot e;cases s1 with|aQ=>cases f|lent es=>cases f|gO _=>cases f|cQ _=>cases f|hold _=>cases f|val b' d'=>cases f;obtain⟨v,u,y⟩:=g.val i b d k;exact⟨v,u,y.mono s.bQ⟩|own b' es=>cases I:bh i as c with|none=>rw[I]at f;cases f|some t=>rw[I]at f;obtain⟨j,u,y⟩:=iV I;obtain⟨v,s2,G,N,y3,y4,p⟩:=lent k rfl u y;cases t with|aQ=>cases f|own _ _=>cases f|lent _=>cases f|gO _=>cases f|cQ _=>cases f|hold _=>cases f|val b2 d2=>cases f;obtain⟨w,U,x2⟩:=s.gs.val j b2 d y;rw[N]at U;cases U;exact⟨v,G,x2⟩
 .--lists
   obtain⟨s1,k,f⟩:=slot e--a list that was not lent
   have stay:∀es,lst? s1=some es->(∀j:Nat,as[j]?≠some (.fM i))->t=s1->∃(a:bd)(xs:HO),σ[i]?=some (some (V.ref a))/\H' a=some xs/\W a=none/\kZ K W xs ds:=λes he hn ht=>by
    subst ht;rw[he]at B;cases B;obtain⟨a,xs,u,y,z3,z4⟩:=g.own i _ ds k he;have no:¬ Own args (vs.map some) a:=λh=>by obtain⟨j,⟨sl,es,w1,w2⟩,Z⟩:=h;obtain⟨a',v,h1,C,J⟩:=A.get l1 w1;have sa:=l2 j a' _ h1 w1;have Z:=dn Z;rw[C]at Z;cases Z;cases a' with|dat d=>cases sa;cases w2|tmp es=>obtain⟨x,_,G,_,_,_,N,_⟩:=J;cases G;exact N ⟨i,⟨_,ds,k,he⟩,u⟩|fM i'=>
       have:∃s' ac,ρ[i']?=some s'/\lst? s'=some ac:=by
        rcases sa with⟨_,_,_,z⟩|⟨b,es,q,_⟩|⟨es,q,_⟩;.subst z;cases w2
        .exact⟨_,_,q,rfl⟩
        .exact⟨_,_,q,rfl⟩
       have:=g.dis i i' a ⟨⟨_,ds,k,he⟩,u⟩ ⟨this,J⟩;subst this;exact hn j h1
    refine⟨a,xs,u,s.keep a _ y no,?_,z4.mono s.bQ⟩;cases q:W a with|none=>rfl|some o=>
      rcases s.yt a z3 (by rw[q];simp)with z|z;.exact absurd z no
      .rw[y]at z;exact(JB z4 z).elim
   cases I:bh i as c with
   |none=>have hn:=lG la I;rw[I]at f;cases s1 with|aQ=>subst f;cases B|val b' d'=>subst f;cases B|own b' es=>exact stay _ rfl hn f|lent es=>exact stay _ rfl hn f|gO m=>exact stay _ rfl hn f|cQ m=>exact stay _ rfl hn f|hold _=>subst f;cases B
   |some t2=>rw[I]at f;obtain⟨j,u,y⟩:=iV I;cases s1 with
     |aQ=>subst f;cases B|val b' d'=>subst f;cases B|hold _=>subst f;cases B|gO m=>
       have Y:j<args.length:=by rw[l1];exact(dJ u).1
       rcases l2 j _ _ u (show args[j]?=some args[j]by simp[Y])with⟨_,_,z,_⟩|⟨_,_,z,_⟩|⟨_,z,_⟩<;>(rw[k]at z;cases z)|cQ m=>
       have Y:j<args.length:=by rw[l1];exact(dJ u).1
       rcases l2 j _ _ u (show args[j]?=some args[j]by simp[Y])with⟨_,_,z,_⟩|⟨_,_,z,_⟩|⟨_,z,_⟩<;>(rw[k]at z;cases z)|own b' es=>
       obtain⟨v,s2,G,N,y3,y4,p⟩:=lent k rfl u y;have:t2≠.aQ/\∀x,t2≠.lent x:=by
        rcases p with⟨_,_,p⟩|⟨p,_⟩;.subst p;rcases y4 with⟨_,rfl⟩|⟨_,rfl⟩<;>simp
        .cases p
       cases t2 with
       |aQ=>exact absurd rfl this.1|hold x=>
         rcases p with⟨_,_,p⟩|⟨p,_⟩;.subst p;rcases y4 with⟨_,h⟩|⟨_,h⟩<;>cases h
         .cases p|gO x=>
         rcases p with⟨_,_,p⟩|⟨p,_⟩;.subst p;rcases y4 with⟨_,h⟩|⟨_,h⟩<;>cases h
         .cases p|cQ x=>
         rcases p with⟨_,_,p⟩|⟨p,_⟩;.subst p;rcases y4 with⟨_,h⟩|⟨_,h⟩<;>cases h
         .cases p|lent x=>exact absurd rfl (this.2 x)|val b2 d2=>subst f;cases B|own b2 aw=>subst f;cases B;obtain⟨a,xs,U,x2⟩:=s.gs.own j _ _ y rfl;rw[N]at U;cases U;exact⟨a,xs,G,x2⟩
     |lent es=>
       obtain⟨v,s2,G,N,y3,y4,p⟩:=lent k rfl u y;have ht:t=.lent es:=by rw[f];cases t2<;>rfl
       subst ht;cases B;rcases p with⟨_,p,_⟩|⟨_,p⟩;.cases p
       .subst p;cases(show t2=.lent es from y4);obtain⟨a,xs,U,x2⟩:=s.gs.own j _ _ y rfl;rw[N]at U;cases U;exact⟨a,xs,G,x2⟩
 . by_cases q:F b=none
   . rcases s.yt b q n' with z|z;.exact(L b z).imp id kh
     . by_cases ho:Own ρ₀ σ b;.exact .inl ho
       .right;cases f:H₀ b with|none=>rfl|some o=>rw[s0.keep b o f ho]at z;exact z
   .exact s0.yt b n q
 . refine s.keep b o (s0.keep b o h n) λz=>?_;rcases L b z with z|z;.exact n z
   .rw[h]at z;cases z
 .obtain⟨E,s2,C,k2⟩:=s0.lk i s1 h l;refine⟨E,_,ae C,?_⟩;have Xq:=k2.tL l;refine mW.trans l k2 ?_;cases s2 with
   |aQ=>cases Xq|gO _=>cases Xq|cQ _=>cases Xq|hold _=>exact mW.refl _|val b d=>exact mW.refl _|lent es=>cases bh i as c with|none=>rfl|some t=>cases t<;>rfl
   |own b es=>cases b with|false=>cases Xq|true=>cases bh i as c with|none=>exact .inl ⟨_,rfl⟩|some t=>cases t with|aQ=>exact .inl ⟨_,rfl⟩|lent _=>exact .inl ⟨_,rfl⟩|gO _=>exact .inl ⟨_,rfl⟩|cQ _=>exact .inl ⟨_,rfl⟩|hold _=>exact .inl ⟨_,rfl⟩|own _ ds=>exact .inl ⟨_,rfl⟩|val _ d=>exact .inr ⟨_,rfl⟩
theorem wA.rebase{F1 g k l:Hp}{c f:List Sl}(a:aB K F ρ σ H F1 c σ g)(A:wA K k f σ l c g as vs):wA K k f σ l ρ H as vs:=by refine⟨A.len,λj b v h1 m=>?_,A.dis⟩;have h:=A.one j b v h1 m;cases b with|dat d=>exact h|fM i=>exact h|tmp ds=>
   obtain⟨x,xs,p,q,r,s,t,q6⟩:=h;refine⟨x,xs,p,q,r,s,t,?_⟩;rcases q6 with q6|q6;.exact a.wg x q6
   . by_cases ho:Own ρ σ x;.exact .inl ho
     .right;cases e:H x with|none=>rfl|some o=>rw[a.keep x o e ho]at q6;cases q6
theorem wA.Z5{F1 c e f:Hp}{a b:List Sl}{r:R}(s1:aB K F ρ σ H F1 a σ c)(g:cW K F1 a σ c ρ σ H v r)(s2:aB K F1 a σ c e b σ f)(A:wA K e b σ f a c as vs):wA K e b σ f ρ H (wU r::as) (v::vs):=by
 have h1:zL K F1 a σ c ρ H v (wU r):=by cases r with|val d=>exact g|own ds=>exact g
 refine .cons (h1.later s2) (A.rebase s1) λds x m ev k es o j=>?_;cases r with|val d=>cases m|own p=>
   obtain⟨y,xs,l,q,u,w,s,B⟩:=g;rw[ev]at l;cases l;have h:=A.one k _ _ o j;obtain⟨z,C,t,_,_,_,_,w6⟩:=h;cases t;rcases w6 with w6|w6;.exact s w6
   .rw[q]at w6;cases w6
end
section
variable{K:PySem.W.Frag}{F F1 H H1:Hp}{ρ ρ1 ρ2:List Sl}{σ σ1:L2.St}
theorem uY{s:Sl}(h:put ρ i s=some ρ1):∃s0,ρ[i]?=some s0/\tL s0=false/\ρ1=ρ.set i s:=by
 unfold put at h;split at h;.rename_i q;cases h;exact⟨_,q,rfl,rfl⟩
 .rename_i q;cases h;exact⟨_,q,rfl,rfl⟩
 .rename_i q;cases h;exact⟨_,q,rfl,rfl⟩
 .cases h
theorem aB.put{r:R}(s:aB K F ρ σ H F1 ρ1 σ1 H1)(y:cW K F1 ρ1 σ1 H1 ρ σ H v r)(h:HH.put ρ1 i (zO r)=some ρ2):aB K F ρ σ H F1 ρ2 (σ1.set i (some v)) H1:=by
 obtain⟨s0,h0,B,rfl⟩:=uY h;have hi:i<ρ1.length:=(dJ h0).1;have m:i<σ1.length:=by rw[<-s.gs.len];exact hi
 have f:∀{j:Nat}{a:bd},j≠i->bf (ρ1.set i (zO r)) (σ1.set i (some v)) j a->bf ρ1 σ1 j a:=λ{j a}c⟨⟨t,ds,o,p⟩,g⟩=>by rw[fG c]at o g;exact⟨⟨t,ds,o,p⟩,g⟩
 have q:∀{a:bd},bf (ρ1.set i (zO r)) (σ1.set i (some v)) i a->¬ Own ρ1 σ1 a/\(Own ρ σ a\/H a=none):=λ{a}⟨⟨t,ds,o,p⟩,g⟩=>by rw[bx hi]at o;rw[bx m]at g;cases o;cases g;cases r with|val d=>cases p|own es=>obtain⟨x,xs,I,C,E,G,J,L⟩:=y;cases I;exact⟨J,L⟩
 refine⟨⟨s.gs.sub,by simp[s.gs.len],λj b d e=>?_,λj t ds e z=>?_,λj k a h1 A=>?_⟩,s.bQ,s.yt,s.keep,λa⟨j,c⟩=>?_,by simp[s.len],λj t e l=>?_⟩
 . by_cases c:j=i;.subst c;rw[bx hi]at e;cases r with|own es=>cases e|val d'=>cases e;exact⟨v,bx m,y⟩
   .rw[fG c]at e ⊢;exact s.gs.val j b d e
 . by_cases c:j=i;.subst c;rw[bx hi]at e;cases r with|val d'=>cases e;cases z|own es=>cases e;cases z;obtain⟨x,xs,rfl,C,E,G,_⟩:=y;exact⟨x,_,bx m,C,E,xs,rfl,G⟩
   .rw[fG c]at e ⊢;exact s.gs.own j t ds e z
 . by_cases c:j=i
   . by_cases u:k=i;.rw[c,u]
     .subst c;exact absurd ⟨k,f u A⟩ (q h1).1
   . by_cases u:k=i;.subst u;exact absurd ⟨j,f c h1⟩ (q A).1
     .exact s.gs.dis j k a (f c h1) (f u A)
 . by_cases w:j=i;.subst w;exact(q c).2
   .exact s.wg a ⟨j,f w c⟩
 . obtain⟨o,t1,p,g⟩:=s.lk j t e l;have c:j≠i:=by rintro rfl;rw[h0]at p;cases p;rw[g.tL l]at B;cases B
   exact⟨by rw[fG c];exact o,t1,by rw[fG c];exact p,g⟩
theorem GS.mut{x:Nat}{b:Bool}{es:List D}{a:bd}{ys:List V}(g:GS K F ρ σ H)(e:ρ[x]?=some (.own b ds))(p:σ[x]?=some (some (.ref a)))(r:aH K F ys es):aB K F ρ σ H F (ρ.set x (.own b es)) σ (upd H a (.lst ys)):=by
 have hi:x<ρ.length:=(dJ e).1;have w:bf ρ σ x a:=⟨⟨_,_,e,rfl⟩,p⟩;obtain⟨J,xs,h1,L,y,M⟩:=g.lK x _ ds e rfl;rw[p]at h1;cases h1;have h:∀{j:Nat}{c:bd},bf (ρ.set x (.own b es)) σ j c->bf ρ σ j c:=λ{j c}⟨⟨t,dt,m,s⟩,q3⟩=>by
  by_cases f:j=x;.subst f;exact⟨⟨_,_,e,rfl⟩,q3⟩
  .rw[fG f]at m;exact⟨⟨t,dt,m,s⟩,q3⟩
 refine⟨⟨λc o q=>?_,by simp[g.len],λj A d q=>?_,λj t dt q u=>?_,λj k c m s=>g.dis j k c (h m) (h s)⟩,.refl _,λc n B=>absurd n B,λc o q n=>?_,λc⟨j,q⟩=>.inl ⟨j,h q⟩,by simp,λj t q l=>⟨rfl,?_⟩⟩
 . have:c≠a:=by rintro rfl;rw[y]at q;cases q
   rw[aC this];exact g.sub c o q
 . by_cases f:j=x;.subst f;rw[bx hi]at q;cases q
   .rw[fG f]at q;exact g.val j A d q
 . by_cases f:j=x;.subst f;rw[bx hi]at q;cases q;cases u;exact⟨a,_,p,aP,y,ys,rfl,r⟩
   . rw[fG f]at q;obtain⟨c,C,z,E,G,I⟩:=g.own j t dt q u;have:c≠a:=by rintro rfl;exact f (g.dis j x c ⟨⟨t,dt,q,u⟩,z⟩ w)
     exact⟨c,C,z,by rw[aC this];exact E,G,I⟩
 . have:c≠a:=by rintro rfl;exact n ⟨x,w⟩
   rw[aC this];exact q
 . by_cases f:j=x;.subst f;rw[e]at q;cases q;refine⟨_,bx hi,?_⟩;cases b with|true=>exact .inl ⟨_,rfl⟩|false=>cases l
   .exact⟨t,by rw[fG f];exact q,.refl t⟩
theorem GS.lend{b:Bool}(g:GS K F ρ σ H)(e:ρ[i]?=some (.own b ds)):GS K F (ρ.set i (.lent ds)) σ H:=by
 have hi:i<ρ.length:=(dJ e).1;have f:∀{j:Nat}{c:bd},bf (ρ.set i (.lent ds)) σ j c->bf ρ σ j c:=λ{j c}⟨⟨t,dt,h,l⟩,q3⟩=>by
  by_cases a:j=i;.subst a;exact⟨⟨_,_,e,rfl⟩,q3⟩
  .rw[fG a]at h;exact⟨⟨t,dt,h,l⟩,q3⟩
 refine⟨g.sub,by simp[g.len],λj o d q=>?_,λj t dt q m=>?_,λj k c h l=>g.dis j k c (f h) (f l)⟩
 . by_cases a:j=i;.subst a;rw[bx hi]at q;cases q
   .rw[fG a]at q;exact g.val j o d q
 . by_cases a:j=i;.subst a;rw[bx hi]at q;cases q;cases m;exact g.own j _ _ e rfl
   .rw[fG a]at q;exact g.own j t dt q m
theorem aB.aY{b:Bool}(g:GS K F ρ σ H)(e:ρ[i]?=some (.own b ds))(s:aB K F (ρ.set i (.lent ds)) σ H F1 ρ1 σ1 H1):aB K F ρ σ H F1 (ρ1.set i (.own b ds)) σ1 H1/\∀v r,cW K F1 ρ1 σ1 H1 (ρ.set i (.lent ds)) σ H v r->cW K F1 (ρ1.set i (.own b ds)) σ1 H1 ρ σ H v r:=by
 have hi:i<ρ.length:=(dJ e).1;have h1:(ρ.set i (.lent ds))[i]?=some (.lent ds):=bx hi;obtain⟨C,E,z,G⟩:=s.lk i _ h1 rfl;cases(show E=.lent ds from G);have u:i<ρ1.length:=(dJ z).1;have A:∀{j:Nat}{c:bd},bf (ρ.set i (.lent ds)) σ j c->bf ρ σ j c:=λ{j c}⟨⟨t,dt,f,p⟩,m⟩=>by
  by_cases a:j=i;.subst a;exact⟨⟨_,_,e,rfl⟩,m⟩
  .rw[fG a]at f;exact⟨⟨t,dt,f,p⟩,m⟩
 have I:∀{c:bd},Own ρ σ c->Own (ρ.set i (.lent ds)) σ c:=λ{c}⟨j,⟨t,dt,f,p⟩,m⟩=>by
  by_cases a:j=i;.subst a;exact⟨j,⟨_,_,h1,rfl⟩,m⟩
  .exact⟨j,⟨t,dt,by rw[fG a];exact f,p⟩,m⟩
 have y:∀{j:Nat}{c:bd},bf (ρ1.set i (.own b ds)) σ1 j c->bf ρ1 σ1 j c:=λ{j c}⟨⟨t,dt,f,p⟩,m⟩=>by
  by_cases a:j=i;.subst a;exact⟨⟨_,_,z,rfl⟩,m⟩
  .rw[fG a]at f;exact⟨⟨t,dt,f,p⟩,m⟩
 have w:∀{c:bd}{h:Hp},Own (ρ.set i (.lent ds)) σ c\/h c=none->Own ρ σ c\/h c=none:=λ{c h}q=>q.imp (λ⟨j,q⟩=>⟨j,A q⟩) id;have J:∀{c:bd}{h:Hp},Own (ρ.set i (.lent ds)) σ c\/nt (h c)=none->Own ρ σ c\/nt (h c)=none:=λ{c h}q=>q.imp (λ⟨j,q⟩=>⟨j,A q⟩) id;refine⟨⟨⟨s.gs.sub,by simp[s.gs.len],λj L d q=>?_,λj t dt q B=>?_,λj k c f p=>s.gs.dis j k c (y f) (y p)⟩,s.bQ,λc n M=>J (s.yt c n M),λc o q n=>s.keep c o q λ⟨j,x⟩=>n ⟨j,A x⟩,λc⟨j,q⟩=>w (s.wg c ⟨j,y q⟩),by simpa using s.len,λj t q l=>?_⟩,λv r h=>?_⟩
 . by_cases a:j=i;.subst a;rw[bx u]at q;cases q
   .rw[fG a]at q;exact s.gs.val j L d q
 . by_cases a:j=i;.subst a;rw[bx u]at q;cases q;cases B;exact s.gs.own j _ _ z rfl
   .rw[fG a]at q;exact s.gs.own j t dt q B
 . by_cases a:j=i;.subst a;rw[e]at q;cases q;refine⟨C,_,bx u,?_⟩;cases b with|true=>exact .inl ⟨_,rfl⟩|false=>cases l
   .obtain⟨N,t',O,Q⟩:=s.lk j t (by rw[fG a];exact q) l;exact⟨N,t',by rw[fG a];exact O,Q⟩
 .cases r with|val d=>exact h|own es=>obtain⟨x,xs,f,p,m,U,W,X⟩:=h;exact⟨x,xs,f,p,m,U,λ⟨j,q⟩=>W ⟨j,y q⟩,w X⟩
theorem GS.give(g:GS K F ρ σ H)(e:ρ[i]?=some (.own false ds)):∃v,σ[i]?=some (some v)/\aB K F ρ σ H F (ρ.set i .aQ) σ H/\cW K F (ρ.set i .aQ) σ H ρ σ H v (.own ds):=by
 have hi:i<ρ.length:=(dJ e).1;obtain⟨a,xs,h1,r,s,u⟩:=g.lK i _ ds e rfl;have f:∀{j:Nat}{c:bd},bf (ρ.set i .aQ) σ j c->bf ρ σ j c/\j≠i:=λ{j c}⟨⟨t,dt,h,m⟩,q3⟩=>by
  by_cases b:j=i;.subst b;rw[bx hi]at h;cases h;cases m
  .rw[fG b]at h;exact⟨⟨⟨t,dt,h,m⟩,q3⟩,b⟩
 have o:bf ρ σ i a:=⟨⟨_,_,e,rfl⟩,h1⟩;refine⟨.ref a,h1,⟨⟨g.sub,by simp[g.len],λj w d q=>?_,λj t dt q p=>?_,λj k c h m=>g.dis j k c (f h).1 (f m).1⟩,.refl _,λc n y=>absurd n y,λ_ _ q _=>q,λc⟨j,q⟩=>.inl ⟨j,(f q).1⟩,by simp,λj t q l=>⟨rfl,?_⟩⟩,a,xs,rfl,r,s,u,λ⟨j,q⟩=>?_,.inl ⟨i,o⟩⟩
 . by_cases b:j=i;.subst b;rw[bx hi]at q;cases q
   .rw[fG b]at q;exact g.val j w d q
 . by_cases b:j=i;.subst b;rw[bx hi]at q;cases q;cases p
   .rw[fG b]at q;exact g.own j t dt q p
 . by_cases b:j=i;.subst b;rw[e]at q;cases q;cases l
   .exact⟨t,by rw[fG b];exact q,.refl t⟩
 .exact(f q).2 (g.dis j i a (f q).1 o)
theorem GS.more{τ:List (Option V)}(g:GS K F ρ σ H)(u:τ.length=n):GS K F (ρ++b_ n .aQ) (σ++τ) H:=by
 have get:∀{j:Nat}{t:Sl},(ρ++b_ n Sl.aQ)[j]?=some t->t≠.aQ->ρ[j]?=some t/\j<ρ.length:=λ{j t}q ne=>by
  by_cases h:j<ρ.length;.rw[cK h]at q;exact⟨q,h⟩
  . rw[er (by omega),ip]at q;split at q;.cases q;exact absurd rfl ne
    .cases q
 have m:∀{j:Nat}{v:Option V},j<ρ.length->(σ[j]?=some v↔(σ++τ)[j]?=some v):=λ{j v}h=>by rw[cK (by rw[<-g.len];exact h)]
 have e:∀{j:Nat}{c:bd},bf (ρ++b_ n .aQ) (σ++τ) j c->bf ρ σ j c:=λ{j c}⟨⟨t,dt,o,l⟩,q3⟩=>by obtain⟨h1,f⟩:=get o (by rintro rfl;cases l);exact⟨⟨t,dt,h1,l⟩,(m f).mpr q3⟩
 refine⟨g.sub,by simp[g.len,u],λj b d q=>?_,λj t dt q s=>?_,λj k c o l=>g.dis j k c (e o) (e l)⟩;.obtain⟨h1,f⟩:=get q (by simp);obtain⟨v,p,r⟩:=g.val j b d h1;exact⟨v,(m f).mp p,r⟩
 .obtain⟨h1,f⟩:=get q (by rintro rfl;cases s);obtain⟨a,xs,p,r⟩:=g.own j t dt h1 s;exact⟨a,xs,(m f).mp p,r⟩
theorem aB.less{τ:List (Option V)}{m:Nat}(L:m=ρ.length)(g:GS K F ρ σ H)(Z:τ.length=n)(s:aB K F (ρ++b_ n .aQ) (σ++τ) H F1 ρ1 σ1 H1):aB K F ρ σ H F1 (ρ1.take m) (σ1.take m) H1/\∀v r,cW K F1 ρ1 σ1 H1 (ρ++b_ n .aQ) (σ++τ) H v r->cW K F1 (ρ1.take m) (σ1.take m) H1 ρ σ H v r:=by
 subst L;have l1:ρ.length<=ρ1.length:=by rw[s.len];simp
 have l2:ρ.length<=σ1.length:=by rw[<-s.gs.len];exact l1
 have z:∀{y:Type}{l:List y}{j:Nat}{x:y},(l.take ρ.length)[j]?=some x->l[j]?=some x/\j<ρ.length:=λ{y l j x}q=>by
  rw[kX]at q;split at q;.exact⟨q,by assumption⟩
  .cases q
 have B:∀{y:Type}{l:List y}{j:Nat}{x:y},j<ρ.length->l[j]?=some x->(l.take ρ.length)[j]?=some x:=λ{y l j x}f q=>by rw[kX,if_pos f];exact q
 have C:∀{c:bd},Own (ρ++b_ n .aQ) (σ++τ) c->Own ρ σ c:=λ{c}⟨j,⟨t,dt,e,p⟩,u⟩=>by
  by_cases f:j<ρ.length;.rw[cK f]at e;rw[cK (by rw[<-g.len];exact f)]at u;exact⟨j,⟨t,dt,e,p⟩,u⟩
  . rw[er (by omega),ip]at e;split at e;.cases e;cases p
    .cases e
 have M:∀{c:bd},Own ρ σ c->Own (ρ++b_ n .aQ) (σ++τ) c:=λ{c}⟨j,⟨t,dt,e,p⟩,u⟩=>by have f:j<ρ.length:=(dJ e).1;exact⟨j,⟨t,dt,by rw[cK f];exact e,p⟩,by rw[cK (by rw[<-g.len];exact f)];exact u⟩
 have A:∀{j:Nat}{c:bd},bf (ρ1.take ρ.length) (σ1.take ρ.length) j c->bf ρ1 σ1 j c:=λ{j c}⟨⟨t,dt,e,p⟩,u⟩=>⟨⟨t,dt,(z e).1,p⟩,(z u).1⟩;have w:∀{c:bd}{h:Hp},Own (ρ++b_ n .aQ) (σ++τ) c\/h c=none->Own ρ σ c\/h c=none:=λ{c h}q=>q.imp C id;have N:∀{c:bd}{h:Hp},Own (ρ++b_ n .aQ) (σ++τ) c\/nt (h c)=none->Own ρ σ c\/nt (h c)=none:=λ{c h}q=>q.imp C id;refine⟨⟨⟨s.gs.sub,by simp only[k7];omega,λj b d q=>?_,λj t dt q O=>?_,λj k c e p=>s.gs.dis j k c (A e) (A p)⟩,s.bQ,λc a b=>N (s.yt c a b),λc o q n=>s.keep c o q λx=>n (C x),λc⟨j,q⟩=>w (s.wg c ⟨j,A q⟩),by simp only[k7];omega,λj t q l=>?_⟩,λv r h=>?_⟩;.obtain⟨h1,E⟩:=z q;obtain⟨v,G,I⟩:=s.gs.val j b d h1;exact⟨v,B E G,I⟩
 .obtain⟨h1,E⟩:=z q;obtain⟨a,xs,G,I⟩:=s.gs.own j t dt h1 O;exact⟨a,xs,B E G,I⟩
 .have f:j<ρ.length:=(dJ q).1;obtain⟨J,t',Q,U⟩:=s.lk j t (by rw[cK f];exact q) l;rw[cK (by rw[<-g.len];exact f)]at J;refine⟨?_,t',B f Q,U⟩;rw[kX,if_pos f];exact J
 .cases r with|val d=>exact h|own es=>obtain⟨x,xs,e,p,u,W,X,Y⟩:=h;exact⟨x,xs,e,p,u,W,λ⟨j,q⟩=>X ⟨j,A q⟩,w Y⟩
end
section
variable{X:Cx}{c:Call}{n:Nat}{e a b d:dr}{p pa pb pd:P}{pos:Pos}{es:List dr}{ps:List P}
inductive ade(K:PySem.W.Frag)(f:List Sl->Res (List Arg))(σ:L2.St)(H:Hp)(Q:List V->Hp->Prop):Prop where|mk(F:Hp)(ρ:List Sl)(as:List Arg)(ρ':List Sl)(g:GS K F ρ σ H)(e:f ρ=.ok as ρ')(k:∀vs F' H',aB K F ρ σ H F' ρ' σ H'->wA K F' ρ' σ H' ρ H as vs->Q vs H')
noncomputable def SG(X:Cx)(c:Call)(es:List dr)(ps:List P):Prop:=PA X es (ade X.K (yF c ps))
theorem aA:SG X c [] []:=qL dD λσ H Q⟨F,ρ,as,ρ',g,e,k⟩=>by rw[yF]at e;cases e;exact k [] F H (.refl g) .nil
theorem Nj(q:SX X c a pa)(hr:SG X c es ps)(hs:cv (a::es) X.env=(false,eu a X.env)::cv es X.env:=by rfl):SG X c (a::es) (pa::ps):=by cases hv:isVar pa with|none=>refine qL (bF q.ev hr hs) ?_;rintro σ H Q⟨F,ρ,as,ρ',g,e,k⟩;rw[yF,hv]at e;obtain⟨r,f,s,e⟩:=aj e;obtain⟨xs,h,j,e⟩:=aj e;cases e;refine⟨F,ρ,r,f,g,s,λv F1 B s1 t=>⟨F1,f,xs,_,s1.gs,j,λvs l m s2 A=>k _ l m (s1.trans s2) (wA.Z5 s1 t s2 A)⟩⟩|some i=>refine qL (bF (q.var i hv) hr hs) ?_;rintro σ H Q⟨F,ρ,as,ρ',g,e,k⟩;rw[yF,hv]at e;obtain⟨x0,u,w,e⟩:=aj e;obtain⟨o,y⟩:=aD w;subst y;obtain⟨xs,h,j,e⟩:=aj e;cases e;obtain⟨v,h1,_⟩:=g.pk o;exact⟨v,h1,F,ρ,xs,_,g,j,λvs l m s2 A=>k _ l m s2 (.cons h1 A λds x z=>by cases z)⟩
theorem K9{k f:Nat}{t:bd}{fd:hJ}{j:List Str}(J:ou X.prog X.w X.K X.mg X.base Gs k t fd j (M5 X.K j.length (c f)))(hr:jJ k X.A)(L:Gl X x)(M:X.mg x=some (.ref t))(N:keepIn X.K (.ref t)=true)(O:Binds X.K fd j [])(U:SG X c (e::es) ps)(W:(e::es).length=j.length)(u:(x==("__debug__":Str))=false:=by decide)(he:cv (e::es) X.env=(false,eu e X.env)::cv es X.env:=by rfl)(hpl:(iF pos (cv es X.env)).any (·.1)=false:=by rfl)(y:ps.length=(e::es).length:=by rfl):SX X c (.Call (.Name x p') (e::es) [] pos) (.call f ps):=by
 refine⟨dR (Lw (E:=E0) J hr L M N O .nil Zr U u he hpl) ?_,λi h=>by cases h⟩;rintro σ H Q⟨F,ρ,r,ρ',g,e,k⟩;rw[HH.E16]at e;obtain⟨as,z,G,e⟩:=aj e;unfold qz at e;split at e;.cases e
 . rename_i args m;split at e
   . rename_i r' l hc;cases e;refine⟨F,ρ,as,z,g,G,λvs F1 Y s1 A=>?_⟩;have o:vs.length=j.length:=by
      have:∀{ps:List P}{ρ ρ':List Sl}{as:List Arg},yF c ps ρ=.ok as ρ'->as.length=ps.length:=by intro ps;induction ps with|nil=>intro ρ ρ' as h;rw[yF]at h;cases h;rfl|cons q j I=>
         intro ρ ρ' as h;rw[yF]at h;split at h;.obtain⟨_,_,_,h⟩:=aj h;obtain⟨xs,B,C,h⟩:=aj h;cases h;simp[I C]
         .obtain⟨_,_,_,h⟩:=aj h;obtain⟨xs,B,C,h⟩:=aj h;cases h;simp[I C]
      rw[<-A.len,this G,y,W]
     show M5 X.K j.length (c f) (vs++[]) Y Q E0;rw[fE];refine⟨o,F1,args,r,l,args_gs s1.gs A m,hc,λv Z ac H' s rr=>?_⟩;obtain⟨z1,z2⟩:=Jf s1 A m s;exact k v Z H' z1 (z2 v r rr)
   .cases e
   .cases e
noncomputable def JQ(K:PySem.W.Frag)(D:Ends)(h:Hp)(ρ':List Sl)(f:L2.St)(g:Hp)(ρ:List Sl)(σ:L2.St)(H:Hp)(fl:Fl):Prop:=match fl with|.next=>D.nx f g|.brk=>D.bk f g|.cont=>D.ct f g|.ret r=>∀v,cW K h ρ' f g ρ σ H v r->D.rt v g
inductive tEx(K:PySem.W.Frag)(f:List Sl->Res Fl)(D:Ends)(σ:L2.St)(H:Hp):Prop where|mk(F:Hp)(ρ:List Sl)(fl:Fl)(ρ':List Sl)(g:GS K F ρ σ H)(e:f ρ=.ok fl ρ')(k:∀F' σ' H',aB K F ρ σ H F' ρ' σ' H'->JQ K D F' ρ' σ' H' ρ σ H fl)
noncomputable def SS(X:Cx)(c:Call)(n:Nat)(st:eJ)(s:S):Prop:=PS X st (tEx X.K (ex c n s))
noncomputable def SB(X:Cx)(c:Call)(n:Nat)(st:List eJ)(s:List S):Prop:=wj X st (tEx X.K (iB c n s))
theorem dB{st:eJ}{t t':TS}(h:PS X st t)(i:∀D σ H,t' D σ H->t D σ H):PS X st t':=λf s σ H D I q=>h f s σ H D I (i D σ H q)
theorem nM{st:List eJ}{t t':TS}(h:wj X st t)(i:∀D σ H,t' D σ H->t D σ H):wj X st t':=λf s σ H D I q=>h f s σ H D I (i D σ H q)
theorem xs0{c:Call}:iB c n [] ρ=.ok .next ρ:=rfl
theorem RN{c:Call}{s:S}{r:List S}:iB c n (s::r) ρ=(ex c n s ρ).bind λfl ρ=>match fl with|.next=>iB c n r ρ|fl=>.ok fl ρ:=rfl
theorem au:SB X c n [] []:=nM Cv λD σ H⟨F,ρ,fl,ρ',g,e,k⟩=>by rw[xs0]at e;cases e;exact k F σ H (.refl g)
theorem aM{st:eJ}{s:S}{f:List eJ}{ss:List S}(h1:SS X c n st s)(m:SB X c n f ss):SB X c n (st::f) (s::ss):=by refine nM (mF h1 m) ?_;rintro D σ H⟨F,ρ,fl,ρ',g,e,k⟩;rw[RN]at e;obtain⟨f1,h,j,e⟩:=aj e;cases f1 with
 |next=>refine⟨F,ρ,.next,h,g,j,λF1 o y s1=>⟨F1,h,fl,ρ',s1.gs,e,λt l u s2=>?_⟩⟩;have q:=k t l u (s1.trans s2);cases fl with|next=>exact q|brk=>exact q|cont=>exact q|ret r=>exact λv w=>q v (w.later s1)
 |brk=>cases e;exact⟨F,ρ,.brk,_,g,j,k⟩|cont=>cases e;exact⟨F,ρ,.cont,_,g,j,k⟩|ret r=>cases e;exact⟨F,ρ,.ret r,_,g,j,k⟩
theorem nU{st:eJ}:SS X c n st .bad:=dB HF λD σ H⟨F,ρ,fl,ρ',g,e,k⟩=>by rw[HH.X4]at e;cases e
theorem CK(he:SX X c e p)(hs:fx e none pos.line X.env=eT false:=by rfl):SS X c n (.Expr e pos) (.expr p):=by refine dB (pN he.ev hs) ?_;rintro D σ H⟨F,ρ,fl,ρ',g,e,k⟩;rw[HH.X5]at e;obtain⟨r,f,h,e⟩:=aj e;cases e;exact⟨F,ρ,r,_,g,h,λv F1 j s1 l=>k F1 σ j s1⟩
theorem Zn{t1 t2:TE}(h1:PE X e t1)(g:PE X e t2):PE X e (λσ H Q=>t1 σ H Q\/t2 σ H Q):=λf s σ H Q I h=>h.elim (h1 f s σ H Q I) (g f s σ H Q I)
theorem S8(he:SX X c e p):SS X c n (.Return (some e) pos) (.ret p):=by
 have plain:∀(D:Ends)(σ:L2.St)(H:Hp),(∃F ρ fl ρ',GS X.K F ρ σ H/\((HH.ev c p ρ).bind λr ρ=>.ok (Fl.ret r) ρ)=.ok fl ρ'/\∀j f h,aB X.K F ρ σ H j ρ' f h->(match fl with|.next=>D.nx f h|.brk=>D.bk f h|.cont=>D.ct f h|.ret r=>∀v,cW X.K j ρ' f h ρ σ H v r->D.rt v h))->vK X.K (HH.ev c p) σ H D.rt:=λD σ H⟨F,ρ,fl,ρ',g,e,k⟩=>by obtain⟨r,l,m,e⟩:=aj e;cases e;exact⟨F,ρ,r,_,g,m,λv F1 o s1 s=>k F1 σ o s1 v s⟩
 cases hv:isVar p with|none=>refine dB (GP he.ev) λD σ H⟨F,ρ,fl,ρ',g,e,k⟩=>plain D σ H ⟨F,ρ,fl,ρ',g,?_,k⟩;rw[HH.X11,hv]at e;exact e|some i=>--by the name itself:its own list is handed back,else its data
   have t:p=.var i:=by cases p<;>cases hv;rfl
   subst t;refine dB (GP (Zn (he.var i hv) he.ev)) ?_;rintro D σ H⟨F,ρ,fl,ρ',g,e,k⟩;rw[HH.X11,hv]at e;dsimp only at e;split at e;.rename_i ds q;cases e;obtain⟨v,h1,u,w⟩:=g.give q;exact .inl ⟨v,h1,k F σ H u v w⟩
   .exact .inr (plain D σ H ⟨F,ρ,fl,ρ',g,e,k⟩)
theorem gC{m o:List eJ}{s t:List S}(hc:ST X c e p)(u:SB X c n m s)(w:SB X c n o t):SS X c n (.If e m o pos) (.ifs p s t):=by refine dB (Qw hc u w) ?_;rintro D σ H⟨F,ρ,fl,ρ',g,e,k⟩;rw[HH.X13]at e;obtain⟨x,j,y,e⟩:=aj e;refine⟨F,ρ,x,j,g,y,λF1 z s1=>?_⟩;have go:∀{f:List Sl->Res Fl},f j=.ok fl ρ'->tEx X.K f D σ z:=λ{f}h=>⟨F1,j,fl,ρ',s1.gs,h,λA l B s2=>by have q:=k A l B (s1.trans s2);cases fl with|next=>exact q|brk=>exact q|cont=>exact q|ret r=>exact λv C=>q v (C.later s1)⟩;cases x with|true=>rw[if_pos rfl]at e;exact go e|false=>rw[if_neg dQ]at e;exact go e
theorem oE{f:Pos}(l:X.N.Nodup)(hi:X.N[i]?=some x)(m:Loc X.env.scope x)(he:SX X c e p)(hs:fx e (some (.Name x f)) pos.line X.env=eT false:=by rfl)(o:X.fn x=true\/X.env.scope.names.lookup x=some .local:=by first|exact .inl rfl|exact .inr rfl|assumption):SS X c n (.Assign [.Name x f] e pos) (.asg i p):=by refine dB (vI l hi m he.ev hs o) ?_;rintro D σ H⟨F,ρ,fl,ρ',g,e,k⟩;rw[HH.X6]at e;obtain⟨r,j,q,e⟩:=aj e;obtain⟨s,t,h,e⟩:=aj e;cases e;have u:=aD h;clear h;obtain⟨h,z⟩:=u;exact⟨F,ρ,r,j,g,q,λv F1 w s1 y=>k F1 _ w (s1.put y h)⟩
end
end HH
end
section
namespace L2
open PySem PySem.Spec PyProof.Rows
variable{env:Env}{scope:jp}{X:Cx}
noncomputable def oW(X:Cx)(scope:jp)(N':List Str)(cl:List (Str×bd))(C:bd)(s₀:a_)(H₀:Hp)(ex:List bd):Cx:={X with N:=N',s₀:=s₀,H₀:=H₀,env:=compEnvC scope cl C X.env,outer:=X.stack,stack:=X.stack,ex:=ex,fn:=λx=>scope.names.lookup x==some .cell,pn:=[],xe:=λ_ _=>False}
theorem zH(l:List (Str×ke)):∀(cs:List (Str×bd)),(∀n,(n,eI)∈l->∃c,env.cells.lookup n=some c)->(∀n c,cs.lookup n=some c->env.cells.lookup n=some c)->∃ cl,(forIn l cs (λ(x:Str × ke)(r:List (Str × bd))=>(if(x.2==eI)=true then(do let a<-cellOf env x.1;eT (h8 ((x.1,a)::r)))else eT (h8 r):Sem (ForInStep (List (Str × bd))))):Sem (List (Str × bd)))=eT cl/\(∀n c,cl.lookup n=some c->env.cells.lookup n=some c)/\(∀n,((n,eI)∈l\/(cs.lookup n).isSome)->(cl.lookup n).isSome):=by induction l with|nil=>intro cs _ h;exact⟨cs,rfl,h,λn hn=>by rcases hn with hn|hn;cases hn;exact hn⟩|cons y l i=>
   obtain⟨n,k⟩:=y;intro cs b hc;rw[forIn_cons];by_cases f:k=.free
   . subst f;obtain⟨a,j⟩:=b n hU;obtain⟨cl,e,h1,g⟩:=i ((n,a)::cs) (λm hm=>b m (dE _ hm)) λm c hm=>by
      rw[fI]at hm;split at hm;.rename_i q;have q:=eq_of_beq q;subst q;cases hm;exact j
      .exact hc m c hm
     refine⟨cl,?_,h1,λm hm=>g m ?_⟩
     . rw[<-e];have:cellOf env n=eT a:=by unfold cellOf;rw[j]
       simp only[beq_self_eq_true,if_true,this];rfl
     . rcases hm with hm|hm
       . rcases de.mp hm with hm|hm;.cases hm;right;simp[fI]
         .exact .inl hm
       . right;rw[fI];split;.rfl
         .exact hm
   . obtain⟨cl,e,h1,g⟩:=i cs (λm hm=>b m (dE _ hm)) hc;refine⟨cl,?_,h1,λm hm=>g m ?_⟩
     . rw[<-e];have:(k==eI)=false:=by simpa using f
       simp only[this,iq,if_false];rfl
     . rcases hm with hm|hm
       . rcases de.mp hm with hm|hm;.cases hm;exact absurd rfl f
         .exact .inl hm
       .exact .inr hm
theorem Ad(a:∀n,(n,eI)∈scope.names->∃c,env.cells.lookup n=some c):∃cl,closureFor scope env=eT cl/\(∀n c,cl.lookup n=some c->env.cells.lookup n=some c)/\∀n,(n,eI)∈scope.names->(cl.lookup n).isSome:=by obtain⟨cl,e,h1,b⟩:=zH (env:=env) scope.names [] a (by simp);refine⟨cl,?_,h1,λn f=>b n (.inl f)⟩;unfold closureFor;exact(congrArg (λt=>t>>=λr=>eT r) e).trans rfl
theorem eV{env:Env}:∀(names:List (Str×ke))(x:Str),(names.map λ(n,k)=>if(k==eI&&env.scope.kind==.function&&env.kindOf n==some .cell)then(n,gi)else(n,k)).lookup x=(names.lookup x).map λk=>if(k==eI&&env.scope.kind==.function&&env.kindOf x==some .cell)=true then gi else k
 |[],x=>rfl|(n,k)::r,x=>by
   have a:=eV (env:=env) r x;show List.lookup x ((if(k==eI&&env.scope.kind==.function&&env.kindOf n==some .cell)=true then(n,gi)else(n,k))::_)=_;by_cases hc:(k==eI&&env.scope.kind==.function&&env.kindOf n==some .cell)=true;.rw[if_pos hc,fI,fI];cases hx:x==n with|true=>have:=eq_of_beq hx;subst this;show some gi=some (if _ then _ else _);rw[if_pos hc]|false=>exact a
   .rw[if_neg hc,fI,fI];cases hx:x==n with|true=>have:=eq_of_beq hx;subst this;show some k=some (if _ then _ else _);rw[if_neg hc]|false=>exact a
noncomputable def Y4(N N':List Str)(a:jp):Bool:=(N.zip N').all λp=>(p.1==p.2&&a.names.lookup p.2==some .free)||(a.names.lookup p.2!=some .local&&a.names.lookup p.2!=some .cell&&a.names.lookup p.2!=some .free)
structure eY(X:Cx)(scope:jp)(N':List Str)(n:Nat):Prop where
 kind:scope.kind=.function
 cons:∀y∈scope.names,scope.names.lookup y.1=some y.2
 names:∀y∈scope.names,y.2=.local->scope.names.lookup y.1=some .local
 cap:∀y∈scope.names,y.2=.free->X.env.scope.names.lookup y.1=some .cell\/X.env.scope.names.lookup y.1=some .free
 len:N'.length=X.N.length+n
 same:Y4 X.N N' scope=true
theorem eY.get{N':List Str}{n:Nat}(c:eY X scope N' n){i:Nat}{x:Str}(hi:i<X.N.length)(h:N'[i]?=some x)(a:v9 (i9 scope X.env) x):X.N[i]?=some x/\scope.names.lookup x=some .free:=by
 have hz:(X.N.zip N')[i]?=some (X.N[i],x):=by rw[h9];exact⟨by simp[hi],h⟩
 have:=(fP.mp c.same) _ (da hz);simp only[l9,fN]at this;rcases this with⟨h1,b⟩|⟨⟨h1,b⟩,f⟩;.have h1:=eq_of_beq h1;have b:=eq_of_beq b;exact⟨by simp[hi,h1],b⟩
 . exfalso;have h1:scope.names.lookup x≠some .local:=by simpa using h1
   have b:scope.names.lookup x≠some .cell:=by simpa using b
   have f:scope.names.lookup x≠some .free:=by simpa using f
   have e:=eV (env:=X.env) scope.names x;have a:(i9 scope X.env).names.lookup x=some .local\/(i9 scope X.env).names.lookup x=some .cell\/(i9 scope X.env).names.lookup x=some .free:=a;rw[show(i9 scope X.env).names.lookup x=_ from e]at a;cases q:scope.names.lookup x with|none=>rw[q]at a;simp at a|some k=>
     rw[q]at a h1 b f;have g:(k==eI)=false:=by cases k<;>first|rfl|exact absurd rfl f
     simp only[kf,g,mE,iq,if_false,Option.some.injEq]at a;rcases a with rfl|rfl|rfl;.exact h1 rfl
     .exact b rfl
     .exact f rfl
structure CI(cl:List (Str×bd))(z:Nat)(h:eA)(acc:List (Str×bd)):Prop where from':∀n c,acc.lookup n=some c->cl.lookup n=some c\/(z<=c/\h.IsCell c none)inj:∀n n' c,acc.lookup n=some c->acc.lookup n'=some c->n=n'
theorem Hz{cl:List (Str×bd)}{z:Nat}(i:∀n c,cl.lookup n=some c->c<z):∀(names:List (Str×ke))(h:eA)(f:List (Str×bd)),z<=h.objs.size->CI cl z h f->CI cl z (pushCells h names) (j_ h.objs.size names f)/\(∀n,(f.lookup n).isSome->((j_ h.objs.size names f).lookup n).isSome)/\(∀n,((∃c,f.lookup n=some c/\z<=c)\/(n,gi)∈names)->∃c,(j_ h.objs.size names f).lookup n=some c/\z<=c)/\(∀n c,(n,gi)∉names->(j_ h.objs.size names f).lookup n=some c->f.lookup n=some c)
 |[],h,f,hz,x=>by
   refine⟨x,λ_ q=>q,λn q=>?_,λ_ _ _ q=>q⟩;rcases q with q|q;.exact q
   .cases q|(name,kind)::r,h,f,hz,x=>by
   unfold pushCells j_;by_cases l:kind=.cell
   . subst l;rw[if_pos (by rfl),if_pos (by rfl)];have p:CI cl z (h.push {cls:=.type "cell",data:=.cell none}) ((name,h.objs.size)::f):=by
      have lt:∀n c,f.lookup n=some c->c<h.objs.size:=λn c e=>by
       rcases x.from' n c e with q|q;.exact d_ (i n c q) hz
       .exact q.2.lt
      refine⟨λn c e=>?_,λn m c e j=>?_⟩
      . rw[fI]at e;split at e;.cases e;exact .inr ⟨hz,_,cw _ rfl,rfl⟩
        . rcases x.from' n c e with q|q;.exact .inl q
          .exact .inr ⟨q.1,q.2.keeps λb o e=>dM e⟩
      . rw[fI]at e j;split at e<;>split at j;.rename_i _ a _ b;rw[eq_of_beq a,eq_of_beq b]
        .cases e;exact absurd (lt m _ j) (hV _)
        .cases j;exact absurd (lt n _ e) (hV _)
        .exact x.inj n m c e j
     have g:=Hz i r (h.push {cls:=.type "cell",data:=.cell none}) ((name,h.objs.size)::f) (by rw[ei];omega) p;rw[ei]at g;refine⟨g.1,λn q=>g.2.1 n ?_,λn q=>g.2.2.1 n ?_,λn c q e=>?_⟩
     . rw[fI];split;.rfl
       .exact q
     . rcases q with⟨c,e,hc⟩|q
       . left;rw[fI];split;.exact⟨_,rfl,hz⟩
         .exact⟨c,e,hc⟩
       . rcases de.mp q with q|q;.cases q;left;exact⟨_,by simp[fI],hz⟩
         .exact .inr q
     . have:=g.2.2.2 n c (λz=>q (dE _ z)) e;rw[fI]at this;split at this;.rename_i a;exact absurd (by rw[eq_of_beq a];exact hU) q
       .exact this
   . have k:(kind==gi)=false:=by simpa using l
     rw[if_neg (by rw[k];decide),if_neg (by rw[k];decide)];have g:=Hz i r h f hz x;refine⟨g.1,g.2.1,λn q=>g.2.2.1 n ?_,λn c q e=>g.2.2.2 n c (λz=>q (dE _ z)) e⟩;rcases q with q|q;.exact .inl q
     . rcases de.mp q with q|q;.cases q;exact absurd rfl l
       .exact .inr q
structure Ji(X:Cx)(scope:jp)(z:Nat)(h:eA)(cs:List (Str×bd)):Prop where
 from':∀n c,cs.lookup n=some c->X.env.cells.lookup n=some c\/(z<c/\h.IsCell c none)inj:∀n n' c,cs.lookup n=some c->cs.lookup n'=some c->n=n'
 has:∀n,(scope.names.lookup n=some .free\/scope.names.lookup n=some .cell)->∃c,cs.lookup n=some c
 fre:∀n c,scope.names.lookup n=some .free->cs.lookup n=some c->X.env.cells.lookup n=some c
 own:∀n c,scope.names.lookup n=some .cell->cs.lookup n=some c->z<c
theorem DR{M:qB}{A:ez}{E:aX->a_->Prop}{s:a_}{N':List Str}{n:Nat}{cl:List (Str×bd)}{Q:Env->a_->Prop}(ok:eY X scope N' n)(h:∀n c,X.env.cells.lookup n=some c->c<s.heap.objs.size)(f:∀x y c,X.env.cells.lookup x=some c->X.env.cells.lookup y=some c->x=y)(a:∀n c,cl.lookup n=some c->X.env.cells.lookup n=some c)(l:∀n,(n,eI)∈scope.names->(cl.lookup n).isSome)(m:∀ cs h',h'.Ns s.heap.objs.size (λ_=>none)->(∀ b o,s.heap.get? b=some o->h'.get? b=some o)->Ji X scope s.heap.objs.size h' cs->Q {scope:=scope,locals:=s.heap.objs.size,globals:=X.env.globals,cells:=cs,qual:=X.env.qual,func:=none,code:=X.env.code,frame:=X.env.frame,builtins:=X.env.builtins} {s with heap:=h'}):cy M A (nB scope X.env.globals cl [] X.env.qual none .none (some X.env)) Q E s:=by
 simp only[nB,Option.isSome_some,if_true];refine av (wpAny_alloc ?_);refine av (wpAny_layCells _ (λname kind cells=>by cases i:kind==gi<;>simp[i]) _ _ _ _ ?_);have ck:=Hz (cl:=cl) (z:=s.heap.objs.size+1) (λn c e=>Nat.lt_succ_of_lt (h n c (a n c e))) scope.names (s.heap.push {cls:=.type "dict",data:=.dict #[]}) cl (by rw[ei];exact dw) ⟨λn c e=>.inl e,λn k c e g=>f n k c (a n c e) (a k c g)⟩;obtain⟨c1,c2,c3,c4⟩:=ck;rw[show({s with heap:=s.heap.push {cls:=.type "dict",data:=.dict #[]}}:a_).heap.objs.size=(s.heap.push {cls:=.type "dict",data:=.dict #[]}).objs.size from rfl];refine av ?_;rw[forIn_nil];refine cr (cr (m _ _ ((Heap.Ns.new s.heap (.type "dict")).keeps (pushCells_keeps _ _)) (λb o e=>pushCells_keeps _ _ b o (dM e)) ⟨λn c e=>?_,c1.inj,λn q=>?_,λn c q e=>?_,λn c q e=>?_⟩))
 . rcases c1.from' n c e with z|z;.exact .inl (a n c z)
   .exact .inr ⟨z.1,z.2⟩
 . rcases q with q|q;.exact mB.mp (c2 n (l n (PySem.mem_of_lookup q)))
   .obtain⟨c,e,_⟩:=c3 n (.inr (PySem.mem_of_lookup q));exact⟨c,e⟩
 .refine a n c (c4 n c (λz=>?_) e);have:=ok.cons _ z;rw[q]at this;cases this
 .obtain⟨p,g,j⟩:=c3 n (.inr (PySem.mem_of_lookup q));rw[e]at g;cases g;exact j
section
variable{X:Cx}{pins:List (bd×Obj)}{σ:L2.St}{H:Hp}{s:a_}{scope:jp}{N':List Str}{n:Nat}{fp:List bd}{cl:List (Str×bd)}
theorem Ie{h1:eA}{m:Str->Option aX}{t:Nat}{cs:List (Str×bd)}(ok:eY X scope N' n)(I:Inv X pins σ H s)(G:∀b∈fp,nu X pins H b/\b<s.heap.objs.size)(w:Ji X scope s.heap.objs.size h1 cs)(U:h1.Ns s.heap.objs.size m)(j:∀b u,s.heap.get? b=some u->h1.get? b=some u):Inv (oW X scope N' cs s.heap.objs.size s H fp) [] (σ++b_ n none) H {s with heap:=h1,toks:=t}:=by
 have J:∀x,scope.names.lookup x=some .free->(i9 scope X.env).names.lookup x=some .cell\/(i9 scope X.env).names.lookup x=some .free:=λx h=>by
  have e:=eV (env:=X.env) scope.names x;rw[h]at e;have L:(i9 scope X.env).names.lookup x=_:=e;rw[L];simp only[kf];split;.exact .inl rfl
  .exact .inr rfl
 refine⟨⟨I.ok.mod,ok.kind,I.ok.glob,I.ok.blt,dw,λx y c h1 W=>w.inj x y c h1 W,λx z=>?_,λx c h e=>k8 (w.own x c (eq_of_beq (show(scope.names.lookup x==some gi)=true from h)) e),I.ok.hd,I.ok.frames,.inl rfl,λb B=>?_,I.bs,h_ I.ok.QH I.sz,λb u e B=>?_,λb B M=>?_,I.stack,I.CJ⟩,rfl,I.bare,Un.kept j,⟨m,U,λi x v Y C Z=>?_⟩,λx c e=>?_,I.hok.fresh (dw),λx c e=>?_,λp hp=>(by cases hp),I.hok.kept j,?_⟩;.--a aap name has its cell
   have z:(i9 scope X.env).names.lookup x=some .cell\/(i9 scope X.env).names.lookup x=some .free:=z;have e:=eV (env:=X.env) scope.names x;have L:(i9 scope X.env).names.lookup x=_:=e;rw[L]at z;refine w.has x ?_;cases q:scope.names.lookup x with|none=>rw[q]at z;simp at z|some k=>
     rw[q]at z;by_cases hk:k=.free;.rw[hk];exact .inl rfl
     . have g:(k==eI)=false:=by simpa using hk
       simp only[kf,g,mE,iq,if_false,Option.some.injEq]at z;rcases z with rfl|rfl;.exact .inr rfl
       .exact absurd rfl hk
 . obtain⟨f,lt⟩:=G b B;refine⟨dS lt,λx c e=>?_⟩;rcases w.from' x c e with e|e;.exact f.2.2.2.2.1 x c e
   .rintro rfl;exact absurd (nS e.1 lt) (hV _)
 . obtain⟨f,lt⟩:=G b B;rcases f.2.2.2.1 with h|h;.exact I.ok.Ka b u e h
   .have this:b<X.base.objs.size:=dl e;exact absurd (d_ this (h_ I.ok.QH h)) (hV _)
 . obtain⟨f,lt⟩:=G b B;rcases de.mp (I.uM b M)with h|h;.exact f.2.1 h
   .exact f.2.2.1 h
 .--the names
   have hi:i<σ.length:=by
    by_cases hi:i<σ.length;.exact hi
    .rw[er (by omega),ip]at C;split at C<;>cases C
   rw[cK hi]at C;obtain⟨N,o⟩:=ok.get (by rw[<-I.len];exact hi) Y Z;have hk:=ok.cap (x,.free) (PySem.mem_of_lookup o) rfl;obtain⟨m0,ac,hl⟩:=I.loc;obtain⟨u,r,l⟩:=hl i x v N C (.inr hk);refine⟨u,r,.inr ⟨J x o,?_⟩⟩;rcases l with⟨g,_⟩|⟨_,c,hc,A⟩;.have g:X.env.scope.names.lookup x=some .local:=g;rcases hk with hk|hk<;>(rw[g]at hk;cases hk)
   .obtain⟨c',E⟩:=w.has x (.inl o);have:=w.fre x c' o E;rw[hc]at this;cases this;refine⟨c,E,?_⟩;obtain⟨oc,O,Q⟩:=A;exact⟨oc,j c oc O,Q⟩
 . rcases w.from' x c e with e|e;.obtain⟨v,oc,O,Q⟩:=I.cell x c e;exact⟨v,oc,j c oc O,Q⟩
   .exact⟨_,e.2⟩
 . rcases w.from' x c e with e|e;.exact I.lz x c e
   .exact I.hok.fresh (k8 e.1)
 .show(σ++b_ n none).length=N'.length;rw[dZ,n4,I.len,ok.len]
theorem vW{prog:df}{w:ek}{A:ez}{R:Result->a_->Prop}{p a iter:dr}{ifs:List dr}{pos:Pos}{it q:aX}(I:Nat->a_->Prop)(t:∀ n s,I n s->cy (cS prog w) A (ny it) (λr b=>match r with|none=>R (.ok .next) b|some v=>cy (cS prog w) A (kQ a it v) (λ_ b=>cy (cS prog w) A (ku a env v) (λ_ j=>cy (cS prog w) A (forIn ifs true λc r=>if r=true then do let ok<-isTrue c env (eu c env);eT (h8 ok)else eT (h8 r)) (λok g=>if ok=true then cy (cS prog w) A (eu p env) (λx k=>cy (cS prog w) A (call (.builtin "list.append") [q,x]) (λ_ l=>∃m,m<n/\I m l) (nk (cS prog w) A env λe i=>R (.error e) i) k) (nk (cS prog w) A env λe i=>R (.error e) i) g else ∃m,m<n/\I m g) (nk (cS prog w) A env λe i=>R (.error e) i) j) (nk (cS prog w) A env λe i=>R (.error e) i) b) (nk (cS prog w) A env λe i=>R (.error e) i) b) (nk (cS prog w) A env λe i=>R (.error e) i) s)(n:Nat){s:a_}(h:I n s):kN (cS prog w) A (.compLoop (.ListComp p [⟨a,iter,ifs,0⟩] scope pos) 0 it q env) R s:=by refine codeAny_loop rfl I (λn s B=>?_) n h;show cy _ A ((compTurn (.ListComp p [⟨a,iter,ifs,0⟩] scope pos) 0 it q env).onRaise (λx=>do noteFrame x env;theTreesLotGoes x)) _ _ s;refine wpAny_noted ?_;rw[compTurn_list];refine av (lR (av (et (t n s B) (λr b f=>?_) λ_ _ h'=>h')));cases r with|none=>exact cr f|some v=>refine av (et f (λ_ b f=>?_) λ_ _ h'=>h');refine av (et f (λ_ j u=>av (et u (λok g o=>?_) λ_ _ h'=>h')) λ_ _ h'=>h');cases ok with|false=>exact cr ⟨rfl,o⟩|true=>exact av (av (et o (λx k y=>av (et y (λ_ l z=>cr (cr ⟨rfl,z⟩)) λ_ _ h'=>h')) λ_ _ h'=>h'))
noncomputable def Rr(X:Cx)(ifs:List dr)(t:TT):Prop:=∀(pins:List (bd × Obj))(s:a_)(σ:L2.St)(H:Hp)(Q:Bool->Hp->Prop),Inv X pins σ H s->t σ H Q->cy (cS X.prog X.w) X.A (forIn ifs true λc r=>if r=true then do let ok<-isTrue c X.env (eu c X.env);eT (h8 ok)else eT (h8 r)) (TP X pins σ Q) X.xe s
theorem La:Rr X [] (λ_ H Q=>Q true H):=λpins s σ H Q I h=>wpAny_tests_nil ⟨H,I,h⟩
theorem Nq{c:dr}{t:TT}(h:PT X c t):Rr X [c] t:=λpins s σ H Q I q=>wpAny_tests_one (h pins s σ H Q I q)
noncomputable def Pb(J:It)(g:TG)(tt:TT)(te:TE)(D:bd)(Q:Hp->Prop)(W:Nat->Nat->List V->L2.St->Hp->Prop):Prop:=∀ i m ys σ H,W i m ys σ H->H D=some (.lst ys)/\((J.stop i H/\Q H)\/(J.go i H/\∀ x e,J.Kd i H x e->g x σ e λa j=>tt a j λb f=>if b=true then te a f λy h=>h D=some (.lst ys)/\ys.length<sizeLine/\∃c,c<m/\W (i+1) c (ys++[y]) a (upd h D (.lst (ys++[y])))else ∃c,c<m/\W (i+1) c ys a f))
theorem uz{E:aX->a_->Prop}{af a iter:dr}{ifs:List dr}{pos:Pos}{it:bd}{tn:Nat->eA->Prop}{J:It}{g:TG}{tt:TT}{te:TE}{Q:bd->Hp->Prop}{RR:aX->bd->Result->a_->Prop}(hc:X.calm=true)(ok:eY X scope N' n)(I:Inv X pins σ H s)(bp:∀n c,cl.lookup n=some c->X.env.cells.lookup n=some c)(Aq:∀n,(n,eI)∈scope.names->(cl.lookup n).isSome)(T:Turn X.prog X.w X.K a J fp it tn)(h0:tn 0 s.heap)(hf:∀b∈fp,nu X pins H b)(hg:∀cl C s₀ H₀ ex,PG (oW X scope N' cl C s₀ H₀ ex) a g)(ht:∀cl C s₀ H₀ ex,Rr (oW X scope N' cl C s₀ H₀ ex) ifs tt)(he:∀cl C s₀ H₀ ex,PE (oW X scope N' cl C s₀ H₀ ex) af te)(hw:∀D,H D=none->∃W,(∃m,W 0 m [] (σ++b_ n none) (upd H D (.lst [])))/\Pb J g tt te D (Q D) W)(bq:∀D C B l,Q D l->(∃m,B.heap.Ns C m)->nu X pins l C->Inv X pins σ l B->RR (.ref D) C (.ok .next) B):cy (cS X.prog X.w) X.A (newList []) (λaw ax=>cy (cS X.prog X.w) X.A (nB scope X.env.globals cl [] X.env.qual none .none (some X.env)) (λal ay=>kN (cS X.prog X.w) X.A (.compStart (.ListComp af [⟨a,iter,ifs,0⟩] scope pos) 0 (.ref it) aw {al with scope:=i9 scope X.env}) (RR aw al.locals) ay) E ax) E s:=by
 refine ew (DR ok (λx c e=>?lt) I.ok.inj bp Aq (λcs M am hold bc=>?_));case lt=>obtain⟨v,z⟩:=I.cell x c e;exact d_ z.lt (by show _<=(s.heap.push _).objs.size;rw[ei];exact le_succ _)
 dsimp only at am hold bc ⊢--the new list,tracked
 have I3:Inv X pins σ (upd H s.heap.objs.size (.lst [])) {s with heap:=s.heap.push {cls:=.type "list",data:=.seq ([]:List aX).toArray}}:=I.Rx (t':=s.toks) .nil (vU);generalize ap:({s with heap:=s.heap.push {cls:=.type "list",data:=.seq ([]:List aX).toArray}}:a_)=s3 at I3;have hsz:s3.heap.objs.size=s.heap.objs.size+1:=by rw[<-ap];exact ei _ _
 have QS:s3.heap=s.heap.push {cls:=.type "list",data:=.seq ([]:List aX).toArray}:=by rw[<-ap]
 obtain⟨W,⟨m0,w0⟩,aE⟩:=hw s.heap.objs.size I.fresh;have aI:∀{h':eA},(∀b o,s.heap.get? b=some o->h'.get? b=some o)->tn 0 h':=λk=>T.keep _ _ _ h0 λb j o e=>k b o e;have ag:∀b∈fp,nu X pins (upd H s.heap.objs.size (.lst [])) b/\b<s3.heap.objs.size:=λb j=>by obtain⟨o,e,_⟩:=T.obj 0 _ h0 b j;have lt:=dl e;obtain⟨f1,f2⟩:=hf b j;exact⟨⟨by rw[aC (dS lt)];exact f1,f2⟩,by rw[hsz];exact Nat.lt_succ_of_lt lt⟩
 rw[<-QS]at am hold bc ⊢;have I4:=Ie (t:=s3.toks) ok I3 ag bc am hold;have aS:∀b o,s.heap.get? b=some o->M.get? b=some o:=λb o e=>hold b o (by rw[QS];exact dM e);generalize U:oW X scope N' cs s3.heap.objs.size s3 (upd H s.heap.objs.size (.lst [])) fp=G at I4;have hA:G.A=X.A:=by rw[<-U];rfl
 have N:G.prog=X.prog:=by rw[<-U];rfl
 have O:G.w=X.w:=by rw[<-U];rfl
 have aT:G.K=X.K:=by rw[<-U];rfl
 have Y:G.calm=true:=by rw[<-U];exact hc
 have br:G.xe=λ_ _=>False:=by rw[<-U];rfl
 have a9:G.env=compEnvC scope cs s3.heap.objs.size X.env:=by rw[<-U];rfl
 have bt:PG G a g:=by rw[<-U];exact hg _ _ _ _ _
 have bv:Rr G ifs tt:=by rw[<-U];exact ht _ _ _ _ _
 have bP:PE G af te:=by rw[<-U];exact he _ _ _ _ _
 have ff:∀{l:Hp}{b:bd},b∈fp->l b=none->nu G [] l b:=λ{l b}j hn=>by
  obtain⟨f,lt⟩:=ag b j;rw[<-U];refine⟨hn,dS lt,λbS=>?_,.inl j,λx c e=>?_,λp hp=>by cases hp⟩
  . rcases de.mp (I3.uM b bS)with h|h;.exact f.2.1 h
    .exact f.2.2.1 h
  . rcases bc.from' x c e with e|e;.exact f.2.2.2.2.1 x c e
    .rintro rfl;exact absurd (nS e.1 lt) (hV _)--behind the block
 have fin:∀{L:L2.St}{l:Hp}{B:a_},Inv G [] L l B->Q s.heap.objs.size l->RR (.ref s.heap.objs.size) s3.heap.objs.size (.ok .next) B:=λ{L l B}J' q=>by
  rw[<-U]at J';have hC:l s3.heap.objs.size=none:=J'.free;obtain⟨hh,gg,dd,bX,ca⟩:=B;have cb:ca=s3.os:=J'.os;subst cb;refine bq _ _ _ l q (let⟨m,hm,_⟩:=J'.loc;⟨m,hm⟩) ?_ (I3.call (h':=hh) (g':=gg) (d':=dd) (t':=bX) (ch:=fp) J'.base J'.hok J'.bare λb j=>?_);.exact I3.zQ (dw) hC
  .obtain⟨f,lt⟩:=ag b j;exact⟨f.2.2.2.1,f.2.1,f.2.2.2.2.1,f.2.2.2.2.2⟩
 have ac:kN (cS X.prog X.w) X.A (.compLoop (.ListComp af [⟨a,iter,ifs,0⟩] scope pos) 0 (.ref it) (.ref s.heap.objs.size) G.env) (RR (.ref s.heap.objs.size) s3.heap.objs.size) {s3 with heap:=M,toks:=s3.toks}:=by
  refine vW (λk B=>∃i ys L l,Inv G [] L l B/\tn i B.heap/\(∀b∈fp,l b=none)/\W i k ys L l) (λk s5 hI=>?_) m0 ⟨0,[],_,_,I4,aI aS,λb j=>(ag b j).1.1,w0⟩;obtain⟨i,ys,ah,H5,I5,t5,f5,w5⟩:=hI;obtain⟨hD,ar⟩:=aE i k ys ah H5 w5;have ai:∀{Z:aX->a_->Prop},∀(e:aX)(B:a_),G.xe e B->Z e B:=λe B z=>by rw[br]at z;exact fg z
  rcases ar with⟨stop,q⟩|⟨go,step⟩;.have z:=T.done G N O aT Y i [] s5 ah H5 (λ_ _=>False) I5 (λb j=>ff j (f5 b j)) t5 stop;rw[hA]at z;refine et z (?_) λ_ _ z=>fg z;rintro r s6⟨hr,I6⟩;subst hr;exact fin I6 q
  . have z:=T.item G N O aT Y i [] s5 ah H5 (λ_ _=>False) I5 (λb j=>ff j (f5 b j)) t5 go;rw[hA]at z;refine et z (?_) λ_ _ z=>fg z;rintro r s6⟨u,hr,z6⟩;subst hr;refine et z6 (?_) λ_ _ z=>fg z;rintro _ s7⟨x,H7,I7,r7,y7,t7,f7⟩;have ce:=I7.pinned (λb j=>ff j (f7 b j)) (T.obj _ _ t7)--what the pins keep
    have back:∀{L:L2.St}{l:Hp}{B:a_},Inv G ([]++qM fp s7.heap) L l B->Inv G [] L l B/\tn (i+1) B.heap/\∀b∈fp,l b=none:=λ{L l B}J'=>by refine⟨J'.mX,T.keep _ _ _ t7 λb j o e=>(J'.pin (b,o) (fq _ (fq _ (jb j e)))).1,λb j=>?_⟩;obtain⟨o,e,_⟩:=T.obj _ _ t7 b j;exact(J'.pin (b,o) (fq _ (fq _ (jb j e)))).2.1
    have z7:=bt _ s7 ah H7 x u _ ce r7 (step x H7 y7);rw[hA,N,O]at z7;refine et z7 (?_) ai;rintro _ s8⟨ae,H8,I8,q8⟩;have z8:=bv _ s8 ae H8 _ I8 q8;rw[hA,N,O]at z8;refine et z8 (?_) ai;rintro b s9⟨H9,I9,q9⟩;cases b with|false=>rw[if_neg dQ]at q9 ⊢;obtain⟨m',hm,w'⟩:=q9;obtain⟨b1,b2,b3⟩:=back I9;exact⟨m',hm,i+1,ys,ae,H9,b1,b2,b3,w'⟩|true=>rw[if_pos rfl]at q9 ⊢;have z9:=bP _ s9 ae H9 _ I9 q9;rw[hA,N,O]at z9;refine et z9 (?_) ai;rintro y iG⟨yv,bi,cf,ci,cn,bm,m',hm,w'⟩;have bn:=nJ _ iG ae bi (.ref s.heap.objs.size) [yv] (.ref s.heap.objs.size) [y] (λv bo=>bo=upd bi s.heap.objs.size (.lst (ys++[yv]))) cf rfl (.cons ci .nil) ⟨_,ys,yv,rfl,rfl,cn,bm,rfl⟩;rw[hA,N,O]at bn;refine et bn (?_) ai;rintro _ pO⟨_,bo,cp,_,cq⟩;subst cq;obtain⟨b1,b2,b3⟩:=back cp;exact⟨m',hm,i+1,ys++[yv],ae,_,b1,b2,b3,w'⟩
 have e3:({s3 with heap:=M,toks:=s3.toks}:a_)={s with heap:=M}:=by rw[<-ap]
 rw[a9,e3]at ac;exact codeAny_compStart_list ac (T.self _ 0 _ _ _ (aI aS) ac)
end
section
variable{X:Cx}{elt target iter:dr}{ifs:List dr}{scope:jp}{pos:Pos}{N':List Str}{n:Nat}{wi:TI}{g:TG}{tt:TT}{te:TE}
noncomputable def uB(n:Nat)(wi:TI)(g:TG)(tt:TT)(te:TE):TE:=λσ H Q=>wi σ H λJ a=>∀D,a D=none->∃W,(∃m,W 0 m [] (σ++b_ n none) (upd a D (.lst [])))/\Pb J g tt te D (λb=>Q (.ref D) b) W
theorem mU{a:List (bd×Obj)}{σ:L2.St}{H:Hp}{s:a_}(I:Inv X a σ H s)(ok:eY X scope N' n):∃cl,closureFor scope X.env=eT cl/\(∀n c,cl.lookup n=some c->X.env.cells.lookup n=some c)/\∀n,(n,eI)∈scope.names->(cl.lookup n).isSome:=Ad λm b=>I.ok.has m (ok.cap (m,.free) b rfl)
theorem Bq(hc:X.calm=true)(ok:eY X scope N' n)(hi:PI X target iter wi)(r:∀cl C s₀ H₀ ex,PG (oW X scope N' cl C s₀ H₀ ex) target g)(ht:∀cl C s₀ H₀ ex,Rr (oW X scope N' cl C s₀ H₀ ex) ifs tt)(he:∀cl C s₀ H₀ ex,PE (oW X scope N' cl C s₀ H₀ ex) elt te)(hs:∀x,eS iter X.env x=eT x:=by intro _;rfl):PE X (.ListComp elt [⟨target,iter,ifs,0⟩] scope pos) (uB n wi g tt te):=by intro a s σ H Q I h;obtain⟨cl,c,i,t⟩:=mU I ok;rw[eval_ListComp];refine om (use:=none) rfl hs c ok.kind ok.names (bY (hi a s σ H _ I h) λv s1 h1=>bY h1 λu s2 y=>?_);obtain⟨it,M,N,J,O,rfl,z,T,t0,f2,B⟩:=y;refine uz (Q:=λD j=>Q (.ref D) j) (RR:=λk C=>compPost (cS X.prog X.w) X.A X.xe none (EP X a σ Q) k C) hc ok z i t T t0 f2 r ht he B λD C E j q l f G=>?_;obtain⟨m,l⟩:=l;refine⟨m,l,λh' p=>⟨.ref D,j,?_,rfl,q⟩⟩;exact G.turned (t':=E.toks) (λb o L e=>p.extBut b o L e) f.1 f.2.1 f.2.2.2.1 f.2.2.2.2.1 f.2.2.2.2.2
theorem vG{i:Nat}{x:Str}{c j:Pos}(hc:X.calm=true)(U:X.N.Nodup)(r:X.N[i]?=some x)(W:Loc X.env.scope x)(ok:eY X scope N' n)(hi:PI X target iter wi)(Y:∀cl C s₀ H₀ ex,PG (oW X scope N' cl C s₀ H₀ ex) target g)(ht:∀cl C s₀ H₀ ex,Rr (oW X scope N' cl C s₀ H₀ ex) ifs tt)(he:∀cl C s₀ H₀ ex,PE (oW X scope N' cl C s₀ H₀ ex) elt te)(t:fx (.ListComp elt [⟨target,iter,ifs,0⟩] scope pos) (some (.Name x c)) j.line X.env=eT true)(hs:∀x,eS iter X.env x=eT x:=by intro _;rfl)(Z:X.fn x=true\/X.env.scope.names.lookup x=some .local:=by first|exact .inl rfl|exact .inr rfl|assumption):PS X (.Assign [.Name x c] (.ListComp elt [⟨target,iter,ifs,0⟩] scope pos) j) (Sw (uB n wi g tt te) (jH i)):=by
 intro f s σ H D I h;obtain⟨cl,k,u,Aq⟩:=mU I ok;rw[exec_Assign_Name_used _ _ _ _ t];refine av (lR (av ?_));show cy _ X.A (do let _<-comprehension (.ListComp elt [⟨target,iter,ifs,0⟩] scope pos) scope X.env _ (newList []) false (eu iter X.env) (some (ku (.Name x c) X.env))) _ _ s;refine av (et (om (use:=some (ku (.Name x c) X.env)) (Q:=λ_ p=>SP X f D .next p) rfl hs k ok.kind ok.names (bY (hi f s σ H _ I h) λv s1 h1=>bY h1 λac s2 h2=>?_)) (λ_ p hq=>cr (cr hq)) λ_ _ e=>e);obtain⟨it,fp,tn,J,H2,rfl,I2,T,t0,f2,hw⟩:=h2;refine uz (Q:=λDa y=>D.nx (σ.set i (some (.ref Da))) y) (RR:=λB C=>compPost (cS X.prog X.w) X.A X.xe (some (ku (.Name x c) X.env)) (λ_ p=>SP X f D .next p) B C) hc ok I2 u Aq T t0 f2 Y ht he hw λDa C p y q E l I'=>?_;obtain⟨m,E⟩:=E;show cy _ X.A (ku (.Name x c) X.env (.ref Da)) _ _ _;refine wpAny_assign_Name (tU I' U r W (show RelV (.ref Da) (.ref Da)from rfl) (?_) Z);rintro G L⟨a,sb,ha⟩;have M:C≠a:=by
  rcases ha with rfl|ha;.exact l.2.1
  .exact λz=>l.2.2.2.2.1 x a ha z.symm
 refine⟨m,E.sameBut sb M,λh' O=>⟨_,y,?_,q⟩⟩;exact L.turned (t':=G.toks) (λb o hb e=>O.extBut b o hb e) l.1 l.2.1 l.2.2.2.1 l.2.2.2.2.1 l.2.2.2.2.2
noncomputable def ady(K:PySem.W.Frag)(c:TE):TI:=λσ H R=>c σ H λx b=>∃a,x=.ref a/\(((∃xs,eO K b a xs)/\R (Ur K a) b)\/((∃xs,iM K b a xs)/\R (Xl K a) b))
theorem yL{u l:dr}{r:TE}(w:PE X l r):PI X u l (ady X.K r):=by
 intro f s σ H R I h;refine bY (w f s σ H _ I h) ?_;rintro v s1⟨x,t,c,r1,j⟩;obtain⟨a,e,j⟩:=j;subst e;cases r1;rcases j with⟨⟨xs,k⟩,q⟩|⟨⟨xs,k⟩,q⟩
 . obtain⟨i,y,p,hz⟩:=c.list k;refine gy p.isList ?_;refine⟨s1.heap.objs.size,[s1.heap.objs.size],_,_,t,rfl,c.kept (t':=s1.toks) λb o e=>dM e,Ei a _,⟨_,cw _ rfl,rfl,rfl⟩,λb m=>?_,q⟩;have e:b=s1.heap.objs.size:=by simpa using m
   subst e;exact c.zQ (dw) (c.hok.fresh (dw))
 . obtain⟨i,y,p,hz⟩:=c.tuple k;refine fi (show s1.heap.IsTuple a i.toArray from p) ?_;refine⟨s1.heap.objs.size,[s1.heap.objs.size],_,_,t,rfl,c.kept (t':=s1.toks) λb o e=>dM e,yU a _,⟨_,cw _ rfl,rfl,rfl⟩,λb m=>?_,q⟩;have e:b=s1.heap.objs.size:=by simpa using m
   subst e;exact c.zQ (dw) (c.hok.fresh (dw))
end
end L2
end
section
namespace HH
open PySem L2 PySem.Spec PyProof.Rows
variable{v:V}{i m:Nat}{K:PySem.W.Frag}{F H:Hp}{ρ:List Sl}{σ:L2.St}{x:Str}{p':Pos}{is:List Nat}{ds:List D}{s:a_}{A:ez}{u':aX}
structure Walk(K:PySem.W.Frag)(F:Hp)(ρ:List Sl)(σ:L2.St)(H:Hp)(ul:List Sl->List Sl)(J:It)(ds:List D)(F1:Hp)(ρ1:List Sl)(H1:Hp):Prop where
 gs:GS K F1 ρ1 σ H1
 src:∀(n k:Nat)(F':Hp)(ρ':List Sl)(σ':L2.St)(H':Hp),aB K F1 (ρ1++b_ n .aQ) (σ++b_ n none) H1 F' ρ' σ' H'->(∀d,ds[k]?=some d->J.go k H'/\∀x kO,J.Kd k H' x kO->∃F'',Ext F' H' F'' kO/\Rep K F'' x d)/\(ds.length<=k->J.stop k H')fin:∀F2 ρ2 σ2 H2,aB K F1 ρ1 σ H1 F2 ρ2 σ2 H2->aB K F ρ σ H F2 (ul ρ2) σ2 H2/\∀v r,cW K F2 ρ2 σ2 H2 ρ1 σ H1 v r->cW K F2 (ul ρ2) σ2 H2 ρ σ H v r
inductive tIt(K:PySem.W.Frag)(iv:Option Nat)(f:Ev)(σ:L2.St)(H:Hp)(R:It->Hp->Prop):Prop where|mk(F:Hp)(ρ:List Sl)(ds:List D)(ρ1:List Sl)(g:GS K F ρ σ H)(e:srcOf iv f ρ=.ok ds ρ1)(k:∀J F1 H1,Walk K F ρ σ H (aY ρ iv) J ds F1 ρ1 H1->R J H1)
section
variable{K:PySem.W.Frag}{F F1 H H1:Hp}{ρ ρ1:List Sl}{σ:L2.St}{ds:List D}{a:bd}
theorem Bk{xs:List V}{f b:Hp}(g:iM K b a xs)(r:aH K f xs ds)(s:aG f b)(k:Nat):(∀d,ds[k]?=some d->(Xl K a).go k b/\∀x j,(Xl K a).Kd k b x j->∃c,Ext f b c j/\Rep K c x d)/\(ds.length<=k->(Xl K a).stop k b):=by refine⟨λd hd=>?_,λh=>⟨xs,g,by rw[r.length];exact h⟩⟩;obtain⟨w,h1,l⟩:=r.get hd;refine⟨⟨xs,w,g,h1⟩,?_⟩;rintro x j⟨e,y⟩;subst e;have:=y xs g;rw[h1]at this;cases this;exact⟨f,.refl s,l⟩
theorem qJ{xs:List V}{f b:Hp}(g:eO K b a xs)(r:aH K f xs ds)(s:aG f b)(k:Nat):(∀d,ds[k]?=some d->(Ur K a).go k b/\∀x j,(Ur K a).Kd k b x j->∃c,Ext f b c j/\Rep K c x d)/\(ds.length<=k->(Ur K a).stop k b):=by refine⟨λd hd=>?_,λh=>⟨xs,g,by rw[r.length];exact h⟩⟩;obtain⟨w,h1,l⟩:=r.get hd;refine⟨⟨xs,w,g,h1⟩,?_⟩;rintro x j⟨e,y⟩;subst e;have:=y xs g;rw[h1]at this;cases this;exact⟨f,.refl s,l⟩
theorem xU{ul:List Sl->List Sl}{d:D}(s:aB K F ρ σ H F1 ρ1 σ H1)(r:Rep K F1 v d)(hi:items d=some ds)(fin:∀f b c g,aB K F1 ρ1 σ H1 f b c g->aB K F ρ σ H f (ul b) c g/\∀v r,cW K f b c g ρ1 σ H1 v r->cW K f (ul b) c g ρ σ H v r):∃a,v=.ref a/\(((∃xs,eO K H1 a xs)/\Walk K F ρ σ H ul (Ur K a) ds F1 ρ1 H1)\/((∃xs,iM K H1 a xs)/\Walk K F ρ σ H ul (Xl K a) ds F1 ρ1 H1)):=by cases d with|tup es=>cases hi;rw[Rep]at r;obtain⟨a,xs,rfl,h1,h⟩:=r;exact⟨a,rfl,.inr ⟨⟨xs,aG.gD s.gs.sub h1⟩,s.gs,λn k o j l p e=>Bk (aG.gD e.gs.sub (aG.gD e.bQ h1)) (h.mono e.bQ) e.gs.sub k,fin⟩⟩|lst es=>cases hi;rw[Rep]at r;obtain⟨a,xs,rfl,h1,h⟩:=r;exact⟨a,rfl,.inl ⟨⟨xs,s.gs.sub.seq h1⟩,s.gs,λn k o j l p e=>qJ (e.gs.sub.seq (e.bQ.seq h1)) (h.mono e.bQ) e.gs.sub k,fin⟩⟩|_=>cases hi
theorem tO{ul:List Sl->List Sl}(g:GS K F ρ1 σ H)(e:ρ1[i]?=some (.lent ds))(fin:∀f b c h,aB K F ρ1 σ H f b c h->aB K F ρ σ H f (ul b) c h/\∀v r,cW K f b c h ρ1 σ H v r->cW K f (ul b) c h ρ σ H v r):∃a,σ[i]?=some (some (.ref a))/\(∃xs,eO K H a xs)/\Walk K F ρ σ H ul (Ur K a) ds F ρ1 H:=by obtain⟨a,xs,h1,p,C,E⟩:=g.lK i _ ds e rfl;have hi:i<ρ1.length:=(dJ e).1;refine⟨a,h1,⟨xs,eO.of p⟩,g,λn k G q u I j=>?_,fin⟩;obtain⟨l,t,w,y⟩:=j.lk i _ (by rw[cK hi];exact e) rfl;cases(show t=.lent ds from y);rw[cK (by rw[<-g.len];exact hi),h1]at l;obtain⟨J,ys,o,z,L,B⟩:=j.gs.lK i _ ds w rfl;rw[l]at o;cases o;exact qJ (eO.of z) B j.gs.sub k
end
section
variable{X:Cx}{c:Call}{n:Nat}{e a b d tg:dr}{p pa pb pd:P}{pos:Pos}
theorem lu{t t':TI}(h:PI X tg e t)(i:∀σ H R,t' σ H R->t σ H R):PI X tg e t':=λf s σ H R I q=>h f s σ H R I (i σ H R q)
noncomputable def SI(X:Cx)(c:Call)(tg e:dr)(p:P):Prop:=PI X tg e (tIt X.K (isVar p) (HH.ev c p))
theorem cO(h:SX X c e p):SI X c tg e p:=by unfold SI;cases hv:isVar p with|none=>refine lu (yL h.ev) ?_;rintro σ H R⟨F,ρ,ds,u,g,e,k⟩;obtain⟨r,f,L,t⟩:=aj e;have y:=aD t;clear t;obtain⟨t,B⟩:=y;subst B;refine⟨F,ρ,r,_,g,L,λv U W s C=>?_⟩;obtain⟨l,s2,_,M⟩:=s.dz C;obtain⟨a,E,G⟩:=xU (ul:=aY ρ none) s2 M t λY N O Z s3=>⟨s2.trans s3,λv r C=>C.later s2⟩;exact⟨a,E,G.imp (λ⟨z,w⟩=>⟨z,k _ _ _ w⟩) (λ⟨z,w⟩=>⟨z,k _ _ _ w⟩)⟩|some i=>
   refine lu (yL (h.var i hv)) ?_;rintro σ H R⟨F,ρ,ds,u,g,e,k⟩;unfold srcOf at e;dsimp only at e;split at e
   . rename_i b d q;have y:=aD e;clear e;obtain⟨t,B⟩:=y;subst B;obtain⟨v,h1,Q⟩:=g.val i b d q;have fin:∀l f j o,aB X.K F ρ σ H l f j o->aB X.K F ρ σ H l (aY ρ (some i) f) j o/\∀v r,cW X.K l f j o ρ σ H v r->cW X.K l (aY ρ (some i) f) j o ρ σ H v r:=λl f j o s=>by unfold aY;dsimp only;rw[q];exact⟨s,λ_ _ z=>z⟩
     obtain⟨a,E,G⟩:=xU (ul:=aY ρ (some i)) (.refl g) Q t fin;exact⟨v,h1,a,E,G.imp (λ⟨z,w⟩=>⟨z,k _ _ _ w⟩) (λ⟨z,w⟩=>⟨z,k _ _ _ w⟩)⟩
   . rename_i b I q;cases e;have hi:i<ρ.length:=(dJ q).1;have fin:∀l f j o,aB X.K F (ρ.set i (.lent ds)) σ H l f j o->aB X.K F ρ σ H l (aY ρ (some i) f) j o/\∀v r,cW X.K l f j o (ρ.set i (.lent ds)) σ H v r->cW X.K l (aY ρ (some i) f) j o ρ σ H v r:=λl f j o s=>by unfold aY;dsimp only;rw[q];exact aB.aY g q s
     obtain⟨a,h1,J,w⟩:=tO (ul:=aY ρ (some i)) (g.lend q) (bx hi) fin;exact⟨_,h1,a,rfl,.inl ⟨J,k _ _ _ w⟩⟩
   . rename_i I q;cases e;have fin:∀l f j o,aB X.K F ρ σ H l f j o->aB X.K F ρ σ H l (aY ρ (some i) f) j o/\∀v r,cW X.K l f j o ρ σ H v r->cW X.K l (aY ρ (some i) f) j o ρ σ H v r:=λl f j o s=>by unfold aY;dsimp only;rw[q];exact⟨s,λ_ _ z=>z⟩
     obtain⟨a,h1,J,w⟩:=tO (ul:=aY ρ (some i)) g q fin;exact⟨_,h1,a,rfl,.inl ⟨J,k _ _ _ w⟩⟩
   .cases e
theorem wC{F1 g:Hp}{f:List Sl}(s:aB K F ρ σ H F1 f σ g)(i j:Int):Walk K F ρ σ H (aY ρ none) (Xf i (j-i).toNat) ((dP (j-i).toNat).map λ(k:Nat)=>D.int (i+(k:Int))) F1 f g:=by
 refine⟨s.gs,λn k o q t I u=>⟨λd hd=>?_,λh=>?_⟩,λJ w y L s3=>⟨s.trans s3,λv r z=>z.later s⟩⟩;.rw[eR]at hd;obtain⟨m,B,C⟩:=map_some hd;obtain⟨h1,l⟩:=dJ B;rw[List.getElem_range]at l;subst l;subst C;rw[jI]at h1;refine⟨h1,?_⟩;rintro x M⟨E,G⟩;subst E;subst G;exact⟨o,.refl u.gs.sub,bO _⟩
 .rw[dy,jI]at h;exact h
theorem eX(t:x="range")(u:Gl X x)(w:X.mg x=none)(y:SX X c a pa)(hs:cv [a] X.env=[(false,eu a X.env)]:=by rfl):SI X c tg (.Call (.Name x p') [a] [] pos) (.rY (.con (.int 0)) pa):=by
 subst t;obtain⟨U,h1,z⟩:=y.cP;refine lu (ur u w (bF h1 dD hs) hs) ?_;rintro σ H R⟨F,ρ,ds,B,g,e,k⟩;obtain⟨r,C,q,h⟩:=aj e;have l:=aD h;clear h;obtain⟨h,E⟩:=l;subst E;rw[HH.E21]at q;obtain⟨W,G,I,f⟩:=aj q;have l:=aD f;clear f;obtain⟨f,J⟩:=l;subst J;obtain⟨Y,L,M,o⟩:=aj I;cases o;obtain⟨i,f1,f⟩:=cJ f;obtain⟨j,f2,f⟩:=cJ f;obtain⟨⟨b1,b2,b3,b4⟩,f⟩:=bC f;have f1:i=0:=by cases f1;rfl
 subst f1;subst f;cases h;cases cZ f2;refine z g M λv N O s Q=>⟨j,by rw[Q.int],by omega,by omega,?_⟩;have:=wC s 0 j;rw[qa]at this;refine k _ N O ?_;rw[qa];exact this
theorem Mi(y:x="range")(z:Gl X x)(B:X.mg x=none)(C:SX X c a pa)(E:SX X c b pb)(hs:cv [a,b] X.env=[(false,eu a X.env),(false,eu b X.env)]:=by rfl)(h:cv [b] X.env=[(false,eu b X.env)]:=by rfl):SI X c tg (.Call (.Name x p') [a,b] [] pos) (.rY pa pb):=by subst y;obtain⟨Y,Z,h1,G,I⟩:=C.iD E;refine lu (Es z B (bF h1 (bF G dD h) (by rw[hs,h])) hs h) ?_;rintro σ H R⟨F,ρ,ds,J,g,e,k⟩;obtain⟨r,L,o,l⟩:=aj e;have q:=aD l;clear l;obtain⟨l,M⟩:=q;subst M;rw[HH.E21]at o;obtain⟨xy,N,O,f⟩:=aj o;have q:=aD f;clear f;obtain⟨f,Q⟩:=q;subst Q;obtain⟨i,f1,f⟩:=cJ f;obtain⟨j,f2,f⟩:=cJ f;obtain⟨⟨b1,b2,b3,b4⟩,f⟩:=bC f;subst f;cases l;refine I g O λv u U W s t w=>⟨i,j,?_,by omega,k _ U W (wC s i j)⟩;have o:=cZ f1;have l:=cZ f2;rw[o]at t;rw[l]at w;rw[t.int,w.int]
end
section
variable{X:Cx}{c:Call}{n:Nat}{e a b d tg iter:dr}{p pa pb pd:P}{pos:Pos}{body:List eJ}{ss:List S}
noncomputable def GF(K:PySem.W.Frag)(j:List Sl->D->Option (List Sl))(g:TG):Prop:=∀(x:V)(d:D)(F:Hp)(ρ f:List Sl)(σ:L2.St)(H:Hp)(Q:L2.St->Hp->Prop),GS K F ρ σ H->Rep K F x d->j ρ d=some f->(∀h,aB K F ρ σ H F f h H->Q h H)->g x σ H Q
theorem vf(i:Nat):GF K (λρ d=>put ρ i (.val false d)) (jH i):=λx d F ρ f σ H Q g r h k=>k _ (aB.put (r:=.val d) (.refl g) r h)
theorem dq:∀(is:List Nat)(gs:Gr),(∀(xs:List V)(ds:List D)(F:Hp)(ρ f:List Sl)(σ:L2.St)(H:Hp)(Q:L2.St->Hp->Prop),GS K F ρ σ H->aH K F xs ds->putAll ρ is ds=some f->(∀j,aB K F ρ σ H F f j H->Q j H)->gs xs σ H Q)->∀i,∀(xs:List V)(ds:List D)(F:Hp)(ρ f:List Sl)(σ:L2.St)(H:Hp)(Q:L2.St->Hp->Prop),GS K F ρ σ H->aH K F xs ds->putAll ρ (i::is) ds=some f->(∀j,aB K F ρ σ H F f j H->Q j H)->JV (jH i) gs xs σ H Q:=by intro is gs o i xs ds F ρ f σ H Q g r h k;cases ds with|nil=>simp[putAll]at h|cons d ds=>obtain⟨v,vs,rfl,h1,q⟩:=r.cL;rw[putAll]at h;obtain⟨l,t,u⟩:=cJ h;have s1:=aB.put (r:=.val d) (.refl g) h1 t;refine⟨v,vs,rfl,o vs ds F l f _ H _ s1.gs q u λj s2=>k j (s1.trans s2)⟩
theorem j6:∀(xs:List V)(ds:List D)(F:Hp)(ρ f:List Sl)(σ:L2.St)(H:Hp)(Q:L2.St->Hp->Prop),GS K F ρ σ H->aH K F xs ds->putAll ρ [] ds=some f->(∀j,aB K F ρ σ H F f j H->Q j H)->Te xs σ H Q:=by intro xs ds F ρ f σ H Q g r h k;cases ds with|nil=>rw[putAll]at h;cases h;exact⟨r.fV,k σ (.refl g)⟩|cons d ds=>simp[putAll]at h
theorem lJ:∀{is:List Nat}{ds:List D}{ρ f:List Sl},putAll ρ is ds=some f->ds.length=is.length|[],[],_,_,_=>rfl|[],_::_,_,_,h=>by simp[putAll]at h|_::_,[],_,_,h=>by simp[putAll]at h|i::is,d::ds,ρ,f,h=>by rw[putAll]at h;obtain⟨g,k,j⟩:=cJ h;simp[lJ j]
theorem nH{gs:Gr}(q:m=is.length)(h:∀(xs:List V)(ds:List D)(F:Hp)(ρ f:List Sl)(σ:L2.St)(H:Hp)(Q:L2.St->Hp->Prop),GS K F ρ σ H->aH K F xs ds->putAll ρ is ds=some f->(∀l,aB K F ρ σ H F f l H->Q l H)->gs xs σ H Q):GF K (λρ d=>cT ρ is false d) (Vt K m gs):=by intro x d F ρ f σ H Q g r j k;replace j:cT ρ is false d=some f:=j;cases d with|tup ds=>replace j:putAll ρ is ds=some f:=j;rw[Rep]at r;obtain⟨a,xs,rfl,h1,o⟩:=r;exact⟨a,xs,rfl,aG.gD g.sub h1,by rw[o.length,lJ j,q],h xs _ F ρ f σ H Q g o j k⟩|_=>cases j
theorem nD{g:TG}{one:Bool}(hp:lp (cS X.prog X.w) X.A X.env X.xe)(hc:X.calm=true)(hi:SI X c tg iter p)(hg:PG X tg g)(ac:GF X.K (λρ d=>cT ρ is one d) g)(hb:SB X c n body ss)(hs:∀x,eS iter X.env x=eT x:=by intro _;rfl):SS X c n (.For tg iter body [] pos) (.gG p is one ss):=by
 refine dB (HS hp hc hi hg hb hs) ?_;rintro D σ H⟨F,ρ,fl,t,g0,e,k⟩;rw[HH.X14]at e;obtain⟨ds,o,e1,e⟩:=aj e;obtain⟨af,I,e2,e⟩:=aj e;cases e;refine⟨F,ρ,ds,o,g0,e1,λJ F1 H1 w=>?_⟩;have src:∀(i:Nat)(U:Hp)(t:List Sl)(h:L2.St)(j:Hp),aB X.K F1 o σ H1 U t h j->(∀d,ds[i]?=some d->J.go i j/\∀x kO,J.Kd i j x kO->∃L,Ext U j L kO/\Rep X.K L x d)/\(ds.length<=i->J.stop i j):=λi U t h j s=>w.src 0 i U t h j (by simpa using s);refine⟨λi m q W=>∃G f,aB X.K F1 o σ H1 G f q W/\m=ds.length-i/\i<=ds.length/\iK is one (iB c n ss) (ds.drop i) f=.ok fl I,⟨_,F1,o,.refl w.gs,rfl,vU,e2⟩,?_⟩;rintro i m q W⟨G,f,Y,rfl,ag,l⟩;obtain⟨s1,s2⟩:=src i G f q W Y;by_cases u:i<ds.length
 . right;have hd:ds[i]?=some ds[i]:=by simp[u]
   obtain⟨go,step⟩:=s1 _ hd;refine⟨go,λh j=>∃m',m'<ds.length-i/\∃G f,aB X.K F1 o σ H1 G f h j/\m'=ds.length-(i+1)/\i+1<=ds.length/\iK is one (iB c n ss) (ds.drop (i+1)) f=.ok fl I,λh j z=>z,λx j y=>?_⟩;obtain⟨F2,ext,rx⟩:=step x j y;have M:=Y.trans (ext.stp Y.gs);rw[ib u,iK]at l;cases hbd:cT f is one ds[i]with|none=>rw[hbd]at l;cases l|some N=>rw[hbd]at l;obtain⟨O,C,eb,l⟩:=aj l;refine ac x _ F2 f N q j _ M.gs rx hbd λah sb=>?_;have E:=M.trans sb;refine⟨F2,N,O,C,E.gs,eb,λZ Q H4 s4=>?_⟩;have B:=E.trans s4;cases O with|next=>exact⟨_,by omega,Z,C,B,rfl,u,l⟩|cont=>exact⟨_,by omega,Z,C,B,rfl,u,l⟩|brk=>cases l;exact k Z Q H4 (w.fin _ _ _ _ B).1|ret r=>cases l;intro v rr;obtain⟨z1,z2⟩:=w.fin _ _ _ _ B;exact k Z Q H4 z1 v (z2 v r (rr.later E))
 . left;have ae:ds.drop i=[]:=by rw[kR];omega
   rw[ae,iK]at l;cases l;exact⟨s2 (by omega),k G q W (w.fin _ _ _ _ Y).1⟩
theorem oh(i:Nat):(λ(ρ:List Sl)(d:D)=>cT ρ [i] true d)=λρ d=>put ρ i (.val false d):=by funext ρ d;rfl
theorem uN{f:Pos}(h:lp (cS X.prog X.w) X.A X.env X.xe)(hc:X.calm=true)(j:X.N.Nodup)(g:X.N[i]?=some x)(k:Loc X.env.scope x)(hi:SI X c (.Name x f) iter p)(l:SB X c n body ss)(hs:∀x,eS iter X.env x=eT x:=by intro _;rfl)(o:X.fn x=true\/X.env.scope.names.lookup x=some .local:=by first|exact .inl rfl|exact .inr rfl|assumption):SS X c n (.For (.Name x f) iter body [] pos) (.gG p [i] true ss):=nD h hc hi (aJ j g k o) (by rw[oh];exact vf i) l hs
theorem Aa(M:lp (cS X.prog X.w) X.A X.env X.xe)(ht:ST X c e p)(O:SB X c n body ss):SS X c n (.While e body [] pos) (.whl p ss):=by refine dB (Iw M ht O) ?_;rintro D σ H⟨F,ρ,fl,o,g,e,k⟩;rw[HH.X15]at e;refine⟨λm j E=>∃q f,aB X.K F ρ σ H q f j E/\sV (iR (HH.ev c p)) (iB c n ss) m f=.ok fl o,⟨n,F,ρ,.refl g,e⟩,?_⟩;rintro m j E⟨q,f,G,h⟩;cases m with|zero=>rw[sV]at h;cases h|succ m=>rw[sV]at h;obtain⟨b,t,Q,h⟩:=aj h;refine⟨q,f,b,t,G.gs,Q,λF1 U s1=>?_⟩;have s2:=G.trans s1;cases b with|false=>rw[if_neg dQ]at h;cases h;exact k F1 j U s2|true=>rw[if_pos rfl]at h;obtain⟨u,l,W,h⟩:=aj h;refine(show ∃N:L2.St->Hp->Prop,_/\_ from⟨λy I=>∃J,J<m+1/\∃q f,aB X.K F ρ σ H q f y I/\sV (iR (HH.ev c p)) (iB c n ss) J f=.ok fl o,λy I z=>z,F1,t,u,l,s2.gs,W,λC B L s4=>?_⟩);have s5:=s2.trans s4;cases u with|next=>exact⟨m,by omega,C,l,s5,h⟩|cont=>exact⟨m,by omega,C,l,s5,h⟩|brk=>cases h;exact k C B L s5|ret r=>cases h;exact λv Y=>k C B L s5 v (Y.later s2)
end
section
variable{X:Cx}{c:Call}{n:Nat}{e elt tg iter:dr}{p ps pe:P}{pos:Pos}{scope:jp}{N':List Str}{ifs:List dr}
theorem JF{t t':TE}(h:PE X e t)(i:∀σ H Q,σ.length=X.N.length->t' σ H Q->t σ H Q):PE X e t':=λa s σ H Q I q=>h a s σ H Q I (i σ H Q I.len q)
theorem Gx{st:eJ}{t t':TS}(h:PS X st t)(i:∀D σ H,σ.length=X.N.length->t' D σ H->t D σ H):PS X st t':=λa s σ H D I q=>h a s σ H D I (i D σ H I.len q)
noncomputable def lq(K:PySem.W.Frag)(m:Nat)(is:List Nat)(one:Bool)(g:TG):Prop:=∀(x:V)(d:D)(F:Hp)(ρ b:List Sl)(σ:L2.St)(H:Hp)(Q:L2.St->Hp->Prop),GS K F ρ σ H->Rep K F x d->cT ρ is one d=some b->(∀a,aB K F ρ σ H F b a H->a.take m=σ.take m->Q a H)->g x σ H Q
theorem take_set{b:Type}{l:List b}{a:b}(h:m<=i):(l.set i a).take m=l.take m:=by rw[List.take_set_of_le h]
theorem cu(h:m<=i):lq K m [i] true (jH i):=λx d F ρ a σ H Q g r b k=>k _ (aB.put (r:=.val d) (.refl g) r b) (take_set h)
noncomputable def M4(K:PySem.W.Frag)(m:Nat)(is:List Nat)(gs:Gr):Prop:=∀(xs:List V)(ds:List D)(F:Hp)(ρ b:List Sl)(σ:L2.St)(H:Hp)(Q:L2.St->Hp->Prop),GS K F ρ σ H->aH K F xs ds->putAll ρ is ds=some b->(∀a,aB K F ρ σ H F b a H->a.take m=σ.take m->Q a H)->gs xs σ H Q
theorem cI{gs:Gr}(hi:m<=i)(j:M4 K m is gs):M4 K m (i::is) (JV (jH i) gs):=by intro xs ds F ρ a σ H Q g r h k;cases ds with|nil=>simp[putAll]at h|cons d ds=>obtain⟨v,vs,rfl,h1,l⟩:=r.cL;rw[putAll]at h;obtain⟨b,o,q⟩:=cJ h;have s1:=aB.put (r:=.val d) (.refl g) h1 o;exact⟨v,vs,rfl,j vs ds F b a _ H _ s1.gs l q λf s2 z=>k f (s1.trans s2) (z.trans (take_set hi))⟩
theorem iZ:M4 K m [] Te:=by intro xs ds F ρ a σ H Q g r h k;cases ds with|nil=>rw[putAll]at h;cases h;exact⟨r.fV,k σ (.refl g) rfl⟩|cons d ds=>simp[putAll]at h
theorem iU{gs:Gr}{l:Nat}(o:l=is.length)(h:M4 K m is gs):lq K m is false (Vt K l gs):=by intro x d F ρ b σ H Q g r f k;cases d with|tup ds=>replace f:putAll ρ is ds=some b:=f;rw[Rep]at r;obtain⟨a,xs,rfl,h1,j⟩:=r;exact⟨a,xs,rfl,aG.gD g.sub h1,by rw[j.length,lJ f,o],h xs _ F ρ b σ H Q g j f k⟩|_=>cases f
noncomputable def SQ(X:Cx)(c:Call)(ifs:List dr)(t:Option P):Prop:=Rr X ifs (DP X.K (oR c t))
theorem bT:SQ X c [] none:=λa s σ H Q I⟨F,ρ,k,ρ',g,e,q⟩=>by rw[oR]at e;cases e;exact La a s σ H Q I (q F H (.refl g))
theorem Bx(h:ST X c e p):SQ X c [e] (some p):=λa s σ H Q I⟨F,ρ,k,ρ',g,e,q⟩=>by rw[oR]at e;exact Nq h a s σ H Q I ⟨F,ρ,k,ρ',g,e,q⟩
theorem aB.IW{F1 j:Hp}{f:List Sl}{g:L2.St}{Da:bd}{o:HO}(s:aB K F ρ σ H F1 f g j)(h:H Da=none)(q:F1 Da=none)(ho:¬ Own f g Da):aB K F ρ σ H F1 f g (upd j Da o):=by
 refine⟨⟨λb u e=>?_,s.gs.len,s.gs.val,λi t ds e k=>?_,s.gs.dis⟩,s.bQ,s.yt,λb u e n=>?_,s.wg,s.len,s.lk⟩
 . have:b≠Da:=by rintro rfl;rw[q]at e;cases e
   rw[aC this];exact s.gs.sub b u e
 . obtain⟨a,xs,l,r,w,y⟩:=s.gs.own i t ds e k;have:a≠Da:=by rintro rfl;exact ho ⟨i,⟨t,ds,e,k⟩,l⟩
   exact⟨a,xs,l,by rw[aC this];exact r,w,y⟩
 . have:b≠Da:=by rintro rfl;rw[h]at e;cases e
   rw[aC this];exact s.keep b u e n
theorem qQ{b r:List Sl}{ul:List Sl->List Sl}{ti:TI}{one:Bool}{u:List Sl->Res Bool}{el:Ev}{g:TG}{Q:VK}{xs:List D}(hm:σ.length=m)(ah:lq K m is one g)(ai:∀R:It->Hp->Prop,(∀J F1 W,Walk K F ρ σ H ul J ds F1 b W->R J W)->ti σ H R)(ap:ds.length<=lim)(e2:turns is one u el ds [] (b++b_ n .aQ)=.ok xs r)(k:∀v F' H',aB K F ρ σ H F' (ul (r.take b.length)) σ H'->cW K F' (ul (r.take b.length)) σ H' ρ σ H v (.own xs)->Q v H'):uB n ti g (DP K u) (vK K el) σ H Q:=by
 refine ai _ λJ F1 W w Da O=>?_;have al:b.length=σ.length:=w.gs.len;have gm:=w.gs.more (n:=n) (τ:=b_ n none) (by simp);have fD:F1 Da=none:=by cases q:F1 Da with|none=>rfl|some o=>rw[w.gs.sub Da o q]at O;cases O
 have nO:¬ Own (b++b_ n .aQ) (σ++b_ n none) Da:=λ⟨i,⟨t,dt,q1,q2⟩,q3⟩=>by obtain⟨a,ys,z1,z2,_⟩:=gm.own i t dt q1 q2;rw[q3]at z1;cases z1;rw[O]at z2;cases z2
 refine⟨λi mm ys f G=>∃E h l,aB K F1 (b++b_ n .aQ) (σ++b_ n none) W E h f G/\f.take m=σ/\G Da=some (.lst ys)/\E Da=none/\¬ Own h f Da/\aH K E ys l/\l.length<=i/\mm=ds.length-i/\i<=ds.length/\turns is one u el (ds.drop i) l h=.ok xs r,⟨_,F1,_,[],(aB.refl gm).IW O fD nO,by rw[md (by omega),hX (by omega)],aP,fD,nO,.nil,vU,rfl,vU,e2⟩,?_⟩;rintro i mm ys f G⟨E,h,l,Y,I,Z,hF,hO,rs,ar,rfl,aw,j⟩;refine⟨Z,?_⟩--what stays of the new list through a step
 have stay:∀{L U:Hp}{M:List Sl}{B:L2.St},aB K E h f G L M B U->U Da=some (.lst ys)/\L Da=none/\¬ Own M B Da:=λ{L U M B}s=>by
  refine⟨s.keep Da _ Z hO,?_,λo=>?_⟩;.cases q:L Da with|none=>rfl|some o=>
      rcases s.yt Da hF (by rw[q];simp)with z|z;.exact absurd z hO
      .exact(G6 Z z).elim
  . rcases s.wg Da o with z|z;.exact hO z
    .rw[Z]at z;cases z
 obtain⟨s1,s2⟩:=w.src n i E h f G Y;by_cases C:i<ds.length
 . right;have hd:ds[i]?=some ds[i]:=by simp[C]
   obtain⟨go,step⟩:=s1 _ hd;refine⟨go,λx U y=>?_⟩;obtain⟨L,ext,rx⟩:=step x U y;have t2:=ext.stp Y.gs;rw[ib C,turns]at j;cases hbd:cT h is one ds[i]with|none=>rw[hbd]at j;cases j|some ac=>rw[hbd]at j;obtain⟨bb,N,eb,j⟩:=aj j;refine ah x _ L h ac f U _ t2.gs rx hbd λB sb ae=>?_;have t3:=t2.trans sb;refine⟨L,ac,bb,N,t3.gs,eb,λF4 H4 s4=>?_⟩;have t4:=t3.trans s4;cases bb with|false=>rw[if_neg dQ]at j;obtain⟨y1,y2,y3⟩:=stay t4;exact⟨_,by omega,F4,N,l,Y.trans t4,ae.trans I,y1,y2,y3,rs.mono t4.bQ,by omega,rfl,C,j⟩|true=>
       rw[if_pos rfl]at j;obtain⟨re,af,ee,j⟩:=aj j;refine(show vK K el B H4 _ from⟨F4,N,re,af,t4.gs,ee,λv F5 H5 s5 rr=>?_⟩);obtain⟨F6,s6,_,rp⟩:=s5.dz rr;have t6:=t4.trans s6;obtain⟨y1,y2,y3⟩:=stay t6;have ag:ys.length<sizeLine:=by have h1:=rs.length;have h2:lim=sizeLine:=rfl;omega
       exact⟨y1,ag,_,by omega,F6,af,l++[re.d],(Y.trans t6).IW O y2 y3,ae.trans I,aP,y2,y3,(rs.mono t6.bQ).append (.cons rp .nil),by simp;omega,rfl,C,j⟩
 . left;have am:ds.drop i=[]:=by rw[kR];omega
   rw[am,turns]at j;cases j;refine⟨s2 (by omega),?_⟩;obtain⟨l1,l2⟩:=aB.less (m:=b.length) rfl w.gs (by simp) Y;have hst:f.take b.length=σ:=by rw[al,hm];exact I
   rw[hst]at l1;have rr:cW K E r f G (b++b_ n .aQ) (σ++b_ n none) W (.ref Da) (.own xs):=⟨Da,ys,rfl,Z,hF,rs,hO,.inr O⟩;have QT:=l2 _ _ rr;rw[hst]at QT;obtain⟨z1,z2⟩:=w.fin _ _ _ _ l1;exact k _ E G z1 (z2 _ _ QT)
theorem Ck{iv:Option Nat}{f:Ev}{one:Bool}{b:List Sl->Res Bool}{w:Ev}{g:TG}{Q:VK}{r:R}{j:List Sl}(z:σ.length=m)(q:lq K m is one g)(B:GS K F ρ σ H)(e:((srcOf iv f ρ).bind λds a=>if ds.length<=lim then(turns is one b w ds [] (a++b_ n .aQ)).bind λxs l=>Res.ok (R.own xs) (aY ρ iv (l.take a.length))else .stuck)=.ok r j)(k:∀v y t,aB K F ρ σ H y j σ t->cW K y j σ t ρ σ H v r->Q v t):uB n (tIt K iv f) g (DP K b) (vK K w) σ H Q:=by
 obtain⟨ds,u,C,e⟩:=aj e;split at e;.rename_i o;obtain⟨xs,E,G,e⟩:=aj e;cases e;exact qQ z q (λR h=>⟨F,ρ,ds,u,B,C,h⟩) o G k
 .cases e
theorem dF{g:TG}{one:Bool}{t:Option P}(hc:X.calm=true)(ok:eY X scope N' n)(hi:SI X c tg iter ps)(b:∀cl C s₀ H₀ ex,PG (oW X scope N' cl C s₀ H₀ ex) tg g)(a:lq X.K X.N.length is one g)(ht:∀cl C s₀ H₀ ex,SQ (oW X scope N' cl C s₀ H₀ ex) c ifs t)(he:∀cl C s₀ H₀ ex,SX (oW X scope N' cl C s₀ H₀ ex) c elt pe)(hs:∀x,eS iter X.env x=eT x:=by intro _;rfl):SX X c (.ListComp elt [⟨tg,iter,ifs,0⟩] scope pos) (.comp ps n is one t pe):=by refine⟨JF (Bq (tt:=DP X.K (oR c t)) (te:=vK X.K (HH.ev c pe)) hc ok hi b ht (λcl C s₀ H₀ ex=>(he cl C s₀ H₀ ex).ev) hs) ?_,λi h=>by cases h⟩;rintro σ H Q f⟨F,ρ,r,j,l,e,k⟩;rw[HH.E20]at e;exact Ck f a l e k
theorem pJ{a b:Pos}{nn:Nat}{g:TG}{one:Bool}{t:Option P}(hc:X.calm=true)(q:X.N.Nodup)(h:X.N[i]?=some x)(u:Loc X.env.scope x)(ok:eY X scope N' n)(hi:SI X c tg iter ps)(w:∀cl C s₀ H₀ ex,PG (oW X scope N' cl C s₀ H₀ ex) tg g)(j:lq X.K X.N.length is one g)(ht:∀cl C s₀ H₀ ex,SQ (oW X scope N' cl C s₀ H₀ ex) c ifs t)(he:∀cl C s₀ H₀ ex,SX (oW X scope N' cl C s₀ H₀ ex) c elt pe)(l:fx (.ListComp elt [⟨tg,iter,ifs,0⟩] scope pos) (some (.Name x a)) b.line X.env=eT true:=by rfl)(hs:∀x,eS iter X.env x=eT x:=by intro _;rfl)(y:X.fn x=true\/X.env.scope.names.lookup x=some .local:=by first|exact .inl rfl|exact .inr rfl|assumption):SS X c nn (.Assign [.Name x a] (.ListComp elt [⟨tg,iter,ifs,0⟩] scope pos) b) (.asg i (.comp ps n is one t pe)):=by refine Gx (vG (tt:=DP X.K (oR c t)) (te:=vK X.K (HH.ev c pe)) hc q h u ok hi w ht (λcl C s₀ H₀ ex=>(he cl C s₀ H₀ ex).ev) l hs y) ?_;rintro D σ H z⟨F,ρ,fl,B,E,e,k⟩;rw[HH.X6]at e;obtain⟨r,G,o,e⟩:=aj e;obtain⟨I,J,f,e⟩:=aj e;cases e;have L:=aD f;clear f;obtain⟨f,Q⟩:=L;rw[HH.E20]at o;exact Ck z j E o λv F1 M s1 O=>k F1 _ M (s1.put O f)
end
section
variable{X:Cx}{c:Call}{n:Nat}{e a b d:dr}{p pa pb pd:P}{pos:Pos}{es:List dr}{ps:List P}
noncomputable def tyN:D->String|.non=>"NoneType"|.bl _=>"bool"|.int _=>"int"|.str _=>"str"|.tup _=>"tuple"|.lst _=>"list"|.eG _=>"dict"|.dv _ _=>"dict"
noncomputable def zf:Ty->String|.none=>"NoneType"|.bool=>"bool"|.int=>"int"|.str=>"str"|.tuple=>"tuple"|.list=>"list"
theorem Px(K:PySem.W.Frag)(t:Ty)(d:D):PySem.W.kitOne K (.type (tyN d)) (.type (zf t))=some (cN t d):=by cases t<;>cases d<;>rfl
theorem Br(K:PySem.W.Frag)(d:D):∀f:List Ty,kitAny K (.type (tyN d)) (f.map λt=>e_ (zf t))=some (f.any λt=>cN t d)|[]=>rfl|t::f=>by rw[c_,kitAny,Px,lc];cases cN t d with|true=>rfl|false=>rw[Bool.false_or];exact Br K d f
theorem PN{k:List (bd×Obj)}{x:V}{u:aX}{dt:D}(I:L2.Inv X k σ H s)(sm:aG F H)(g:dG X.K F H x dt)(f:RelV x u):(∃r,PySem.W.KitX X.K u (.type (tyN dt)) r/\r s.heap)/\u≠.builtin "__main__.__loader__#opaque":=by cases dt with|non=>rw[g.non]at f;cases f;exact⟨⟨_,PySem.W.kitx_none,trivial⟩,nofun⟩|bl y=>rw[g.bl]at f;cases f;exact⟨⟨_,PySem.W.kitx_bool,trivial⟩,nofun⟩|int i=>rw[g.int]at f;obtain⟨t,rfl⟩:=f;exact⟨⟨_,PySem.W.kitx_int,trivial⟩,nofun⟩|str y=>rw[g.str]at f;obtain⟨t,rfl⟩:=f;exact⟨⟨_,PySem.W.kitx_str,trivial⟩,nofun⟩|tup ds=>obtain⟨q,xs,rfl,h,_⟩:=g.tup sm;cases f;obtain⟨l,_,⟨o,h1,j,_⟩,_⟩:=I.tuple h;exact⟨⟨_,PySem.W.kitx_tuple,⟨o,h1,j⟩⟩,nofun⟩|lst ds=>obtain⟨q,xs,rfl,h,_⟩:=g.lst sm;cases f;obtain⟨l,_,w,_⟩:=I.list h;obtain⟨o,h1,j,_⟩:=w.isList;exact⟨⟨_,PySem.W.kitx_list,⟨o,h1,j⟩⟩,nofun⟩|eG m=>obtain⟨q,_,rfl,h⟩:=g.eG sm;cases f;obtain⟨o,h1,j⟩:=IV I h;exact⟨⟨_,kitx_dict,⟨o,h1,j⟩⟩,nofun⟩|dv ks ds=>obtain⟨q,_,vs,rfl,h,_⟩:=g.dv sm;cases f;obtain⟨o,h1,j⟩:=Ik I h;exact⟨⟨_,kitx_dict,⟨o,h1,j⟩⟩,nofun⟩
theorem U6(t:Ty):dN X (.builtin "isinstance") (λxs H Q=>∃x F dt,xs=[x,.ty (zf t)]/\aG F H/\dG X.K F H x dt/\Q (.bl (cN t dt)) H):=by rintro g s σ H xs w Q I r⟨x,F,dt,h,sm,j,q⟩;subst h;obtain⟨u,k,rfl,l,rt⟩:=r.two;cases(show k=e_ (zf t)from rt);obtain⟨⟨y,Z,hz⟩,f⟩:=PN I sm j l;exact PySem.W.kia_one Z I.Qe hz (Px _ t dt) f λo=>⟨.bl _,H,I.tok o,rfl,q⟩
theorem BW:∀{g:List Ty}{f:List aX},Vals (g.map λt=>V.ty (zf t)) f->f=g.map λt=>e_ (zf t)|[],_,h=>h.zero|t::g,_,.cons r1 j=>by rw[c_,<-BW j,show _=_ from r1]
theorem Mr(g:List Ty):dN X (.builtin "isinstance") (λxs H Q=>∃x F dt q,xs=[x,.ref q]/\H q=some (.tup (g.map λt=>V.ty (zf t)))/\aG F H/\dG X.K F H x dt/\Q (.bl (g.any λt=>cN t dt)) H):=by rintro l s σ H xs J Q I r⟨x,F,dt,q,o,y,sm,z,k⟩;subst o;obtain⟨u,B,rfl,C,rt⟩:=r.two;cases(show B=dY q from rt);obtain⟨⟨L,Z,hz⟩,h⟩:=PN I sm z C;obtain⟨_,j,E,⟨⟨cls,M,data,sl⟩,ho,hc,n,hd⟩⟩:=(show bJ X.prog X.w H s.heap q (.tup _)from I.hok q _ y);simp only at hc hd;subst hc hd;have f:j=g.map λt=>e_ (zf t):=BW E;subst f;exact PySem.W.kia_tup Z I.Qe hz ho (Br _ dt g) h λG=>⟨.bl _,H,I.tok G,rfl,k⟩
theorem xQ:ey "isinstance"=some (.builtin "isinstance"):=by decide+kernel
theorem qj{y:Str}{p2:Pos}(t:Ty)(u:x="isinstance")(w:Gl X x)(z:X.mg x=none)(B:SX X c a pa)(f:Gl X y)(j:X.mg y=none)(C:ey y=some (.type (zf t)))(l:y≠"__name__":=by decide)(o:(y==("__debug__":Str))=false:=by decide)(hs:cv [a,.Name y p2] X.env=(false,eu a X.env)::cv [.Name y p2] X.env:=by rfl):SX X c (.Call (.Name x p') [a,.Name y p2] [] pos) (.inst [t] pa):=by subst u;obtain⟨N,h1,E⟩:=B.cP;refine⟨dR (dX (U6 t) w z xQ (bF h1 (bF (By (v:=.ty (zf t)) f j C rfl l o) dD) hs) (he:=hs)) ?_,λi h=>by cases h⟩;rintro σ H Q⟨F,ρ,r,G,g,e,k⟩;rw[HH.E19]at e;obtain⟨dt,I,J,e⟩:=aj e;cases e;refine E g J λv q L s M=>⟨v,q,dt,rfl,s.gs.sub,M,k _ q L s ?_⟩;show Rep X.K q _ _;rw[lc,List.any_nil,Bool.or_false];exact fU _
noncomputable def Lq(X:Cx)(f:List Ty)(es:List dr):Prop:=PA X es (λ_ H Q=>Q (f.map λt=>V.ty (zf t)) H)
theorem Lx:Lq X [] []:=qL dD λ_ _ _ h=>h
theorem xq{y:Str}{p2:Pos}{l:List Ty}(t:Ty)(f:Gl X y)(g:X.mg y=none)(o:ey y=some (.type (zf t)))(h:Lq X l es)(j:y≠"__name__":=by decide)(k:(y==("__debug__":Str))=false:=by decide)(hs:cv (.Name y p2::es) X.env=(false,eu (.Name y p2) X.env)::cv es X.env:=by rfl):Lq X (t::l) (.Name y p2::es):=qL (bF (By (v:=.ty (zf t)) f g o rfl j k) h hs) λ_ _ _ h=>h
theorem JR{p2:Pos}{k2}{j:List Ty}(w:x="isinstance")(B:Gl X x)(C:X.mg x=none)(E:SX X c a pa)(ht:Lq X j es)(hz:j.length<=sizeLine:=by decide)(hs:cv [a,.Tuple es k2 p2] X.env=(false,eu a X.env)::cv [.Tuple es k2 p2] X.env:=by rfl):SX X c (.Call (.Name x p') [a,.Tuple es k2 p2] [] pos) (.inst j pa):=by
 subst w;obtain⟨N,h1,G⟩:=E.cP;refine⟨dR (dX (Mr j) B C xQ (bF h1 (bF (Jt ht) dD) hs) (he:=hs)) ?_,λi h=>by cases h⟩;rintro σ H Q⟨F,ρ,r,I,g,e,k⟩;rw[HH.E19]at e;obtain⟨dt,J,L,e⟩:=aj e;cases e;refine G g L λv f l s M=>⟨by rw[dy];exact hz,λq u=>?_⟩;have O:f q=none:=by cases z:f q with|none=>rfl|some o=>rw[s.gs.sub q o z]at u;cases u
 have sm:aG l (upd l q (.tup (j.map λt=>V.ty (zf t)))):=aG.cG u;have ext:Ext f l f (upd l q (.tup (j.map λt=>V.ty (zf t)))):=⟨sm,.refl _,s.gs.sub.trans sm,λ_ x y=>absurd x y⟩;refine⟨v,f,dt,q,rfl,aP,s.gs.sub.trans sm,M.mono (.refl _) (λa xs _ z=>sm a _ z),k _ f _ (s.trans (ext.stp s.gs)) (show Rep X.K f _ _ from fU _)⟩
inductive rBn(K:PySem.W.Frag)(f:List D->Option R)(xs:List V)(H:Hp)(Q:VK):Prop where|mk(F:Hp)(ds:List D)(r:R)(sm:aG F H)(rs:aH K F xs ds)(he:f ds=some r)(k:∀v F' H',Ext F H F' H'->cF K F' H' H v r->Q v H')
theorem Qp{E:dr}{f:List D->Option R}{q:P}(o:∀{t},PA X es t->PE X E (tCB (rBn X.K f) t))(u:SA X c es ps)(y:∀ρ,HH.ev c q ρ=(evs c ps ρ).bind λds ρ=>lift (f ds) ρ)(z:isVar q=none):SX X c E q:=by refine⟨dR (o u.1) ?_,λi h=>by rw[z]at h;cases h⟩;rintro σ H Q⟨F,ρ,r,B,g,e,k⟩;rw[y]at e;obtain⟨ds,l,C,j⟩:=aj e;have G:=aD j;clear j;obtain⟨j,I⟩:=G;subst I;exact⟨F,ρ,ds,l,g,C,λvs J U s L=>⟨J,ds,r,s.gs.sub,L,j,λw M N x O=>k w M N (s.trans (x.stp s.gs)) (.later s (O.pG s.gs))⟩⟩
theorem PX{xs:List V}{i j:Int}(h:aH K F xs [.int i,.int j]):xs=[.int i,.int j]:=by obtain⟨v,r,rfl,h1,g⟩:=h.cL;obtain⟨u,l,rfl,f,k⟩:=g.cL;rw[Rep]at h1 f;rw[h1,f,k.fV]
theorem inv2{f:Zu}{g:Int->Int->Int}{r:R}(h0:blt f []=none)(h1:∀a,blt f [a]=none)(o:∀a b c l,blt f (a::b::c::l)=none)(q:∀a b,gK a=false->blt f [a,b]=none)(t:∀i b,gK b=false->blt f [.int i,b]=none)(hi:∀i j,blt f [.int i,.int j]=some (.val (.int (g i j))))(he:blt f ds=some r):∃i j,ds=[.int i,.int j]/\r=.val (.int (g i j)):=by
 rcases ds with _|⟨a,_|⟨b,_|⟨c,l⟩⟩⟩;.rw[h0]at he;cases he
 .rw[h1]at he;cases he
 . by_cases h:gK a=true
   . obtain⟨i,rfl⟩:∃i,a=.int i:=by cases a<;>first|exact⟨_,rfl⟩|cases h
     by_cases k:gK b=true
     . obtain⟨j,rfl⟩:∃j,b=.int j:=by cases b<;>first|exact⟨_,rfl⟩|cases k
       rw[hi]at he;cases he;exact⟨i,j,rfl,rfl⟩
     .rw[t i b (by simpa using k)]at he;cases he
   .rw[q a b (by simpa using h)]at he;cases he
 .rw[o]at he;cases he
theorem RK(hc:X.calm=true):dN X (.builtin "min") (rBn X.K (blt .min2)):=by rintro f s σ H xs o Q I r⟨F,ds,t,sm,q,he,k⟩;obtain⟨i,j,rfl,rfl⟩:=inv2 (g:=λi j=>if j<i then j else i) rfl (λa=>by cases a<;>rfl) (λa b c l=>by cases a<;>first|rfl|(cases b<;>rfl)) (λa b h=>by cases a<;>first|rfl|cases h) (λi b h=>by cases b<;>first|rfl|cases h) (λ_ _=>rfl) he;rw[PX q]at r;exact Eo hc f s σ H _ o Q I r ⟨_,_,rfl,cF.dm sm (bO _) k⟩
theorem Rc(hc:X.calm=true):dN X (.builtin "max") (rBn X.K (blt .max2)):=by rintro f s σ H xs o Q I r⟨F,ds,t,sm,q,he,k⟩;obtain⟨i,j,rfl,rfl⟩:=inv2 (g:=λi j=>if i<j then j else i) rfl (λa=>by cases a<;>rfl) (λa b c l=>by cases a<;>first|rfl|(cases b<;>rfl)) (λa b h=>by cases a<;>first|rfl|cases h) (λi b h=>by cases b<;>first|rfl|cases h) (λ_ _=>rfl) he;rw[PX q]at r;exact Fx hc f s σ H _ o Q I r ⟨_,_,rfl,cF.dm sm (bO _) k⟩
theorem boot_min:ey "min"=some (.builtin "min"):=by decide+kernel
theorem boot_max:ey "max"=some (.builtin "max"):=by decide+kernel
theorem Dm(f:x="min")(hc:X.calm=true)(g:Gl X x)(j:X.mg x=none)(k:SA X c [a,b] [pa,pb])(hs:cv [a,b] X.env=(false,eu a X.env)::cv [b] X.env:=by rfl)(hpl:(iF pos (cv [b] X.env)).any (·.1)=false:=by rfl):SX X c (.Call (.Name x p') [a,b] [] pos) (.blt .min2 [pa,pb]):=by subst f;exact Qp (λh=>dX (RK hc) g j boot_min h (he:=hs) (hpl:=hpl)) k (λρ=>rfl) rfl
theorem vQ(f:x="max")(hc:X.calm=true)(g:Gl X x)(j:X.mg x=none)(k:SA X c [a,b] [pa,pb])(hs:cv [a,b] X.env=(false,eu a X.env)::cv [b] X.env:=by rfl)(hpl:(iF pos (cv [b] X.env)).any (·.1)=false:=by rfl):SX X c (.Call (.Name x p') [a,b] [] pos) (.blt .max2 [pa,pb]):=by subst f;exact Qp (λh=>dX (Rc hc) g j boot_max h (he:=hs) (hpl:=hpl)) k (λρ=>rfl) rfl
end
section
variable{X:Cx}{c:Call}{n:Nat}{e a b d:dr}{p pa pb pd:P}{pos:Pos}{es:List dr}{ps:List P}
theorem uQ(g:GS K F ρ σ H)(h:zJ ρ i=some ds):∃a xs,σ[i]?=some (some (V.ref a))/\eO K H a xs:=by
 unfold zJ at h;split at h;.rename_i q;cases h;obtain⟨v,h1,f⟩:=g.pk q;obtain⟨a,xs,rfl,j,_⟩:=f.lst g.sub;exact⟨a,xs,h1,j⟩
 .cases h
theorem Ni{k:Nat}{h f:Pos}(I:X.N[k]?=some x)(J:v9 X.env.scope x)(hi:SX X c b pb)(he:SX X c e p)(L:∀ v,ku (.Subscript (.Name x h) b f) X.env v=(do
  let l<-ki [v] (eu (.Name x h) X.env)let iv<-ki [v,l] (eu b X.env)standAt f
  ki [v,l,iv] (nh l iv v)release [v,l,iv] []):=by intro _;rfl)(hs:ko [.Subscript (.Name x h) b f] e pos.line X.env=eT false:=by rfl)(M:kq [.Subscript (.Name x h) b f] e X.env=eT none:=by rfl)(h1:(i8 [.Subscript (.Name x h) b f] X.env).map (·.2)=[ku (.Subscript (.Name x h) b f) X.env]:=by rfl)(hd:(x==("__debug__":Str))=false:=by decide)(u:(x==("__classdict__":Str))=false:=by decide):SS X c n (.Assign [.Subscript (.Name x h) b f] e pos) (.O1 k pb p):=by
 obtain⟨ti,w,y⟩:=hi.cP;refine dB (Ib he.ev (Tr (fC I J hd u) w set_list L) hs M h1) ?_;rintro D σ H⟨F,ρ,fl,O,g,e,Q⟩;rw[HH.X9]at e;obtain⟨r,z,U,e⟩:=aj e;obtain⟨x0,C,t,e⟩:=aj e;have W:=aD t;clear t;obtain⟨t,Y⟩:=W;subst Y;obtain⟨dk,Z,e2,e⟩:=aj e;refine⟨F,ρ,r,z,g,U,λv F1 H1 s1 rr=>?_⟩;obtain⟨F2,s2,_,rp⟩:=s1.dz rr;obtain⟨o,ho,_⟩:=s2.gs.pk t;refine⟨o,ho,y s2.gs e2 λvi F3 H3 s3 pi=>?_⟩;split at e
 . rename_i bb ds B q;split at e;.rename_i j hj;cases e;obtain⟨ad,xs,E,q2,q3,G⟩:=s3.gs.lK k _ ds q rfl;rw[ho]at E;cases E;refine⟨ad,xs,B,j,rfl,pi.int,q2,by rw[G.length];exact hj,?_⟩;exact Q F3 σ _ ((s2.trans s3).trans (s3.gs.mut q ho (G.set (rp.mono s3.bQ) j)))
   .cases e
 .cases e
theorem bZ{k:Nat}{o h f:Pos}(G:X.N[k]?=some x)(I:v9 X.env.scope x)(he:SX X c e p)(j:(h.endLine==f.line)=true:=by rfl)(hs:cv [e] X.env=(false,eu e X.env)::cv [] X.env:=by rfl)(l:ix (.Name x o) "append" X.env (eu (.Name x o) X.env)=eu (.Name x o) X.env:=by rfl)(t:((iF f (cv [e] X.env)).all (λx=>!x.1)&&(nI f (k9 [] X.env)).all (λx=>x.1.isSome)&&decide ([e].length+([]:List kn).length+(if([]:List kn).isEmpty then 0 else 1)<30))=true:=by rfl)(w:fx (.Call (.Attribute (.Name x o) "append" h) [e] [] f) none pos.line X.env=eT false:=by rfl)(hd:(x==("__debug__":Str))=false:=by decide)(y:(x==("__classdict__":Str))=false:=by decide):SS X c n (.Expr (.Call (.Attribute (.Name x o) "append" h) [e] [] f) pos) (.app k p):=by
 refine dB (pN (J5 plainAttrs_list PySem.F.slot_list_append PySem.F.type_list_append nJ (fC G I hd y) (bF he.ev dD hs) l t j hs) w) ?_;rintro D σ H⟨F,ρ,fl,J,g,e,L⟩;rw[HH.X10]at e;obtain⟨d0,M,u,e⟩:=aj e;have O:=aD u;clear u;obtain⟨u,Q⟩:=O;subst Q;obtain⟨r,z,U,e⟩:=aj e;obtain⟨a,xs,h1,W⟩:=uQ g u;refine⟨.ref a,h1,.inl ⟨rfl,xs,W⟩,F,ρ,r,z,g,U,λv F1 H1 s1 Y=>?_⟩;obtain⟨Z,s2,_,rp⟩:=s1.dz Y;split at e
 . rename_i bb ds q;split at e;.rename_i B;cases e;obtain⟨ad,ys,C,q2,q3,E⟩:=s2.gs.lK k _ ds q rfl;rw[h1]at C;cases C;exact⟨_,ys,v,rfl,rfl,q2,by rw[E.length];exact B,L Z σ _ (s2.trans (s2.gs.mut q h1 (E.append (.cons rp .nil))))⟩
   .cases e
 .cases e
theorem Vu{j:Nat}{y:Str}{l o pt:Pos}{kt k2 Vz}(hc:X.calm=true)(C:X.N.Nodup)(hi:X.N[i]?=some x)(E:X.N[j]?=some y)(q:i≠j)(G:X.env.scope.names.lookup x=some .local)(I:X.env.scope.names.lookup y=some .local)(J:SX X c a pa)(L:SX X c b pb)(M:kq [.Tuple [.Name x l,.Name y o] kt pt] (.Tuple [a,b] k2 Vz) X.env=eT (some [x,y]):=by rfl)(hs:ko [.Tuple [.Name x l,.Name y o] kt pt] (.Tuple [a,b] k2 Vz) pos.line X.env=eT false:=by rfl)(h1:cv [a,b] X.env=(false,eu a X.env)::cv [b] X.env:=by rfl)(O:cv [b] X.env=(false,eu b X.env)::cv [] X.env:=by rfl):SS X c n (.Assign [.Tuple [.Name x l,.Name y o] kt pt] (.Tuple [a,b] k2 Vz) pos) (.par i j pa pb):=by refine dB (L2.Rj hc C hi E q G I (bF J.ev (bF L.ev dD O) h1) M hs) ?_;rintro D σ H⟨F,ρ,fl,Q,g,e,k⟩;rw[HH.X7]at e;obtain⟨r,f,U,e⟩:=aj e;obtain⟨B,t,W,e⟩:=aj e;obtain⟨Y,Z,h,e⟩:=aj e;cases e;have zz:=aD h;clear h;obtain⟨h,e4⟩:=zz;obtain⟨ac,e5,e6⟩:=cJ h;refine⟨F,ρ,r,f,g,U,λv F1 H1 s1 rr=>?_⟩;obtain⟨F2,s2,_,rp⟩:=s1.dz rr;refine⟨F2,f,B,t,s2.gs,W,λu F3 H3 s3 w=>?_⟩;obtain⟨F4,s4,_,z⟩:=s3.dz w;refine⟨v,u,rfl,?_⟩;have t4:=s2.trans s4;have t5:=t4.put (r:=.val r.d) (v:=v) (rp.mono s4.bQ) e5;exact k F4 _ H3 (t5.put (r:=.val B.d) (v:=u) z e6)
theorem JK{bs:List Bool}(h:ds.mapM yI=some bs):ds=bs.map D.bl:=by induction ds generalizing bs with|nil=>simp at h;subst h;rfl|cons d ds f=>rw[List.mapM_cons]at h;cases hd:yI d with|none=>rw[hd]at h;cases h|some k=>rw[hd]at h;cases hr:ds.mapM yI with|none=>rw[hr]at h;cases h|some r=>rw[hr]at h;cases h;rw[c_,<-f hr,qm hd]
theorem BR{K:PySem.W.Frag}{F:Hp}:∀{bs:List Bool}{xs:List V},aH K F xs (bs.map D.bl)->xs=bs.map V.bl|[],_,h=>h.fV|k::bs,_,h=>by obtain⟨v,r,rfl,h1,f⟩:=h.cL;rw[Rep]at h1;rw[h1,BR f];rfl
theorem Bp:∀{bs:List Bool}{f:List aX},Vals (bs.map V.bl) f->f=bs.map jh|[],_,h=>h.zero|k::bs,_,.cons r t=>by rw[c_,<-Bp t,show _=_ from r]
theorem Oe{id:String}{f:List Bool->Bool}(hc:X.calm=true)(rule:∀{x:aX}{Q:aX->a_->Prop}{s:a_},cy (cS X.prog X.w) X.A.in1 (pf x) (λit g=>∃ I G t n P St y,it=.ref I/\Walks X.prog X.w X.A.in1 I G t n P St/\St 0 g.heap/\TruthOf X.prog X.w X.A.in1 P y/\∀h' B,(∀b o,b∉t->g.heap.get? b=some o->h'.get? b=some o)->Q (.bool (f ((dP n).map y))) {g with heap:=h',toks:=B}) X.xe s->cy (cS X.prog X.w) X.A (call (.builtin id) [x]) Q X.xe s):dN X (.builtin id) (λxs H Q=>∃p ys bs,xs=[.ref p]/\eO X.K H p ys/\ys=bs.map V.bl/\Q (.bl (f bs)) H):=by
 rintro C s σ H xs us Q I r⟨p,ys,bs,J,L,M,k⟩;subst J;subst M;obtain⟨u,rfl,N⟩:=r.one;cases N;obtain⟨O,U,l,hz⟩:=I.list L;have h:=Bp U;subst h;refine rule (gy l.isList ?_);have q:p≠s.heap.objs.size:=by obtain⟨o,h1,_⟩:=l.isList;exact dS (dl h1)
 refine⟨s.heap.objs.size,_,_,_,_,_,λi=>bs.getD i false,rfl,Walks.list (prog:=X.prog) (w:=X.w) (A:=X.A.in1) (show X.A.in1.handled=none from I.ok.hd hc) s.heap.objs.size p q (bs.map jh).toArray,⟨⟨_,cw _ rfl,rfl,rfl⟩,?_⟩,?_,λh' B kp=>?_⟩;.obtain⟨o,h1,E⟩:=l.isList;exact⟨o,dM h1,E⟩
 . intro i v s' Q' E' j W;have Y:v=.bool (bs.getD i false):=by
    have j:(bs.map jh)[i]?=some v:=by simpa using j
    rw[eR]at j;obtain⟨k',Z,e2⟩:=map_some j;rw[<-e2,f_,Z];rfl
   subst Y;exact gx W
 . have e:f ((dP (bs.map jh).toArray.size).map λi=>bs.getD i false)=f bs:=by
    congr 1;apply k_;.simp
    .intro i h1 E;simp at h1;simp[h1]
   rw[e];exact⟨.bl _,H,I.kept (λb o z=>kp b o (by simp;exact dS (dl z)) (dM z)),rfl,k⟩
theorem ZZ(hc:X.calm=true):dN X (.builtin "all") (Mp X.K λx=>blt .all [x]):=by rintro g s σ H xs q Q I r⟨x,t,F,d,u,sm,w,he,k⟩;obtain⟨bs,y,he⟩:=map_some (show((zT d).bind λds=>ds.mapM yI).map _=some u from he);subst he;obtain⟨ds,j,B⟩:=cJ y;have C:=JK B;cases d with|lst es=>cases j;obtain⟨p,ys,rfl,E,l⟩:=w.lst sm;rw[C]at l;refine Oe (f:=λbs=>bs.all id) hc (λh=>call_all_walk (et h (λit o⟨I,fp,wr,n,P,Sx,tr,h1,h2,h3,h4,h5⟩=>⟨I,fp,wr,n,P,Sx,tr,h1,h2,h3,h4,λh' G kp=>?_⟩) λ_ _ z=>z)) g s σ H xs q Q I r ⟨p,ys,bs,t,E,BR l,cF.dm sm (fU _) k⟩;have z:=h5 h' G kp;rw[List.all_map]at z;exact z|_=>cases j
theorem boot_all:ey "all"=some (.builtin "all"):=by decide+kernel
theorem Tc(f:x="all")(hc:X.calm=true)(g:Gl X x)(j:X.mg x=none)(k:SX X c a pa)(hs:cv [a] X.env=(false,eu a X.env)::cv [] X.env:=by rfl):SX X c (.Call (.Name x p') [a] [] pos) (.blt .all [pa]):=by subst f;exact oV (λh=>dX (ZZ hc) g j boot_all h (he:=hs)) k (λρ=>rfl) rfl hs
end
section
variable{K:PySem.W.Frag}
theorem jQ:∀{xs ys:List D},xs.length≠ys.length->gM xs ys=false|[],[],h=>absurd rfl h|[],_::_,_=>by simp[gM]|_::_,[],_=>by simp[gM]|x::xs,y::ys,h=>by rw[gM,jQ (xs:=xs) (ys:=ys) (by simpa using h),kK]
theorem gA:∀{xs ys:List D},xs.length=ys.length->gM xs ys=(dP xs.length).all λj=>lF (xs.getD j .non) (ys.getD j .non)|[],[],_=>by rw[gM];rfl|[],_::_,h=>by simp at h|_::_,[],h=>by simp at h|x::xs,y::ys,h=>by rw[gM,gA (xs:=xs) (ys:=ys) (by simpa using h),ea,List.range_succ_eq_map,qA,List.all_map];rfl
mutual
theorem wG:∀d:D,lF d d=true|.non=>rfl|.bl _=>by exact beq_self_eq_true _|.int _=>by exact beq_self_eq_true _|.str _=>by exact beq_self_eq_true _|.tup ds=>by exact j8 ds|.lst ds=>by exact j8 ds|.eG _=>by exact decide_eq_true rfl|.dv ks ds=>by show(decide (ks=ks)&&gM ds ds)=true;rw[j8 ds];simp
theorem j8:∀ds:List D,gM ds ds=true|[]=>by rw[gM]|d::ds=>by rw[gM,wG d,j8 ds];rfl
end
theorem fL{d e:D}(b:flat d=true)(h1:Rep K F v d)(a:Rep K F v e):d=e:=by cases d with
 |tup _=>cases b|lst _=>cases b|eG _=>cases b|dv _ _=>cases b|non=>rw[Rep]at h1;subst h1;cases e with|non=>rfl|tup _=>rw[Rep]at a;obtain⟨_,_,q,_⟩:=a;cases q|lst _=>rw[Rep]at a;obtain⟨_,_,q,_⟩:=a;cases q|eG _=>rw[Rep]at a;obtain⟨_,_,q,_⟩:=a;cases q|dv _ _=>rw[Rep]at a;obtain⟨_,_,_,q,_⟩:=a;cases q|_=>rw[Rep]at a;cases a
 |bl k=>rw[Rep]at h1;subst h1;cases e with|bl _=>rw[Rep]at a;cases a;rfl|tup _=>rw[Rep]at a;obtain⟨_,_,q,_⟩:=a;cases q|lst _=>rw[Rep]at a;obtain⟨_,_,q,_⟩:=a;cases q|eG _=>rw[Rep]at a;obtain⟨_,_,q,_⟩:=a;cases q|dv _ _=>rw[Rep]at a;obtain⟨_,_,_,q,_⟩:=a;cases q|_=>rw[Rep]at a;cases a
 |int k=>rw[Rep]at h1;subst h1;cases e with|int _=>rw[Rep]at a;cases a;rfl|tup _=>rw[Rep]at a;obtain⟨_,_,q,_⟩:=a;cases q|lst _=>rw[Rep]at a;obtain⟨_,_,q,_⟩:=a;cases q|eG _=>rw[Rep]at a;obtain⟨_,_,q,_⟩:=a;cases q|dv _ _=>rw[Rep]at a;obtain⟨_,_,_,q,_⟩:=a;cases q|_=>rw[Rep]at a;cases a
 |str k=>rw[Rep]at h1;subst h1;cases e with|str _=>rw[Rep]at a;cases a;rfl|tup _=>rw[Rep]at a;obtain⟨_,_,q,_⟩:=a;cases q|lst _=>rw[Rep]at a;obtain⟨_,_,q,_⟩:=a;cases q|eG _=>rw[Rep]at a;obtain⟨_,_,q,_⟩:=a;cases q|dv _ _=>rw[Rep]at a;obtain⟨_,_,_,q,_⟩:=a;cases q|_=>rw[Rep]at a;cases a
theorem NQ{X:Cx}{u:List (bd×Obj)}(I:L2.Inv X u σ H s)(sm:aG F H):∀n:Nat,(∀d:D,eZ n d=true->∀(v:V)(e:D),Rep X.K F v d->Rep X.K F v e->d=e):=by
 have N:∀{a:bd}{xs ys:List V},iM X.K F a xs->eO X.K F a ys->False:=λ{a xs ys}h1 b=>by obtain⟨_,_,⟨o,g,j,_⟩,_⟩:=I.tuple (aG.gD sm h1);obtain⟨_,_,w,_⟩:=I.list (sm.seq b);obtain⟨C,c,f,_⟩:=w.isList;rw[g]at c;cases c;rw[j]at f;exact absurd f (by decide)
 have O:∀{a:bd}{kvs:Dc},Rep X.K F (.ref a) (.eG kvs)->∃o,s.heap.get? a=some o/\o.cls=.type "dict":=λ{a kvs}h=>by rw[Rep]at h;obtain⟨y,_,q,E⟩:=h;cases q;exact IV I (sm _ _ E)
 have Q:∀{a:bd}{xs:List V}{kvs:Dc},iM X.K F a xs->Rep X.K F (.ref a) (.eG kvs)->False:=λ{a xs kvs}h1 b=>by obtain⟨_,_,⟨o,g,j,_⟩,_⟩:=I.tuple (aG.gD sm h1);obtain⟨C,c,f⟩:=O b;rw[g]at c;cases c;rw[j]at f;exact absurd f (by decide)
 have ld:∀{a:bd}{xs:List V}{kvs:Dc},eO X.K F a xs->Rep X.K F (.ref a) (.eG kvs)->False:=λ{a xs kvs}h1 b=>by obtain⟨_,_,w,_⟩:=I.list (sm.seq h1);obtain⟨o,g,j,_⟩:=w.isList;obtain⟨C,c,f⟩:=O b;rw[g]at c;cases c;rw[j]at f;exact absurd f (by decide)
 have z:∀{a:bd}{ks:List Int}{es:List D},Rep X.K F (.ref a) (.dv ks es)->∃o,s.heap.get? a=some o/\o.cls=.type "dict":=λ{a ks es}h=>by rw[Rep]at h;obtain⟨y,_,_,q,E,_⟩:=h;cases q;exact Ik I (sm _ _ E)
 have G:∀{a:bd}{xs:List V}{ks:List Int}{es:List D},iM X.K F a xs->Rep X.K F (.ref a) (.dv ks es)->False:=λ{a xs ks es}h1 b=>by obtain⟨_,_,⟨o,g,j,_⟩,_⟩:=I.tuple (aG.gD sm h1);obtain⟨C,c,f⟩:=z b;rw[g]at c;cases c;rw[j]at f;exact absurd f (by decide)
 have J:∀{a:bd}{xs:List V}{ks:List Int}{es:List D},eO X.K F a xs->Rep X.K F (.ref a) (.dv ks es)->False:=λ{a xs ks es}h1 b=>by obtain⟨_,_,w,_⟩:=I.list (sm.seq h1);obtain⟨o,g,j,_⟩:=w.isList;obtain⟨C,c,f⟩:=z b;rw[g]at c;cases c;rw[j]at f;exact absurd f (by decide)
 intro n;induction n with
 |zero=>intro d hd v e h1 b;cases d with|tup _=>simp[eZ]at hd|lst _=>simp[eZ]at hd|eG _=>simp[eZ]at hd|dv _ _=>simp[eZ]at hd|non=>exact fL rfl h1 b|bl k=>exact fL rfl h1 b|int k=>exact fL rfl h1 b|str k=>exact fL rfl h1 b
 |succ n U=>
   have all:∀{xs:List V}{ds es:List D},ds.all (eZ n)=true->aH X.K F xs ds->aH X.K F xs es->ds=es:=λ{xs ds}=>by induction ds generalizing xs with|nil=>intro es _ h1 b;rw[h1.fV]at b;have:=b.length;exact(gE this.symm).symm|cons d ds L=>intro es p h1 b;rw[qA,fN]at p;obtain⟨v,r,rfl,g,j⟩:=h1.cL;cases es with|nil=>cases b.fV|cons e es=>obtain⟨Y,Z,W,c,f⟩:=b.cL;cases W;rw[U d p.1 v e g c,L p.2 j f]
   intro d hd v e h1 b;cases d with
   |eG _=>simp[eZ]at hd|dv _ _=>simp[eZ]at hd|tup ds=>
     have p:ds.all (eZ n)=true:=by simpa[eZ]using hd
     rw[Rep]at h1;obtain⟨a,xs,rfl,l,M⟩:=h1;cases e with|tup es=>rw[Rep]at b;obtain⟨y,ys,q,t,B⟩:=b;cases q;have:=I.j5 (aG.gD sm l) (aG.gD sm t);subst this;rw[all p M B]|lst es=>rw[Rep]at b;obtain⟨y,ys,q,t,B⟩:=b;cases q;exact(N l t).elim|eG _=>exact(Q l b).elim|dv _ _=>exact(G l b).elim|_=>rw[Rep]at b;cases b
   |lst ds=>
     have p:ds.all (eZ n)=true:=by simpa[eZ]using hd
     rw[Rep]at h1;obtain⟨a,xs,rfl,l,M⟩:=h1;cases e with|lst es=>rw[Rep]at b;obtain⟨y,ys,q,t,B⟩:=b;cases q;have:=I.m7 (sm.seq l) (sm.seq t);subst this;rw[all p M B]|tup es=>rw[Rep]at b;obtain⟨y,ys,q,t,B⟩:=b;cases q;exact(N t l).elim|eG _=>exact(ld l b).elim|dv _ _=>exact(J l b).elim|_=>rw[Rep]at b;cases b
   |non=>exact fL rfl h1 b|bl k=>exact fL rfl h1 b|int k=>exact fL rfl h1 b|str k=>exact fL rfl h1 b
theorem Cz{d e:D}{u:V}{c:aX}(hd:flat d=true)(he:flat e=true)(h1:Rep K F v d)(a:Rep K F u e)(r1:RelV v c)(b:RelV u u'):ii A s c u' (lF d e):=by cases d with
 |tup _=>cases hd|lst _=>cases hd|eG _=>cases hd|dv _ _=>cases hd|non=>rw[Rep]at h1;subst h1;cases(show c=.none from r1);cases e with|tup _=>cases he|lst _=>cases he|eG _=>cases he|dv _ _=>cases he|non=>rw[Rep]at a;subst a;cases(show u'=.none from b);exact SeqAt.EqAt.same _|bl _=>rw[Rep]at a;subst a;cases(show u'=.bool _ from b);exact SeqAt.EqAt.none_bool _|int _=>rw[Rep]at a;subst a;obtain⟨t,rfl⟩:=b;exact SeqAt.EqAt.none_int _ _|str _=>rw[Rep]at a;subst a;obtain⟨t,rfl⟩:=b;exact SeqAt.EqAt.none_str _ _
 |bl _=>rw[Rep]at h1;subst h1;cases(show c=.bool _ from r1);cases e with|tup _=>cases he|lst _=>cases he|eG _=>cases he|dv _ _=>cases he|non=>rw[Rep]at a;subst a;cases(show u'=.none from b);exact SeqAt.EqAt.bool_none _|bl _=>rw[Rep]at a;subst a;cases(show u'=.bool _ from b);exact SeqAt.EqAt.bool_bool _ _|int _=>rw[Rep]at a;subst a;obtain⟨t,rfl⟩:=b;exact SeqAt.EqAt.bool_int _ _ _|str _=>rw[Rep]at a;subst a;obtain⟨t,rfl⟩:=b;exact SeqAt.EqAt.bool_str _ _ _
 |int _=>rw[Rep]at h1;subst h1;obtain⟨t0,rfl⟩:=r1;cases e with|tup _=>cases he|lst _=>cases he|eG _=>cases he|dv _ _=>cases he|non=>rw[Rep]at a;subst a;cases(show u'=.none from b);exact SeqAt.EqAt.int_none _ _|bl _=>rw[Rep]at a;subst a;cases(show u'=.bool _ from b);exact SeqAt.EqAt.int_bool _ _ _|int _=>rw[Rep]at a;subst a;obtain⟨t,rfl⟩:=b;exact SeqAt.EqAt.int_int _ _ _ _|str _=>rw[Rep]at a;subst a;obtain⟨t,rfl⟩:=b;exact int_str _ _ _ _
 |str _=>rw[Rep]at h1;subst h1;obtain⟨t0,rfl⟩:=r1;cases e with|tup _=>cases he|lst _=>cases he|eG _=>cases he|dv _ _=>cases he|non=>rw[Rep]at a;subst a;cases(show u'=.none from b);exact SeqAt.EqAt.str_none _ _|bl _=>rw[Rep]at a;subst a;cases(show u'=.bool _ from b);exact SeqAt.EqAt.str_bool _ _ _|int _=>rw[Rep]at a;subst a;obtain⟨t,rfl⟩:=b;exact str_int _ _ _ _|str _=>rw[Rep]at a;subst a;obtain⟨t,rfl⟩:=b;exact SeqAt.EqAt.str_str _ _ _ _
theorem mj{e:D}{u:V}{a:bd}{g:Array aX}(ht:s.heap.IsTuple a g)(b:A.units<fT)(he:flat e=true)(c:Rep K F u e)(f:RelV u u'):ii A s (.ref a) u' (lF (.tup ds) e)/\ii A s u' (.ref a) (lF e (.tup ds)):=by cases e with|tup _=>cases he|lst _=>cases he|eG _=>cases he|dv _ _=>cases he|non=>rw[Rep]at c;subst c;cases(show u'=.none from f);exact⟨SeqAt.EqAt.tuple_none ht b,SeqAt.EqAt.none_tuple ht b⟩|bl _=>rw[Rep]at c;subst c;cases(show u'=.bool _ from f);exact⟨SeqAt.EqAt.tuple_bool _ ht b,SeqAt.EqAt.bool_tuple _ ht b⟩|int _=>rw[Rep]at c;subst c;obtain⟨t,rfl⟩:=f;exact⟨SeqAt.EqAt.tuple_int _ _ ht b,SeqAt.EqAt.int_tuple _ _ ht b⟩|str _=>rw[Rep]at c;subst c;obtain⟨t,rfl⟩:=f;exact⟨SeqAt.EqAt.tuple_str _ _ ht b,SeqAt.EqAt.str_tuple _ _ ht b⟩
theorem mV{e:D}{u:V}{a:bd}{g:Array aX}(ht:s.heap.IsList a g)(b:A.units<fT)(he:flat e=true)(c:Rep K F u e)(f:RelV u u'):ii A s (.ref a) u' (lF (.lst ds) e)/\ii A s u' (.ref a) (lF e (.lst ds)):=by cases e with|tup _=>cases he|lst _=>cases he|eG _=>cases he|dv _ _=>cases he|non=>rw[Rep]at c;subst c;cases(show u'=.none from f);exact⟨SeqAt.EqAt.list_none ht b,SeqAt.EqAt.none_list ht b⟩|bl _=>rw[Rep]at c;subst c;cases(show u'=.bool _ from f);exact⟨SeqAt.EqAt.list_bool _ ht b,SeqAt.EqAt.bool_list _ ht b⟩|int _=>rw[Rep]at c;subst c;obtain⟨t,rfl⟩:=f;exact⟨SeqAt.EqAt.list_int _ _ ht b,SeqAt.EqAt.int_list _ _ ht b⟩|str _=>rw[Rep]at c;subst c;obtain⟨t,rfl⟩:=f;exact⟨SeqAt.EqAt.list_str _ _ ht b,SeqAt.EqAt.str_list _ _ ht b⟩
theorem wD{n:Nat}{d:D}(h:eZ n d=true)(h0:n=0):flat d=true:=by subst h0;cases d<;>first|rfl|simp[eZ]at h
theorem aet{X:Cx}{E:List (bd×Obj)}(I:L2.Inv X E σ H s)(sm:aG F H):∀(n:Nat)(A:ez),A.units+n<fT->∀(d e:D),eZ n d=true->eZ n e=true->∀(v u:V)(G u':aX),Rep X.K F v d->Rep X.K F u e->RelV v G->RelV u u'->ii A s G u' (lF d e):=by intro n;induction n with|zero=>intro A W d e hd he v u G u' h1 f r1 g;exact Cz (wD hd rfl) (wD he rfl) h1 f r1 g|succ n Y=>
   intro A W d e hd he v u G u' h1 f r1 g;have c:A.units<fT:=by omega
   have L:A.in1.units+n<fT:=by show A.units+1+n<fT;omega--items by place
   have at_:∀{xs ys:List V}{q ws:List aX}{ds es:List D}{j:Nat}(w:j<q.toArray.size)(B:j<ws.toArray.size),ds.all (eZ n)=true->es.all (eZ n)=true->Vals xs q->Vals ys ws->aH X.K F xs ds->aH X.K F ys es->ii A.in1 s q.toArray[j] ws.toArray[j] (lF (ds.getD j .non) (es.getD j .non)):=λ{xs ys q ws ds es j}w B Z a2 C h p1 p2=>by
    have w:j<q.length:=by simpa using w
    have B:j<ws.length:=by simpa using B
    have l1:j<ds.length:=by rw[<-p1.length,C.length];exact w
    have l2:j<es.length:=by rw[<-p2.length,h.length];exact B
    obtain⟨x,g1,g2⟩:=p1.get (show ds[j]?=some ds[j]by simp[l1]);obtain⟨y,g3,g4⟩:=p2.get (show es[j]?=some es[j]by simp[l2]);obtain⟨Q,g5,g6⟩:=C.get g1;obtain⟨U,g7,g8⟩:=h.get g3;have e1:q.toArray[j]=Q:=by have:=(dJ g5).2;simpa using this
    have e2:ws.toArray[j]=U:=by have:=(dJ g7).2;simpa using this
    have e3:ds.getD j .non=ds[j]:=by simp[jv,l1]
    have e4:es.getD j .non=es[j]:=by simp[jv,l2]
    rw[e1,e2,e3,e4];exact Y A.in1 L _ _ (fP.mp Z _ (iP l1)) (fP.mp a2 _ (iP l2)) x y Q U g2 g4 g6 g8--the same object
   have same:∀{a:bd},v=.ref a->u=.ref a->ii A s G u' (lF d e):=λ{a}q1 q2=>by subst q1;subst q2;have:=NQ I sm (n+1) d hd _ e h1 f;subst this;rw[wG];cases r1;cases g;exact SeqAt.EqAt.same _
   cases d with
   |eG _=>simp[eZ]at hd|dv _ _=>simp[eZ]at hd|tup ds=>
     have M:ds.all (eZ n)=true:=by simpa[eZ]using hd
     have k:=h1;rw[Rep]at k;obtain⟨a,xs,rfl,N,J⟩:=k;cases r1;obtain⟨q,C,p1,_⟩:=I.tuple (aG.gD sm N)
     cases e with|eG _=>simp[eZ]at he|dv _ _=>simp[eZ]at he|tup es=>
       have O:es.all (eZ n)=true:=by simpa[eZ]using he
       have l:=f;rw[Rep]at l;obtain⟨b,ys,rfl,o,r⟩:=l;by_cases p:a=b;.subst p;exact same rfl rfl
       . cases g;obtain⟨ws,h,p2,_⟩:=I.tuple (aG.gD sm o);refine .of_refs p ?_;have z:=SeqAt.RcAt.tuples (A:=A) (e:=λj=>lF (ds.getD j .non) (es.getD j .non)) p1 p2 c λj w B=>at_ w B M O C h J r;have l1:q.toArray.size=ds.length:=by rw[cx,<-C.length,J.length]
         have l2:ws.toArray.size=es.length:=by rw[cx,<-h.length,r.length]
         rw[l1,l2]at z;have e0:lF (.tup ds) (.tup es)=((dP (min ds.length es.length)).all (λj=>lF (ds.getD j .non) (es.getD j .non))&&ds.length==es.length):=by
          rw[pqt];by_cases t:ds.length=es.length;.rw[gA t,t];simp
          . rw[jQ t];have:(ds.length==es.length)=false:=by simpa using t
            rw[this,kK]
         rw[e0];exact z|lst es=>rw[Rep]at f;obtain⟨b,ys,rfl,o,r⟩:=f;cases g;obtain⟨ws,h,p2,_⟩:=I.list (sm.seq o);exact SeqAt.EqAt.tuple_list p1 p2.isList c|non=>exact(mj p1 c rfl f g).1|bl _=>exact(mj p1 c rfl f g).1|int _=>exact(mj p1 c rfl f g).1|str _=>exact(mj p1 c rfl f g).1
   |lst ds=>
     have M:ds.all (eZ n)=true:=by simpa[eZ]using hd
     have k:=h1;rw[Rep]at k
     obtain⟨a,xs,rfl,N,J⟩:=k;cases r1;obtain⟨q,C,p1,_⟩:=I.list (sm.seq N);cases e with|eG _=>simp[eZ]at he|dv _ _=>simp[eZ]at he|lst es=>
       have O:es.all (eZ n)=true:=by simpa[eZ]using he
       have l:=f;rw[Rep]at l;obtain⟨b,ys,rfl,o,r⟩:=l;by_cases p:a=b;.subst p;exact same rfl rfl
       . cases g;obtain⟨ws,h,p2,_⟩:=I.list (sm.seq o);refine .of_refs p ?_;have l1:q.toArray.size=ds.length:=by rw[cx,<-C.length,J.length]
         have l2:ws.toArray.size=es.length:=by rw[cx,<-h.length,r.length]
         rw[pql];by_cases t:ds.length=es.length;.have z:=SeqAt.RcAt.lists (A:=A) (e:=λj=>lF (ds.getD j .non) (es.getD j .non)) p1.isList p2.isList (by rw[l1,l2,t]) c λj w B=>at_ w B M O C h J r;rw[l1]at z;rw[gA t];exact z
         .rw[jQ t];exact lists_lengths p1.isList p2.isList (by rw[l1,l2];simpa using t) c|tup es=>rw[Rep]at f;obtain⟨b,ys,rfl,o,r⟩:=f;cases g;obtain⟨ws,h,p2,_⟩:=I.tuple (aG.gD sm o);exact SeqAt.EqAt.list_tuple p1.isList p2 c|non=>exact(mV p1.isList c rfl f g).1|bl _=>exact(mV p1.isList c rfl f g).1|int _=>exact(mV p1.isList c rfl f g).1|str _=>exact(mV p1.isList c rfl f g).1
   |non|bl _|int _|str _=>cases e with|eG _=>simp[eZ]at he|dv _ _=>simp[eZ]at he|tup es=>rw[Rep]at f;obtain⟨b,ys,rfl,o,r⟩:=f;cases g;obtain⟨ws,h,p2,_⟩:=I.tuple (aG.gD sm o);exact(mj p2 c rfl h1 r1).2|lst es=>rw[Rep]at f;obtain⟨b,ys,rfl,o,r⟩:=f;cases g;obtain⟨ws,h,p2,_⟩:=I.list (sm.seq o);exact(mV p2.isList c rfl h1 r1).2|_=>exact Cz rfl rfl h1 f r1 g
end
section
variable{X:Cx}{pins:List (bd×Obj)}{σ:L2.St}{H F:Hp}{s:a_}{A:ez}
noncomputable abbrev RC(A:ez)(s:a_)(v u:aX)(k:Bool):Prop:=SeqAt.RcAt A s v u k/\SeqAt.RcNeAt A s v u (!k)
inductive Top(X:Cx)(F H:Hp)(s:a_):aX->D->Prop where|non:Top X F H s .none .non|bl(b:Bool):Top X F H s (.bool b) (.bl b)|int(i:Int)(t:Tok):Top X F H s (.int i t) (.int i)|str(x:Str)(t:Tok):Top X F H s (.str x t) (.str x)|tup{a:bd}{us:List aX}{xs:List V}{ds:List D}(ht:s.heap.IsTuple a us.toArray)(hv:Vals xs us)(hr:aH X.K F xs ds):Top X F H s (.ref a) (.tup ds)|lst{a:bd}{us:List aX}{xs:List V}{ds:List D}(ht:s.heap.IsList a us.toArray)(hv:Vals xs us)(hr:aH X.K F xs ds):Top X F H s (.ref a) (.lst ds)
theorem vN(I:L2.Inv X pins σ H s)(sm:aG F H){f:aX}{d:D}(hd:eZ 8 d=true)(h:dG X.K F H v d)(r:RelV v f):Top X F H s f d:=by cases d with|eG _=>simp[eZ]at hd|dv _ _=>simp[eZ]at hd|non=>rw[h.non]at r;cases r;exact .non|bl b=>rw[h.bl]at r;cases r;exact .bl b|int i=>rw[h.int]at r;obtain⟨t,rfl⟩:=r;exact .int i t|str x=>rw[h.str]at r;obtain⟨t,rfl⟩:=r;exact .str x t|tup ds=>obtain⟨a,xs,rfl,h1,c,_⟩:=h.tup sm;cases r;obtain⟨g,e,p1,_⟩:=I.tuple h1;exact .tup p1 e c|lst ds=>obtain⟨a,xs,rfl,h1,c⟩:=h.lst sm;cases r;obtain⟨g,e,p1,_⟩:=I.list h1;exact .lst p1.isList e c
theorem aad(I:L2.Inv X pins σ H s)(sm:aG F H){n:Nat}(hu:A.units+(n+1)<fT){d e:D}(hd:eZ (n+1) d=true)(he:eZ (n+1) e=true){E:aX}(h1:Top X F H s E d)(r:Top X F H s u' e):RC A s E u' (lF d e):=by
 have c:A.units<fT:=by omega
 have C:A.in1.units+n<fT:=by show A.units+1+n<fT;omega
 have at_:∀{xs ys:List V}{p ws:List aX}{ds es:List D}{j:Nat}(k:j<p.toArray.size)(l:j<ws.toArray.size),ds.all (eZ n)=true->es.all (eZ n)=true->Vals xs p->Vals ys ws->aH X.K F xs ds->aH X.K F ys es->ii A.in1 s p.toArray[j] ws.toArray[j] (lF (ds.getD j .non) (es.getD j .non)):=λ{xs ys p ws ds es j}k l N O G J p1 p2=>by
  have k:j<p.length:=by simpa using k
  have l:j<ws.length:=by simpa using l
  have l1:j<ds.length:=by rw[<-p1.length,G.length];exact k
  have l2:j<es.length:=by rw[<-p2.length,J.length];exact l
  obtain⟨x,Q,U⟩:=p1.get (show ds[j]?=some ds[j]by simp[l1]);obtain⟨y,W,Y⟩:=p2.get (show es[j]?=some es[j]by simp[l2]);obtain⟨L,Z,g6⟩:=G.get Q;obtain⟨M,g7,g8⟩:=J.get W;have e1:p.toArray[j]=L:=by have:=(dJ Z).2;simpa using this
  have e2:ws.toArray[j]=M:=by have:=(dJ g7).2;simpa using this
  have e3:ds.getD j .non=ds[j]:=by simp[jv,l1]
  have e4:es.getD j .non=es[j]:=by simp[jv,l2]
  rw[e1,e2,e3,e4];exact aet I sm n A.in1 C _ _ (fP.mp N _ (iP l1)) (fP.mp O _ (iP l2)) x y L M U Y g6 g8
 cases h1 with
 |non=>cases r with|non=>exact⟨SeqAt.RcAt.none_none,SeqAt.RcNeAt.none_none⟩|bl b=>exact⟨SeqAt.RcAt.none_bool _,SeqAt.RcNeAt.none_bool _⟩|int i t=>exact⟨SeqAt.RcAt.none_int _ _,none_int _ _⟩|str i t=>exact⟨SeqAt.RcAt.none_str _ _,none_str _ _⟩|tup ht _ _=>exact⟨SeqAt.RcAt.none_tuple ht c,SeqAt.RcNeAt.none_tuple ht c⟩|lst ht _ _=>exact⟨SeqAt.RcAt.none_list ht c,SeqAt.RcNeAt.none_list ht c⟩
 |bl b0=>cases r with|non=>exact⟨SeqAt.RcAt.bool_none _,SeqAt.RcNeAt.bool_none _⟩|bl b=>exact⟨SeqAt.RcAt.bool_bool _ _,SeqAt.RcNeAt.bool_bool _ _⟩|int i t=>exact⟨SeqAt.RcAt.bool_int _ _ _,bool_int _ _ _⟩|str i t=>exact⟨SeqAt.RcAt.bool_str _ _ _,bool_str _ _ _⟩|tup ht _ _=>exact⟨SeqAt.RcAt.bool_tuple _ ht c,SeqAt.RcNeAt.bool_tuple _ ht c⟩|lst ht _ _=>exact⟨SeqAt.RcAt.bool_list _ ht c,SeqAt.RcNeAt.bool_list _ ht c⟩
 |int i0 t0=>cases r with|non=>exact⟨SeqAt.RcAt.int_none _ _,int_none _ _⟩|bl b=>exact⟨SeqAt.RcAt.int_bool _ _ _,int_bool _ _ _⟩|int i t=>exact⟨SeqAt.RcAt.int_int _ _ _ _,int_int _ _ _ _⟩|str i t=>exact⟨SeqAt.RcAt.int_str _ _ _ _,SeqAt.RcNeAt.int_str _ _ _ _⟩|tup ht _ _=>exact⟨SeqAt.RcAt.int_tuple _ _ ht c,SeqAt.RcNeAt.int_tuple _ _ ht c⟩|lst ht _ _=>exact⟨SeqAt.RcAt.int_list _ _ ht c,int_list _ _ ht c⟩
 |str i0 t0=>cases r with|non=>exact⟨SeqAt.RcAt.str_none _ _,str_none _ _⟩|bl b=>exact⟨SeqAt.RcAt.str_bool _ _ _,str_bool _ _ _⟩|int i t=>exact⟨SeqAt.RcAt.str_int _ _ _ _,SeqAt.RcNeAt.str_int _ _ _ _⟩|str i t=>exact⟨SeqAt.RcAt.str_str _ _ _ _,str_str _ _ _ _⟩|tup ht _ _=>exact⟨SeqAt.RcAt.str_tuple _ _ ht c,SeqAt.RcNeAt.str_tuple _ _ ht c⟩|lst ht _ _=>exact⟨SeqAt.RcAt.str_list _ _ ht c,str_list _ _ ht c⟩
 |@tup a p xs ds ht q hr=>
   have u:ds.all (eZ n)=true:=by simpa[eZ]using hd
   cases r with|non=>exact⟨SeqAt.RcAt.tuple_none ht c,SeqAt.RcNeAt.tuple_none ht c⟩|bl b=>exact⟨SeqAt.RcAt.tuple_bool _ ht c,SeqAt.RcNeAt.tuple_bool _ ht c⟩|int i t=>exact⟨SeqAt.RcAt.tuple_int _ _ ht c,SeqAt.RcNeAt.tuple_int _ _ ht c⟩|str i t=>exact⟨SeqAt.RcAt.tuple_str _ _ ht c,SeqAt.RcNeAt.tuple_str _ _ ht c⟩|lst h _ _=>exact⟨SeqAt.RcAt.tuple_list ht h c,SeqAt.RcNeAt.tuple_list ht h c⟩|@tup b ws ys es h f g=>
     have w:es.all (eZ n)=true:=by simpa[eZ]using he
     have l1:p.toArray.size=ds.length:=by rw[cx,<-q.length,hr.length]
     have l2:ws.toArray.size=es.length:=by rw[cx,<-f.length,g.length]
     have z:=SeqAt.RcAt.tuples (A:=A) (e:=λj=>lF (ds.getD j .non) (es.getD j .non)) ht h c λj k l=>at_ k l u w q f hr g;have B:=SeqAt.RcNeAt.tuples (A:=A) (e:=λj=>lF (ds.getD j .non) (es.getD j .non)) ht h c λj k l=>at_ k l u w q f hr g;rw[l1,l2]at z B;have e0:lF (.tup ds) (.tup es)=((dP (min ds.length es.length)).all (λj=>lF (ds.getD j .non) (es.getD j .non))&&ds.length==es.length):=by
      rw[pqt];by_cases o:ds.length=es.length;.rw[gA o,o];simp
      . rw[jQ o];have:(ds.length==es.length)=false:=by simpa using o
        rw[this,kK]
     rw[e0];exact⟨z,B⟩
 |@lst a p xs ds ht q hr=>
   have u:ds.all (eZ n)=true:=by simpa[eZ]using hd
   cases r with|non=>exact⟨SeqAt.RcAt.list_none ht c,SeqAt.RcNeAt.list_none ht c⟩|bl b=>exact⟨SeqAt.RcAt.list_bool _ ht c,SeqAt.RcNeAt.list_bool _ ht c⟩|int i t=>exact⟨SeqAt.RcAt.list_int _ _ ht c,list_int _ _ ht c⟩|str i t=>exact⟨SeqAt.RcAt.list_str _ _ ht c,list_str _ _ ht c⟩|tup h _ _=>exact⟨SeqAt.RcAt.list_tuple ht h c,SeqAt.RcNeAt.list_tuple ht h c⟩|@lst b ws ys es h f g=>
     have w:es.all (eZ n)=true:=by simpa[eZ]using he
     have l1:p.toArray.size=ds.length:=by rw[cx,<-q.length,hr.length]
     have l2:ws.toArray.size=es.length:=by rw[cx,<-f.length,g.length]
     rw[pql];by_cases o:ds.length=es.length;.have z:=SeqAt.RcAt.lists (A:=A) (e:=λj=>lF (ds.getD j .non) (es.getD j .non)) ht h (by rw[l1,l2,o]) c λj k l=>at_ k l u w q f hr g;have B:=SeqAt.RcNeAt.lists (A:=A) (e:=λj=>lF (ds.getD j .non) (es.getD j .non)) ht h (by rw[l1,l2,o]) c λj k l=>at_ k l u w q f hr g;rw[l1]at z B;rw[gA o];exact⟨z,B⟩
     .rw[jQ o];exact⟨lists_lengths ht h (by rw[l1,l2];simpa using o) c,SeqAt.RcNeAt.lists_lengths ht h (by rw[l1,l2];simpa using o) c⟩
theorem lE(b:X.A.units+8<fT):fX X (eg .Eq) (rD X.K (rQ .eq)):=by rintro pins s σ H x y v u Q I c f⟨F,d,e,r,sm,g,h,he,k⟩;obtain⟨t,a,j⟩:=map_some (show(Jk d e).map _=some r from he);subst j;unfold Jk at a;obtain⟨hd,a⟩:=bC a;rw[fN]at hd;subst a;exact(aad I sm (n:=7) b hd.1 hd.2 (vN I sm hd.1 g c) (vN I sm hd.2 h f)).1 _ _ _ _ ⟨.bl _,H,I,rfl,cF.dm sm (fU _) k⟩
theorem yJ(b:X.A.units+8<fT):fX X (eg .NotEq) (rD X.K (rQ .ne)):=by rintro pins s σ H x y v u Q I c f⟨F,d,e,r,sm,g,h,he,k⟩;obtain⟨t,a,j⟩:=map_some (show(Jy d e).map _=some r from he);subst j;unfold Jy at a;obtain⟨hd,a⟩:=bC a;rw[fN]at hd;subst a;exact(aad I sm (n:=7) b hd.1 hd.2 (vN I sm hd.1 g c) (vN I sm hd.2 h f)).2 _ _ _ _ ⟨.bl _,H,I,rfl,cF.dm sm (fU _) k⟩
end
section
variable{Pg:df}{w:ek}{K:PySem.W.Frag}{mg:Str->Option aX}{base:eA}
theorem XC{qual:Str}{st:eJ}{f:bd}{fd:hJ}{N ps:List Str}{k n:Nat}{c:Call}{d:Fd}(C:gb K x qual st f fd)(S:aK N ps (az st))(h1:d.np=ps.length)(t:d.nn=N.length)(G:∀(cdv:aX)(A:ez)(outer:List Env)(s:a_)(H:Hp)(E:XK),jJ k (A.deeper (lb qual (az st) s.heap.objs.size f cdv))->SB (zE Gs Pg w K mg base N qual (az st) f cdv A outer s H E).ZV c n (fY st) d.body):ou Pg w K mg base Gs (k+1) f fd ps (M5 K ps.length (λargs=>enter c n d args)):=by
 refine C.ok S (λvs H Q E h=>h.1) λcdv A outer s H vs Q E hr h=>?_;obtain⟨u,F,args,r,o,g,e,q⟩:=h;refine⟨_,G cdv A outer s H E hr,?_⟩;replace e:enter c n d args=.ok r o:=e;unfold enter at e;split at e
 . rename_i hc;obtain⟨c1,c2⟩:=hc;have I:=g.more (n:=d.nn-d.np) (τ:=b_ (N.length-vs.length) none) (by simp[h1,t,u]);have p:args.length=d.np:=c1;have go:∀{fl:Fl}{a:List Sl},iB c n d.body (args++b_ (d.nn-d.np) .aQ)=.ok fl a->(∀l b j,aB K F (args++b_ (d.nn-d.np) .aQ) (start N vs) H l a b j->(match fl with|.next=>Q .non j|.brk=>False|.cont=>False|.ret r=>∀v,cW K l a b j (args++b_ (d.nn-d.np) .aQ) (start N vs) H v r->Q v j))->tEx K (iB c n d.body) {nx:=λ_ j=>Q .non j,rt:=Q} (start N vs) H:=λ{fl a}z k=>⟨F,_,fl,a,I,z,λl b j s=>by have:=k l b j s;cases fl<;>exact this⟩;split at e;.rename_i a z;cases e;refine go z λl b j s=>?_;obtain⟨y,B⟩:=aB.less (m:=d.np) p.symm g (by simp[h1,t,u]) s;exact q .non l _ j y (show Rep K l _ _ from Sh)
   .rename_i L a z;cases e;refine go z λl b j s v J=>?_;obtain⟨y,B⟩:=aB.less (m:=d.np) p.symm g (by simp[h1,t,u]) s;exact q v l _ j y (B v r J)
   .split at e<;>cases e
 .cases e
structure aR(Pg:df)(w:ek)(K:PySem.W.Frag)(mg:Str->Option aX)(base:eA)(k:Nat)(c:Call)(i:Nat)(x:Str)(np:Nat):Prop where ex:∃fa fd qs,ou Pg w K mg base Gs k fa fd qs (M5 K qs.length (c i))/\mg x=some (.ref fa)/\keepIn K (.ref fa)=true/\Binds K fd qs []/\qs.length=np
end
section
variable{X:Cx}{c:Call}{n k:Nat}{e a b:dr}{es:List dr}{p pa pb:P}{ps:List P}{pos:Pos}
theorem sv(i:Nat)(g:X.N[i]?=some x:=by rfl)(h:v9 X.env.scope x:=by first|exact cE rfl|exact dA (cE rfl)|exact dA (dA rfl))(hd:(x==("__debug__":Str))=false:=by rfl)(f:(x==("__classdict__":Str))=false:=by rfl):SX X c (.Name x pos) (.var i):=Tn g h hd f
theorem dh{np:Nat}(C:aR X.prog X.w X.K X.mg X.base k c i x np)(hr:jJ k X.A)(h:SG X c (e::es) ps)(j:Gl X x:=by rfl)(l:(e::es).length=np:=by rfl)(f:(x==("__debug__":Str))=false:=by rfl)(he:cv (e::es) X.env=(false,eu e X.env)::cv es X.env:=by rfl)(hpl:(iF pos (cv es X.env)).any (·.1)=false:=by rfl)(g:ps.length=(e::es).length:=by rfl):SX X c (.Call (.Name x p') (e::es) [] pos) (.call i ps):=by obtain⟨u,fd,y,h1,o,q,r,t⟩:=C.ex;exact K9 h1 hr j o q r h (l.trans t.symm) f he hpl g
noncomputable def Pk(names outer:List (Str×ke))(N N':List Str)(n:Nat):Bool:=(names.all λy=>names.lookup y.1==some y.2)&&(names.all λy=>y.2!=.local||names.lookup y.1==some .local)&&(names.all λy=>y.2!=.free||outer.lookup y.1==some .cell||outer.lookup y.1==some .free)&&N'.length==N.length+n&&((N.zip N').all λp=>(p.1==p.2&&names.lookup p.2==some .free)||(names.lookup p.2!=some .local&&names.lookup p.2!=some .cell&&names.lookup p.2!=some .free))
theorem sH{scope:jp}{N':List Str}(g:scope.kind=.function)(h:Pk scope.names X.env.scope.names X.N N' n=true):eY X scope N' n:=by
 unfold Pk at h;simp only[fN]at h;obtain⟨⟨⟨⟨h1,j⟩,l⟩,o⟩,q⟩:=h;refine⟨g,λy f=>eq_of_beq (fP.mp h1 y f),λy f e=>?_,λy f e=>?_,by simpa using o,q⟩;.have:=fP.mp j y f;rw[e]at this;simpa using this
 . have:=fP.mp l y f;rw[e]at this;simp only[l9]at this;rcases this with(z|z)|z;.cases z
   .exact .inl (eq_of_beq z)
   .exact .inr (eq_of_beq z)
theorem bM(h:jJ k A):A.units+8<fT:=by have:=h.un;omega
end
end HH
end
section
namespace PySem
section
variable{prog:df}{w:ek}{A:ez}{E:aX->a_->Prop}{s:a_}
theorem gV{it l:bd}{i:Nat}{items:Array aX}{x:aX}{Q:aX->a_->Prop}(a:s.heap.IsTupleIter it l i)(e:s.heap.IsTuple l items)(f:items[i]?=some x)(g:∀h',h'.IsTupleIter it l (i+1)->pS it s.heap h'->Q x {s with heap:=h'}):cy (cS prog w) A (k5 (.ref it)) Q E s:=by obtain⟨o,ho,hc,hd⟩:=id a;obtain⟨h,b,_,j,c⟩:=e;unfold k5;refine av (fR (name:=iL "__next__") a.typeIs F.slot_tuple_iterator_next (gN F.slot_tuple_iterator_next a.typeIs F.entry_tuple_iterator_next ?_ (F.args_tuple_iterator_next_1 _)));show cy _ _ (oB (.ref it) 0>>=_) _ _ s;refine av (fm ho hd (x:=.ref l) rfl ?_);show cy _ _ (if(dY l==eL)=true then _ else _) _ _ s;rw[if_neg (show ¬((dY l==eL)=true)from dQ)];show cy _ _ (oB (.ref it) 1>>=_) _ _ s;refine av (fm ho hd (x:=.int i 0) rfl ?_);show cy _ _ (seqItems? (.ref l)>>=_) _ _ s;refine av (gL b c ?_);simp only[lB,f];refine av (wpAny_setField ho hd (by simp) (cr ⟨x,rfl,cr (g _ ?_ (mx ..))⟩));exact⟨_,iS _ ho (Obj.isFreed_of_fields (Obj.data_mapFields hd _)),(Obj.cls_mapFields ..).trans hc,by rw[Obj.data_mapFields hd];simp[l8]⟩
theorem fu{it l:bd}{i:Nat}{items:Array aX}{Q:aX->a_->Prop}(g:A.handled=none)(b:s.heap.IsTupleIter it l i)(h:s.heap.IsTuple l items)(j:items[i]?=none)(k:∀h' e,Heap.ExtBut it s.heap h'->(∃o,h'.get? e=some o/\o.cls=.type "StopIteration")->E (.ref e) {s with heap:=h'}):cy (cS prog w) A (k5 (.ref it)) Q E s:=by
 obtain⟨o,ho,hc,hd⟩:=id b;obtain⟨n,c,_,p,f⟩:=h;unfold k5;refine av (fR (name:=iL "__next__") b.typeIs F.slot_tuple_iterator_next (gN F.slot_tuple_iterator_next b.typeIs F.entry_tuple_iterator_next ?_ (F.args_tuple_iterator_next_1 _)));show cy _ _ (oB (.ref it) 0>>=_) _ _ s;refine av (fm ho hd (x:=.ref l) rfl ?_);show cy _ _ (if(dY l==eL)=true then _ else _) _ _ s;rw[if_neg (show ¬((dY l==eL)=true)from dQ)];show cy _ _ (oB (.ref it) 1>>=_) _ _ s;refine av (fm ho hd (x:=.int i 0) rfl ?_);show cy _ _ (seqItems? (.ref l)>>=_) _ _ s;refine av (gL c f ?_);simp only[lB,j];refine av (kb (av (wpAny_setField ho hd (by simp) ?_)));show cy _ _ (newExc (.type "StopIteration") []>>=_) _ _ _;refine av ?_;simp only[newExc,newTuple];refine av (ew ?_ (by size_fits));refine av (m:=firstArgMember _ _) (wpAny_of_eq (a:=eL) (by first|rfl|(simp only[firstArgMember];rfl)) ?_);refine ew ?_ (by size_fits);simp only[raiseNew];refine av (wpAny_handled ?_);first|rw[show A.in1.handled=none from g]|rw[g]
 refine av (cr (wpAny_throw ?_));exact k _ _ (((mx ..).extBut.push _).push _) ⟨_,cw _ rfl,rfl⟩
end
theorem jy(l:bd)(items:Array aX)(n:Nat)(b:Option bd)(sl:Array (Option aX)):mw (im.«enumerate.__new__» ⟨[.type "enumerate",.ref l],[]⟩) (λ_ R s=>s.heap.get? l=some {cls:=.type "tuple",dict:=b,data:=.seq items n,slots:=sl}/\R (.ok (.ret (.ref (s.heap.push {cls:=.type "tuple_iterator",data:=.fields #[.ref l,.int 0 0]}).objs.size))) {s with heap:=(s.heap.push {cls:=.type "tuple_iterator",data:=.fields #[.ref l,.int 0 0]}).push {cls:=.type "enumerate",data:=.fields #[.none,.bool false,.ref s.heap.objs.size,l8 0,.none,.none]}}):=.of_wp λprog w A R s h=>by
  obtain⟨i,g,d,j,os⟩:=s;obtain⟨a,h⟩:=h;have f:=sub_enumerate;have e:pV (g_ ⟨i,g,d,j,os⟩) l items:=⟨_,a,rfl,n,rfl⟩;wp_walk using fS a;refine wpAny_stack_any λst=>cr ?_;split
  . rename_i c _ _ _ _ _;cases(c==e_ "enumerate");.wp_walk using fS a,fi e;exact⟨_,rfl,h⟩
    .wp_walk using fS a,fi e;exact⟨_,rfl,h⟩
  .wp_walk using fS a,fi e;exact⟨_,rfl,h⟩
section
variable{prog:df}{w:ek}{A:ez}{E:aX->a_->Prop}{s:a_}
theorem jT{l:bd}{items:Array aX}{Q:aX->a_->Prop}(e:s.heap.IsTuple l items)(h:∀ h',IsEnum h' (s.heap.objs.size+1) s.heap.objs.size 0 .none->h'.IsTupleIter s.heap.objs.size l 0->h'.objs.size=s.heap.objs.size+2->(∀b o,s.heap.get? b=some o->h'.get? b=some o)->Q (.ref (s.heap.objs.size+1)) {s with heap:=h'}):cy (cS prog w) A (call (.type "enumerate") [.ref l]) Q E s:=by
 obtain⟨⟨c,a,dt,sl⟩,f,hc,n,hd⟩:=e;replace hc:c=.type "tuple":=hc;replace hd:dt=.seq items n:=hd;subst hc hd;refine jV F.called_enumerate (by decide) (F.typeCall_enumerate_1 _) (F.newCall_enumerate_1 _) (λobj=>F.args_object_init_2 obj _) F.entry_enumerate_new (jy l items n a sl) ⟨f,?_⟩;have hz:(s.heap.push {cls:=.type "tuple_iterator",data:=.fields #[.ref l,.int 0 0]}).objs.size=s.heap.objs.size+1:=ei ..;show _/\_;rw[hz];have he:IsEnum ((s.heap.push {cls:=.type "tuple_iterator",data:=.fields #[.ref l,.int 0 0]}).push {cls:=.type "enumerate",data:=.fields #[.none,.bool false,.ref s.heap.objs.size,l8 0,.none,.none]}) (s.heap.objs.size+1) s.heap.objs.size 0 .none:=by have:=cw (s.heap.push {cls:=.type "tuple_iterator",data:=.fields #[.ref l,.int 0 0]}) (o:={cls:=.type "enumerate",data:=.fields #[.none,.bool false,.ref s.heap.objs.size,l8 0,.none,.none]}) rfl;rw[hz]at this;exact this
 refine⟨⟨_,he,rfl⟩,h _ he ⟨_,dM (cw _ rfl),rfl,rfl⟩ (by rw[ei,hz]) λb o x=>dM (dM x)⟩
end
end PySem
end
section
namespace L2
open PySem PySem.Spec PyProof.Rows
variable{prog:df}{w:ek}{A:ez}
section
variable{X:Cx}{pins:List (bd×Obj)}{σ:L2.St}{H:Hp}{s:a_}
theorem Inv.zZ{ch:List bd}{h':eA}{o:HO}{t':Nat}(I:Inv X pins σ H s)(k:∀b u,b∉ch->s.heap.get? b=some u->h'.get? b=some u)(l:∀b∈ch,∃u,h'.get? b=some u)(g:∀b∈ch,nu X pins H b)(i:bJ X.prog X.w (upd H s.heap.objs.size o) h' s.heap.objs.size o):Inv X pins σ (upd H s.heap.objs.size o) {s with heap:=h',toks:=t'}:=by
 have fr:H s.heap.objs.size=none:=I.hok.fresh (dw);have j:∀b u,H b=some u->b∉ch:=λb u e a=>by rw[(g b a).1]at e;cases e
 have h:∀b u,H b=some u->upd H s.heap.objs.size o b=some u:=λb u e=>by
  have:b≠s.heap.objs.size:=by rintro rfl;rw[fr]at e;cases e
  rw[aC this];exact e
 refine I.call (g':=s.gens) (d':=s.drawn) (ch:=ch) ⟨λb u e n _ f=>k b u f e,λb u e n _ f=>⟨u.slots,k b u f e⟩,λb u e n f=>?_,λb u e f=>⟨u,k b u f e⟩,λb xs e=>h b _ e,λb m u e=>h b _ e,λb ps e=>⟨#[],by rw[h b _ e];simp⟩⟩ ?_ I.bare λb a=>⟨(g b a).2.2.2.1,(g b a).2.1,(g b a).2.2.2.2.1,(g b a).2.2.2.2.2⟩;.have:b≠s.heap.objs.size:=dS (dl e);rw[aC this];exact n
 . intro b u e;by_cases a:b=s.heap.objs.size;.subst a;rw[aP]at e;cases e;exact i
   . rw[aC a]at e;refine(I.hok b u e).stay (λc v hc q=>k c v ?_ q) (λc q=>h c _ q) λc xs q=>h c _ q;rcases hc with rfl|hc;.exact j _ _ e
     .exact j _ _ hc
end
noncomputable def yM(K:PySem.W.Frag)(a:bd):It:=⟨λi H=>∃xs x,eO K H a xs/\xs[i]?=some x,λi H x b=>∃T v,H T=none/\x=.ref T/\b=upd H T (.tup [.int (i:Int),v])/\∀xs,eO K H a xs->xs[i]?=some v,λi H=>∃xs,eO K H a xs/\xs.length<=i⟩
theorem Uc(f:A.handled=none)(it l:bd)(c:l≠it)(items:Array aX):Draws prog w A it [it,l] items.size (λi v=>items[i]?=some v) (λi h=>h.IsListIter it l i/\h.IsList l items)where
 live:=λ_ _ st=>let⟨o,ho,_⟩:=st.1;⟨o,ho⟩;frame:=λ_ _ _ st e=>⟨(let⟨o,ho,r⟩:=st.1;⟨o,e it (by simp) o ho,r⟩),(let⟨o,ho,r⟩:=st.2;⟨o,e l (by simp) o ho,r⟩)⟩;item:=λi s Q E hi st g=>by refine oT st.1 st.2 (x:=items[i]) (by simp[hi]) λh' a b=>?_;exact g _ h' s.toks (by simp[hi]) ⟨a,(let⟨o,ho,r⟩:=st.2;⟨o,b.extBut l o c ho,r⟩)⟩ b
 done:=λs Q E st j=>kT f st.1 st.2 (by simp) j
theorem Ed(b:A.handled=none)(it l:bd)(items:Array aX)(n:Nat)(c:items.size<=n):Draws prog w A it [it,l] n (λ_ _=>True) (λi h=>i=n/\h.IsListIter it l i/\h.IsList l items)where live:=λ_ _ st=>let⟨o,ho,_⟩:=st.2.1;⟨o,ho⟩;frame:=λ_ _ _ st a=>⟨st.1,(let⟨o,ho,r⟩:=st.2.1;⟨o,a it (by simp) o ho,r⟩),(let⟨o,ho,r⟩:=st.2.2;⟨o,a l (by simp) o ho,r⟩)⟩;item:=λi s Q E hi st f=>absurd st.1 (dS hi);done:=λs Q E st e=>kT b st.2.1 st.2.2 (by simp;exact c) e
theorem FZ{P:df}{K:PySem.W.Frag}{p:List dr}{x1}{tp:Pos}(a it e:bd)(m:e≠it):Turn P w K (.Tuple p x1 tp) (yM K a) [e,it] e (λi h=>(∃g,IsEnum h e it (i:Int) g)/\h.IsListIter it a i)where
 mem:=by simp
 obj:=λi h st b hb=>by
  obtain⟨⟨g,h1⟩,o,j,G,h4⟩:=st;rcases de.mp hb with rfl|hb;.exact⟨_,h1,λv z=>by cases z⟩
  . have:b=it:=by simpa using hb
    subst this;exact⟨o,j,λv z=>by rw[h4]at z;cases z⟩
 keep:=λi h h' st k=>by obtain⟨⟨g,h1⟩,o,j,G⟩:=st;exact⟨⟨g,k e (by simp) _ h1⟩,o,k it (by simp) _ j,G⟩
 item:=λX Z hw hK hc i t s σ H E I J st go=>by
  subst Z hw hK;obtain⟨⟨g,he⟩,l⟩:=st;obtain⟨xs,x,L,B⟩:=go;obtain⟨c,M,pl,hz⟩:=I.list L;have N:s.heap.IsList a c.toArray:=pl.isList;obtain⟨oa,O,n,_⟩:=id N;have ac:e≠a:=by rintro rfl;rw[he]at O;cases O;exact absurd (show e_ "enumerate"=e_ _ from n) (by decide)
  have ae:a≠it:=by rintro rfl;obtain⟨o,j,G,_⟩:=id l;rw[j]at O;cases O;rw[G]at n;exact absurd n (by decide)
  have af:i<c.toArray.size:=by rw[cx,<-M.length];exact(dJ B).1
  refine oz (Uc (show X.A.in1.handled=none from I.ok.hd hc) it a ae c.toArray) he ⟨l,N⟩ af m (by simp[m,ac]) λy h' tk U ag hst ht hsz kp=>?_;refine⟨_,rfl,nm ag λC Kq Y=>?_⟩;obtain⟨u,ah,ai⟩:=M.get B;have al:y=u:=by
   have U:c[i]?=some y:=by simpa using U
   rw[ah]at U;cases U;rfl
  subst al;have hT:∀b∈[e,it],b≠s.heap.objs.size:=λb hb=>by
   rcases de.mp hb with rfl|hb;.exact dS (dl he)
   . have:b=it:=by simpa using hb
     subst this;obtain⟨o,j,_⟩:=id l;exact dS (dl j)
  have am:s.heap.objs.size≠e:=(hT e (by simp)).symm;have Xr:∀b o,b∉[e,it]->s.heap.get? b=some o->C.get? b=some o:=λb o hb q=>by have h1:b≠e:=λz=>hb (by simp[z]);have j:b≠it:=λz=>hb (by simp[z]);exact Y.extBut b o h1 (kp b o h1 j q)
  have yw:C.get? s.heap.objs.size=some {cls:=.type "tuple",data:=.seq #[.int i tk,y]}:=Y.extBut _ _ am ht;refine⟨.ref s.heap.objs.size,upd H s.heap.objs.size (.tup [.int (i:Int),x]),?_,rfl,⟨_,x,I.fresh,rfl,rfl,λys ap=>?_⟩,⟨⟨_,Kq⟩,?_⟩,λb hb=>?_⟩
  . refine I.zZ (ch:=[e,it]) (t':=tk+1) Xr (λb hb=>?_) (λb hb=>(J b hb)) ⟨(by show 2<=sizeLine;decide),[.int i tk,y],.cons ⟨_,rfl⟩ (.cons ai .nil),⟨_,yw,rfl,_,rfl⟩⟩;rcases de.mp hb with rfl|hb;.exact⟨_,Kq⟩
    . have:b=it:=by simpa using hb
      subst this;obtain⟨o,j,_⟩:=id hst.1;exact⟨o,Y.extBut _ _ (gu m) j⟩
  .rw[I.m7 ap L];exact B
  .obtain⟨o,j,r⟩:=hst.1;exact⟨o,Y.extBut _ _ (gu m) j,r⟩
  .rw[aC (hT b hb)];exact(J b hb).1
 done:=λX Z hw hK hc i t s σ H E I J st stop=>by subst Z hw hK;obtain⟨⟨g,he⟩,l⟩:=st;obtain⟨xs,L,B⟩:=stop;obtain⟨c,M,pl,hz⟩:=I.list L;have N:s.heap.IsList a c.toArray:=pl.isList;refine oQ (Ed (show X.A.in1.handled=none from I.ok.hd hc) it a c.toArray i (by rw[cx,<-M.length];exact B)) he ⟨rfl,l,N⟩ λh' hs=>⟨rfl,?_⟩;have f:=J it (by simp);exact I.turned (t':=s.toks) (λb o hb q=>hs b o hb q) f.1 f.2.1 f.2.2.2.1 f.2.2.2.2.1 f.2.2.2.2.2
 self:=λA i s Q E st q=>mf st.1.choose_spec q
noncomputable def zb(K:PySem.W.Frag)(a:bd):It:=⟨λi H=>∃xs x,iM K H a xs/\xs[i]?=some x,λi H x b=>∃T v,H T=none/\x=.ref T/\b=upd H T (.tup [.int (i:Int),v])/\∀xs,iM K H a xs->xs[i]?=some v,λi H=>∃xs,iM K H a xs/\xs.length<=i⟩
theorem Q5(f:A.handled=none)(it l:bd)(c:l≠it)(items:Array aX):Draws prog w A it [it,l] items.size (λi v=>items[i]?=some v) (λi h=>h.IsTupleIter it l i/\h.IsTuple l items)where
 live:=λ_ _ st=>let⟨o,ho,_⟩:=st.1;⟨o,ho⟩;frame:=λ_ _ _ st e=>⟨(let⟨o,ho,r⟩:=st.1;⟨o,e it (by simp) o ho,r⟩),(let⟨o,ho,r⟩:=st.2;⟨o,e l (by simp) o ho,r⟩)⟩;item:=λi s Q E hi st g=>by refine gV st.1 st.2 (x:=items[i]) (by simp[hi]) λh' a b=>?_;exact g _ h' s.toks (by simp[hi]) ⟨a,(let⟨o,ho,r⟩:=st.2;⟨o,b.extBut l o c ho,r⟩)⟩ b
 done:=λs Q E st j=>fu f st.1 st.2 (by simp) j
theorem Eg(b:A.handled=none)(it l:bd)(items:Array aX)(n:Nat)(c:items.size<=n):Draws prog w A it [it,l] n (λ_ _=>True) (λi h=>i=n/\h.IsTupleIter it l i/\h.IsTuple l items)where live:=λ_ _ st=>let⟨o,ho,_⟩:=st.2.1;⟨o,ho⟩;frame:=λ_ _ _ st a=>⟨st.1,(let⟨o,ho,r⟩:=st.2.1;⟨o,a it (by simp) o ho,r⟩),(let⟨o,ho,r⟩:=st.2.2;⟨o,a l (by simp) o ho,r⟩)⟩;item:=λi s Q E hi st f=>absurd st.1 (dS hi);done:=λs Q E st e=>fu b st.2.1 st.2.2 (by simp;exact c) e
theorem El{P:df}{K:PySem.W.Frag}{p:List dr}{x1}{tp:Pos}(a it e:bd)(m:e≠it):Turn P w K (.Tuple p x1 tp) (zb K a) [e,it] e (λi h=>(∃g,IsEnum h e it (i:Int) g)/\h.IsTupleIter it a i)where
 mem:=by simp
 obj:=λi h st b hb=>by
  obtain⟨⟨g,h1⟩,o,j,G,h4⟩:=st;rcases de.mp hb with rfl|hb;.exact⟨_,h1,λv z=>by cases z⟩
  . have:b=it:=by simpa using hb
    subst this;exact⟨o,j,λv z=>by rw[h4]at z;cases z⟩
 keep:=λi h h' st k=>by obtain⟨⟨g,h1⟩,o,j,G⟩:=st;exact⟨⟨g,k e (by simp) _ h1⟩,o,k it (by simp) _ j,G⟩
 item:=λX Z hw hK hc i t s σ H E I J st go=>by
  subst Z hw hK;obtain⟨⟨g,he⟩,l⟩:=st;obtain⟨xs,x,L,B⟩:=go;obtain⟨c,M,pl,hz⟩:=I.tuple L;have N:s.heap.IsTuple a c.toArray:=pl;obtain⟨oa,O,n,_⟩:=id N;have ac:e≠a:=by rintro rfl;rw[he]at O;cases O;exact absurd (show e_ "enumerate"=e_ _ from n) (by decide)
  have ae:a≠it:=by rintro rfl;obtain⟨o,j,G,_⟩:=id l;rw[j]at O;cases O;rw[G]at n;exact absurd n (by decide)
  have af:i<c.toArray.size:=by rw[cx,<-M.length];exact(dJ B).1
  refine oz (Q5 (show X.A.in1.handled=none from I.ok.hd hc) it a ae c.toArray) he ⟨l,N⟩ af m (by simp[m,ac]) λy h' tk U ag hst ht hsz kp=>?_;refine⟨_,rfl,nm ag λC Kq Y=>?_⟩;obtain⟨u,ah,ai⟩:=M.get B;have al:y=u:=by
   have U:c[i]?=some y:=by simpa using U
   rw[ah]at U;cases U;rfl
  subst al;have hT:∀b∈[e,it],b≠s.heap.objs.size:=λb hb=>by
   rcases de.mp hb with rfl|hb;.exact dS (dl he)
   . have:b=it:=by simpa using hb
     subst this;obtain⟨o,j,_⟩:=id l;exact dS (dl j)
  have am:s.heap.objs.size≠e:=(hT e (by simp)).symm;have Xr:∀b o,b∉[e,it]->s.heap.get? b=some o->C.get? b=some o:=λb o hb q=>by have h1:b≠e:=λz=>hb (by simp[z]);have j:b≠it:=λz=>hb (by simp[z]);exact Y.extBut b o h1 (kp b o h1 j q)
  have yw:C.get? s.heap.objs.size=some {cls:=.type "tuple",data:=.seq #[.int i tk,y]}:=Y.extBut _ _ am ht;refine⟨.ref s.heap.objs.size,upd H s.heap.objs.size (.tup [.int (i:Int),x]),?_,rfl,⟨_,x,I.fresh,rfl,rfl,λys ap=>?_⟩,⟨⟨_,Kq⟩,?_⟩,λb hb=>?_⟩
  . refine I.zZ (ch:=[e,it]) (t':=tk+1) Xr (λb hb=>?_) (λb hb=>(J b hb)) ⟨(by show 2<=sizeLine;decide),[.int i tk,y],.cons ⟨_,rfl⟩ (.cons ai .nil),⟨_,yw,rfl,_,rfl⟩⟩;rcases de.mp hb with rfl|hb;.exact⟨_,Kq⟩
    . have:b=it:=by simpa using hb
      subst this;obtain⟨o,j,_⟩:=id hst.1;exact⟨o,Y.extBut _ _ (gu m) j⟩
  .rw[I.j5 ap L];exact B
  .obtain⟨o,j,r⟩:=hst.1;exact⟨o,Y.extBut _ _ (gu m) j,r⟩
  .rw[aC (hT b hb)];exact(J b hb).1
 done:=λX Z hw hK hc i t s σ H E I J st stop=>by subst Z hw hK;obtain⟨⟨g,he⟩,l⟩:=st;obtain⟨xs,L,B⟩:=stop;obtain⟨c,M,pl,hz⟩:=I.tuple L;have N:s.heap.IsTuple a c.toArray:=pl;refine oQ (Eg (show X.A.in1.handled=none from I.ok.hd hc) it a c.toArray i (by rw[cx,<-M.length];exact B)) he ⟨rfl,l,N⟩ λh' hs=>⟨rfl,?_⟩;have f:=J it (by simp);exact I.turned (t':=s.toks) (λb o hb q=>hs b o hb q) f.1 f.2.1 f.2.2.2.1 f.2.2.2.2.1 f.2.2.2.2.2
 self:=λA i s Q E st q=>mf st.1.choose_spec q
section
variable{X:Cx}{elts:List dr}{x1:Nat}{tp:Pos}
noncomputable def afj(K:PySem.W.Frag)(c:TE):TI:=λσ H R=>c σ H λx b=>∃a,x=.ref a/\(((∃xs,eO K b a xs)/\R (yM K a) b)\/((∃xs,iM K b a xs)/\R (zb K a) b))
theorem boot_enumerate:ey "enumerate"=some (.type "enumerate"):=by decide+kernel
theorem S7{a:dr}{t:TE}{p pos:Pos}(v:Gl X "enumerate")(y:X.mg "enumerate"=none)(z:PE X a t)(hs:cv [a] X.env=[(false,eu a X.env)]:=by rfl):PI X (.Tuple elts x1 tp) (.Call (.Name "enumerate" p) [a] [] pos) (afj X.K t):=by
 intro e s σ H R I h;refine Call_ (iT I v y boot_enumerate (eH (bY ((bF z dD hs) pos e s σ H (λvs c=>match vs with|[x]=>∃a,x=.ref a/\(((∃xs,eO X.K c a xs)/\R (yM X.K a) c)\/((∃xs,iM X.K c a xs)/\R (zb X.K a) c))|_=>False) I h) ?_) hs rfl));rintro E s1⟨vs,c,f,r1,j⟩
 . obtain⟨ad,q,k⟩:∃ad,(((∃xs,eO X.K c ad xs)/\R (yM X.K ad) c)\/((∃xs,iM X.K c ad xs)/\R (zb X.K ad) c))/\vs=[.ref ad]:=by cases vs with|nil=>cases j|cons x r=>cases r with|nil=>obtain⟨ad,rfl,q⟩:=j;exact⟨ad,q,rfl⟩|cons _ _=>cases j
   subst k;obtain⟨u,rfl,B⟩:=r1.one;cases B;have fin:∀(h':eA)(i:Nat->eA->Prop)(J:It),Turn X.prog X.w X.K (.Tuple elts x1 tp) J [s1.heap.objs.size+1,s1.heap.objs.size] (s1.heap.objs.size+1) i->i 0 h'->IsEnum h' (s1.heap.objs.size+1) s1.heap.objs.size 0 .none->(∀b o,s1.heap.get? b=some o->h'.get? b=some o)->R J c->cy (cS X.prog X.w) X.A (pf (.ref (s1.heap.objs.size+1))) (PIE X e σ (.Tuple elts x1 tp) R) X.xe {s1 with heap:=h'}:=λh' i J T t0 he kp q=>by
    refine mf he ⟨_,_,i,J,c,rfl,f.kept (t':=s1.toks) kp,T,t0,λb hb=>?_,q⟩;have g:s1.heap.objs.size<=b:=by
     rcases de.mp hb with rfl|hb;.exact le_succ _
     . have:b=s1.heap.objs.size:=by simpa using hb
       rw[this];exact dw
    exact f.zQ g (f.hok.fresh g)
   rcases q with⟨⟨xs,l⟩,q⟩|⟨⟨xs,l⟩,q⟩;.obtain⟨m,C,n,hz⟩:=f.list l;exact call_enumerate_list n.isList λh' he hi hsz kp=>fin h' _ _ (FZ ad s1.heap.objs.size (s1.heap.objs.size+1) (Nat.succ_ne_self _)) ⟨⟨_,he⟩,hi⟩ he kp q
   .obtain⟨m,C,n,hz⟩:=f.tuple l;exact jT n λh' he hi hsz kp=>fin h' _ _ (El ad s1.heap.objs.size (s1.heap.objs.size+1) (Nat.succ_ne_self _)) ⟨⟨_,he⟩,hi⟩ he kp q
end
end L2
namespace HH
open PySem L2 PySem.Spec PyProof.Rows
section
variable{K:PySem.W.Frag}{F F1 H H1:Hp}{ρ ρ1:List Sl}{σ:L2.St}{ds:List D}{a:bd}
theorem qp{c e:Hp}{T:bd}{v w:V}{d1 d2:D}(sm:aG c e)(g:e T=none)(r1:Rep K c v d1)(h:Rep K c w d2):∃b,Ext c e b (upd e T (.tup [v,w]))/\Rep K b (.ref T) (.tup [d1,d2]):=zu (Q:=λv f=>∃b,Ext c e b f/\Rep K b v (.tup [d1,d2])) sm (.cons r1 (.cons h .nil)) g λv b f x i=>⟨b,x,i⟩
theorem Hv{xs:List V}{e b:Hp}(f:eO K b a xs)(r:aH K e xs ds)(s:aG e b)(k:Nat):(∀d,(ds.mapIdx λi d=>D.tup [.int (i:Int),d])[k]?=some d->(yM K a).go k b/\∀x g,(yM K a).Kd k b x g->∃c,Ext e b c g/\Rep K c x d)/\((ds.mapIdx λi d=>D.tup [.int (i:Int),d]).length<=k->(yM K a).stop k b):=by refine⟨λd hd=>?_,λh=>⟨xs,f,by rw[r.length];simpa using h⟩⟩;rw[ol]at hd;obtain⟨d0,j,l⟩:=map_some hd;subst l;obtain⟨w,h1,m⟩:=r.get j;refine⟨⟨xs,w,f,h1⟩,?_⟩;rintro x g⟨T,v,n,o,p,y⟩;subst o;subst p;have:=y xs f;rw[h1]at this;cases this;exact qp s n (bO _) m
theorem HW{xs:List V}{e b:Hp}(f:iM K b a xs)(r:aH K e xs ds)(s:aG e b)(k:Nat):(∀d,(ds.mapIdx λi d=>D.tup [.int (i:Int),d])[k]?=some d->(zb K a).go k b/\∀x g,(zb K a).Kd k b x g->∃c,Ext e b c g/\Rep K c x d)/\((ds.mapIdx λi d=>D.tup [.int (i:Int),d]).length<=k->(zb K a).stop k b):=by refine⟨λd hd=>?_,λh=>⟨xs,f,by rw[r.length];simpa using h⟩⟩;rw[ol]at hd;obtain⟨d0,j,l⟩:=map_some hd;subst l;obtain⟨w,h1,m⟩:=r.get j;refine⟨⟨xs,w,f,h1⟩,?_⟩;rintro x g⟨T,v,n,o,p,y⟩;subst o;subst p;have:=y xs f;rw[h1]at this;cases this;exact qp s n (bO _) m
end
section
variable{X:Cx}{c:Call}{e a:dr}{pa:P}{pos:Pos}{elts:List dr}{x1:Nat}{tp:Pos}
theorem Vq{x:Str}{A:Pos}(B:x="enumerate")(C:Gl X x)(E:X.mg x=none)(G:SX X c a pa)(hs:cv [a] X.env=[(false,eu a X.env)]:=by rfl):SI X c (.Tuple elts x1 tp) (.Call (.Name x A) [a] [] pos) (.enm pa):=by subst B;refine lu (S7 C E G.ev hs) ?_;rintro σ H R⟨F,ρ,U,I,g,e,k⟩;obtain⟨r,J,w,j⟩:=aj e;have m:=aD j;clear j;obtain⟨j,L⟩:=m;subst L;rw[HH.E22]at w;obtain⟨r0,h,M,l⟩:=aj w;have m:=aD l;clear l;obtain⟨l,N⟩:=m;subst N;obtain⟨es,f1,f2⟩:=map_some l;subst f2;cases j;refine⟨F,ρ,r0,_,g,M,λv y z s i=>?_⟩;obtain⟨W,s2,_,f⟩:=s.dz i;cases hd:r0.d with|tup o=>rw[hd]at f1 f;cases f1;rw[Rep]at f;obtain⟨ad,xs,rfl,h1,p⟩:=f;exact⟨ad,rfl,.inr ⟨⟨xs,aG.gD s2.gs.sub h1⟩,k _ _ _ ⟨s2.gs,λn k y q t z b=>HW (aG.gD b.gs.sub (aG.gD b.bQ h1)) (p.mono b.bQ) b.gs.sub k,λO h u Q s3=>⟨s2.trans s3,λv r i=>i.later s2⟩⟩⟩⟩|lst o=>rw[hd]at f1 f;cases f1;rw[Rep]at f;obtain⟨ad,xs,rfl,h1,p⟩:=f;exact⟨ad,rfl,.inl ⟨⟨xs,s2.gs.sub.seq h1⟩,k _ _ _ ⟨s2.gs,λn k y q t z b=>Hv (b.gs.sub.seq (b.bQ.seq h1)) (p.mono b.bQ) b.gs.sub k,λO h u Q s3=>⟨s2.trans s3,λv r i=>i.later s2⟩⟩⟩⟩|_=>rw[hd]at f1;cases f1
end
end HH
end
section
namespace PySem
structure Nx(prog:df)(w:ek)(A:ez)(it src:bd)(Sx:Nat->eA->Prop)(get:Nat->Option aX):Prop where
 obj:∀k h,Sx k h->∃o,h.get? it=some o/\∀v,o.data≠.cell v
 keep:∀k h h',Sx k h->(∀o,h.get? it=some o->h'.get? it=some o)->(∀o,h.get? src=some o->h'.get? src=some o)->Sx k h'
 item:∀k(s:a_)(Q:aX->a_->Prop)(E:aX->a_->Prop)x,Sx k s.heap->get k=some x->(∀h',Sx (k+1) h'->pS it s.heap h'->Q x {s with heap:=h'})->cy (cS prog w) A (k5 (.ref it)) Q E s
 fin:∀k(s:a_)(Q:aX->a_->Prop)(E:aX->a_->Prop),Sx k s.heap->get k=none->(∀h' e,Heap.ExtBut it s.heap h'->(∃o,h'.get? e=some o/\o.cls=.type "StopIteration")->E (.ref e) {s with heap:=h'})->cy (cS prog w) A (k5 (.ref it)) Q E s
variable{Q:aX->a_->Prop}{l2:bd}{xs ys:Array aX}
section
variable{prog:df}{w:ek}{A:ez}{E:aX->a_->Prop}{s:a_}
theorem Nx.list(g:A.handled=none)(it l:bd)(c:l≠it)(items:Array aX):Nx prog w A it l (λk h=>h.IsListIter it l k/\h.IsList l items) (λk=>items[k]?)where obj:=λk h st=>let⟨o,h1,_,h3⟩:=st.1;⟨o,h1,λv z=>by rw[h3]at z;cases z⟩;keep:=λk h h' st a b=>⟨(let⟨o,ho,r⟩:=st.1;⟨o,a o ho,r⟩),(let⟨o,ho,r⟩:=st.2;⟨o,b o ho,r⟩)⟩;item:=λk s Q E x st e i=>oT st.1 st.2 e λh' f hs=>i h' ⟨f,(let⟨o,ho,r⟩:=st.2;⟨o,hs.extBut l o c ho,r⟩)⟩ hs;fin:=λk s Q E st e j=>kT g st.1 st.2 e j
theorem Nx.tuple(g:A.handled=none)(it l:bd)(c:l≠it)(items:Array aX):Nx prog w A it l (λk h=>h.IsTupleIter it l k/\h.IsTuple l items) (λk=>items[k]?)where obj:=λk h st=>let⟨o,h1,_,h3⟩:=st.1;⟨o,h1,λv z=>by rw[h3]at z;cases z⟩;keep:=λk h h' st a b=>⟨(let⟨o,ho,r⟩:=st.1;⟨o,a o ho,r⟩),(let⟨o,ho,r⟩:=st.2;⟨o,b o ho,r⟩)⟩;item:=λk s Q E x st e i=>gV st.1 st.2 e λh' f hs=>i h' ⟨f,(let⟨o,ho,r⟩:=st.2;⟨o,hs.extBut l o c ho,r⟩)⟩ hs;fin:=λk s Q E st e j=>fu g st.1 st.2 e j
variable{z TI TO i1 i2 l1 l2:bd}{k:Nat}{S1 S2:Nat->eA->Prop}{g1 g2:Nat->Option aX}{a b:aX}
theorem Ew{x y:aX}(D:lf z TI TO i1 i2 l1 l2)(t:Nx prog w A i1 l1 S1 g1)(u:Nx prog w A i2 l2 S2 g2)(hz:i5 s.heap z TI TO .none)(G:ft s.heap TI (.ref i1) (.ref i2))(H:ft s.heap TO a b)(h1:S1 k s.heap)(W:S2 k s.heap)(X:g1 k=some x)(Y:g2 k=some y)(Z:∀ h',i5 h' z TI TO (l8 s.heap.objs.size)->ft h' TO x y->S1 (k+1) h'->S2 (k+1) h'->ft h' s.heap.objs.size x y->h'.objs.size=s.heap.objs.size+1->(∀c o,c≠z->c≠TO->c≠i1->c≠i2->s.heap.get? c=some o->h'.get? c=some o)->Q (.ref s.heap.objs.size) {s with heap:=h'}):cy (cS prog w) A (im.«zip.__next__» ⟨[.ref z],[]⟩) (λfin s'=>∃v,fin=.done (.ret v)/\Q v s') E s:=by
 show cy _ _ (oB (.ref z) 2>>=_) _ _ _;refine av (fm hz rfl (x:=.bool false) rfl ?_);show cy _ _ (oB (.ref z) 3>>=_) _ _ _;refine av (fm hz rfl (x:=.ref TI) rfl (av (gL G rfl ?_)));show cy _ _ (kB (.ref z)>>=_) _ _ _;refine av ?_;unfold kB;refine av (fm hz rfl (x:=.none) rfl (cr ?_));simp only[if_true];refine av (kb (av (fm hz rfl (x:=.ref TO) rfl (av (gX hz (by simp) λt1 I g=>?_)))));have I:i5 t1 z TI TO .ellipsis:=I;refine av ?_;simp only[List.zipIdx_cons,List.zipIdx_nil,forIn_cons,forIn_nil];refine av (av (lS ?_));show cy _ _ (k5 (.ref i1)>>=_) _ _ _;have q1:S1 k t1:=t.keep _ _ _ h1 (λo e=>g.extBut _ _ D.i1z e) λo e=>g.extBut _ _ D.l1z e;refine av (t.item k _ _ _ x q1 X λt2 q2 m=>cr ?_);have p2:ft t2 TO a b:=m.extBut _ _ D.TOi1 (g.extBut _ _ D.TOz H);refine av (gL p2 rfl (av (k4 p2 λL p3 h=>?_)));have p3:ft L TO x b:=p3;refine av (p_ (cr (av (av (lS ?_)))));show cy _ _ (k5 (.ref i2)>>=_) _ _ _;have w3:S2 k L:=u.keep _ _ _ W (λo e=>h.extBut _ _ D.TOi2.symm (m.extBut _ _ D.i12.symm (g.extBut _ _ D.i2z e))) λo e=>h.extBut _ _ D.l2TO (m.extBut _ _ D.l2i1 (g.extBut _ _ D.l2z e));refine av (u.item k _ _ _ y w3 Y λt4 w4 n=>cr ?_);have M:ft t4 TO x b:=n.extBut _ _ D.TOi2 p3;refine av (gL M rfl (av (k4 M λf B i=>?_)));have B:ft f TO x y:=B;refine av (p_ (cr (cr (av (gL B rfl (av (wpAny_newTuple ?_)))))));have hsz:f.objs.size=s.heap.objs.size:=by rw[i.1,n.1,h.1,m.1,g.1]
 have N:i5 f z TI TO .ellipsis:=i.extBut _ _ D.TOz.symm (n.extBut _ _ D.i2z.symm (h.extBut _ _ D.TOz.symm (m.extBut _ _ D.i1z.symm I)));have kp:∀c o,c≠z->c≠TO->c≠i1->c≠i2->s.heap.get? c=some o->f.get? c=some o:=λc o c1 c2 c3 c4 e=>i.extBut _ _ c2 (n.extBut _ _ c4 (h.extBut _ _ c2 (m.extBut _ _ c3 (g.extBut _ _ c1 e))));have q5:S1 (k+1) f:=t.keep _ _ _ q2 (λo e=>i.extBut _ _ D.TOi1.symm (n.extBut _ _ D.i12 (h.extBut _ _ D.TOi1.symm e))) λo e=>i.extBut _ _ D.l1TO (n.extBut _ _ D.l1i2 (h.extBut _ _ D.l1TO e));have w5:S2 (k+1) f:=u.keep _ _ _ w4 (λo e=>i.extBut _ _ D.TOi2.symm e) λo e=>i.extBut _ _ D.l2TO e;have q:z<f.objs.size:=dl N;show cy _ _ (ownedTupleHandOut (.ref z) (.ref f.objs.size)>>=_) _ _ _;refine av ?_;unfold ownedTupleHandOut;have z6:i5 (f.push {cls:=.type "tuple",data:=.seq #[x,y]}) z TI TO .ellipsis:=dM N;refine av (gX z6 (by simp) λt7 J j=>?_);have J:i5 t7 z TI TO (l8 f.objs.size):=J;refine gX J (by simp) λr C l=>?_;have C:i5 r z TI TO (l8 f.objs.size):=C;have p:∀c o,c≠z->f.get? c=some o->r.get? c=some o:=λc o c1 e=>l.extBut _ _ c1 (j.extBut _ _ c1 (dM e));have O:ft r f.objs.size x y:=l.extBut _ _ (qf q) (j.extBut _ _ (qf q) (cw _ rfl));have U:r.objs.size=f.objs.size+1:=by rw[l.1,j.1,ei]
 rw[hsz]at C O U;refine cr ⟨_,rfl,?_⟩;show Q (.ref f.objs.size) _;rw[hsz];exact Z r C (p _ _ D.TOz B) (t.keep _ _ _ q5 (λo e=>p _ o D.i1z e) λo e=>p _ o D.l1z e) (u.keep _ _ _ w5 (λo e=>p _ o D.i2z e) λo e=>p _ o D.l2z e) O U λc o c1 c2 c3 c4 e=>p c o c1 (kp c o c1 c2 c3 c4 e)
theorem JZ{Q:Fin->a_->Prop}(D:lf z TI TO i1 i2 l1 l2)(q:Nx prog w A i1 l1 S1 g1)(y:Nx prog w A i2 l2 S2 g2)(hz:i5 s.heap z TI TO .none)(r:ft s.heap TI (.ref i1) (.ref i2))(t:ft s.heap TO a b)(h1:S1 k s.heap)(L:S2 k s.heap)(n:g1 k=none\/g2 k=none)(B:∀h' e,(∀c o,c≠z->c≠TO->c≠i1->c≠i2->s.heap.get? c=some o->h'.get? c=some o)->(∃o,h'.get? e=some o/\o.cls=.type "StopIteration")->E (.ref e) {s with heap:=h'}):cy (cS prog w) A (im.«zip.__next__» ⟨[.ref z],[]⟩) Q E s:=by
 show cy _ _ (oB (.ref z) 2>>=_) _ _ _;refine av (fm hz rfl (x:=.bool false) rfl ?_);show cy _ _ (oB (.ref z) 3>>=_) _ _ _;refine av (fm hz rfl (x:=.ref TI) rfl (av (gL r rfl ?_)));show cy _ _ (kB (.ref z)>>=_) _ _ _;refine av ?_;unfold kB;refine av (fm hz rfl (x:=.none) rfl (cr ?_));simp only[if_true];refine av (kb (av (fm hz rfl (x:=.ref TO) rfl (av (gX hz (by simp) λt1 p j=>?_)))));have p:i5 t1 z TI TO .ellipsis:=p;refine av ?_;simp only[List.zipIdx_cons,List.zipIdx_nil,forIn_cons,forIn_nil];refine av (av (lS ?_));show cy _ _ (k5 (.ref i1)>>=_) _ _ _
 have C:S1 k t1:=q.keep _ _ _ h1 (λo e=>j.extBut _ _ D.i1z e) λo e=>j.extBut _ _ D.l1z e;cases hx:g1 k with|none=>
   refine av (q.fin k _ _ _ C hx λt2 e i he=>?_);obtain⟨u,f,g⟩:=he;have G:i5 t2 z TI TO .ellipsis:=i _ _ D.i1z.symm p;have l:e≠z:=λx=>by subst x;rw[G]at f;cases f;simp at g
   exact gX G (by simp) λv _ m=>B v e (λc o c1 _ c3 _ x=>m.extBut _ _ c1 (i _ _ c3 (j.extBut _ _ c1 x))) ⟨u,m.extBut _ _ l f,g⟩|some x=>
   have M:g2 k=none:=by rcases n with h|h;rw[hx]at h;cases h;exact h
   refine av (q.item k _ _ _ x C hx λt2 W i=>cr ?_);have p2:ft t2 TO a b:=i.extBut _ _ D.TOi1 (j.extBut _ _ D.TOz t);refine av (gL p2 rfl (av (k4 p2 λv p3 m=>?_)));refine av (p_ (cr (av (av (lS ?_)))));show cy _ _ (k5 (.ref i2)>>=_) _ _ _;have N:S2 k v:=y.keep _ _ _ L (λo e=>m.extBut _ _ D.TOi2.symm (i.extBut _ _ D.i12.symm (j.extBut _ _ D.i2z e))) λo e=>m.extBut _ _ D.l2TO (i.extBut _ _ D.l2i1 (j.extBut _ _ D.l2z e));refine av (y.fin k _ _ _ N M λO e H he=>?_);obtain⟨u,f,g⟩:=he;have I:i5 O z TI TO .ellipsis:=H _ _ D.i2z.symm (m.extBut _ _ D.TOz.symm (i.extBut _ _ D.i1z.symm p));have l:e≠z:=λx=>by subst x;rw[I]at f;cases f;simp at g
   exact gX I (by simp) λU _ J=>B U e (λc o c1 c2 c3 c4 x=>J.extBut _ _ c1 (H _ _ c4 (m.extBut _ _ c2 (i.extBut _ _ c3 (j.extBut _ _ c1 x))))) ⟨u,J.extBut _ _ l f,g⟩
theorem nF{x y:aX}{Q:Option aX->a_->Prop}(D:lf z TI TO i1 i2 l1 l2)(h:Nx prog w A.in1 i1 l1 S1 g1)(i:Nx prog w A.in1 i2 l2 S2 g2)(hz:i5 s.heap z TI TO .none)(e:ft s.heap TI (.ref i1) (.ref i2))(f:ft s.heap TO a b)(h1:S1 k s.heap)(j:S2 k s.heap)(l:g1 k=some x)(m:g2 k=some y)(n:∀ h',i5 h' z TI TO (l8 s.heap.objs.size)->ft h' TO x y->S1 (k+1) h'->S2 (k+1) h'->ft h' s.heap.objs.size x y->h'.objs.size=s.heap.objs.size+1->(∀c o,c≠z->c≠TO->c≠i1->c≠i2->s.heap.get? c=some o->h'.get? c=some o)->Q (some (.ref s.heap.objs.size)) {s with heap:=h'}):cy (cS prog w) A (ny (.ref z)) Q E s:=by have g:s.TypeIs (.ref z) "zip":=⟨_,hz,rfl⟩;unfold ny;exact av (oo (fR (name:=iL "__next__") g F.slot_zip_next (gN F.slot_zip_next g F.entry_zip_next (Ew D h i hz e f h1 j l m λh' p q r t u v B=>cr (n h' p q r t u v B)) (F.args_zip_next_1 _))))
theorem pD{Q:Option aX->a_->Prop}(D:lf z TI TO i1 i2 l1 l2)(j:Nx prog w A.in1 i1 l1 S1 g1)(l:Nx prog w A.in1 i2 l2 S2 g2)(hz:i5 s.heap z TI TO .none)(g:ft s.heap TI (.ref i1) (.ref i2))(h:ft s.heap TO a b)(h1:S1 k s.heap)(m:S2 k s.heap)(f:g1 k=none\/g2 k=none)(n:∀h',(∀c o,c≠z->c≠TO->c≠i1->c≠i2->s.heap.get? c=some o->h'.get? c=some o)->Q none {s with heap:=h'}):cy (cS prog w) A (ny (.ref z)) Q E s:=by have i:s.TypeIs (.ref z) "zip":=⟨_,hz,rfl⟩;unfold ny;refine av (oo (fR (name:=iL "__next__") i F.slot_zip_next (gN F.slot_zip_next i F.entry_zip_next (JZ D j l hz g h h1 m f λh' e p he=>?_) (F.args_zip_next_1 _))));obtain⟨o,ho,hc⟩:=he;exact av (wpAny_isInstance (T:="StopIteration") (b:=true) ⟨o,ho,hc⟩ isSubtype_stop (cr (n _ p)))
end
theorem o7(l1 l2:bd)(xs ys:Array aX):mw (im.«zip.__new__» ⟨[.type "zip",.ref l1,.ref l2],[]⟩) (λ_ R s=>s.heap.IsList l1 xs/\s.heap.IsList l2 ys/\R (.ok (.ret (.ref (s.heap.objs.size+4)))) {s with heap:=((((s.heap.push {cls:=.type "list_iterator",data:=.fields #[.ref l1,.int 0 0]}).push {cls:=.type "list_iterator",data:=.fields #[.ref l2,.int 0 0]}).push {cls:=.type "tuple",data:=.seq #[.ref s.heap.objs.size,.ref (s.heap.objs.size+1)]}).push {cls:=.type "tuple",data:=.seq #[.none,.none]}).push {cls:=.type "zip",data:=.fields #[.none,.bool false,.bool false,.ref (s.heap.objs.size+2),.ref (s.heap.objs.size+3)]}}):=.of_wp λprog w A R s h=>by obtain⟨f,g,d,i,os⟩:=s;obtain⟨a,b,h⟩:=h;have j:=sub_zip;have c:IsList (g_ ⟨f,g,d,i,os⟩) l1 xs:=a;have e:IsList (g_ ⟨f.push {cls:=.type "list_iterator",data:=.fields #[.ref l1,.int 0 0]},g,d,i,os⟩) l2 ys:=Heap.IsList.push b _;wp_walk using gy c,gy e;simp only[ei]at*;exact⟨_,rfl,h⟩
section
variable{prog:df}{w:ek}{A:ez}{E:aX->a_->Prop}{s:a_}
theorem Ak{l1:bd}(i:s.heap.IsList l1 xs)(j:s.heap.IsList l2 ys)(h:∀ h',i5 h' (s.heap.objs.size+4) (s.heap.objs.size+2) (s.heap.objs.size+3) .none->ft h' (s.heap.objs.size+2) (.ref s.heap.objs.size) (.ref (s.heap.objs.size+1))->ft h' (s.heap.objs.size+3) .none .none->h'.IsListIter s.heap.objs.size l1 0->h'.IsListIter (s.heap.objs.size+1) l2 0->(∀c o,s.heap.get? c=some o->h'.get? c=some o)->Q (.ref (s.heap.objs.size+4)) {s with heap:=h'}):cy (cS prog w) A (call (.type "zip") [.ref l1,.ref l2]) Q E s:=by
 refine jV F.called_zip (by decide) (F.typeCall_zip_2 _ _) (F.newCall_zip_2 _ _) (λobj=>F.args_object_init_3 obj _ _) F.entry_zip_new (o7 l1 l2 xs ys) ⟨i,j,?_⟩;generalize k:s.heap.push {cls:=.type "list_iterator",data:=.fields #[.ref l1,.int 0 0]}=t1;have r:t1.objs.size=s.heap.objs.size+1:=by rw[<-k,ei]
 have z:t1.get? s.heap.objs.size=some {cls:=.type "list_iterator",data:=.fields #[.ref l1,.int 0 0]}:=by rw[<-k];exact cw _ rfl
 have B:∀c o,s.heap.get? c=some o->t1.get? c=some o:=λc o e=>by rw[<-k];exact dM e
 generalize l:t1.push {cls:=.type "list_iterator",data:=.fields #[.ref l2,.int 0 0]}=t2;have t:t2.objs.size=s.heap.objs.size+2:=by rw[<-l,ei,r]
 have C:t2.get? (s.heap.objs.size+1)=some {cls:=.type "list_iterator",data:=.fields #[.ref l2,.int 0 0]}:=by rw[<-r,<-l];exact cw _ rfl
 have u:∀c o,t1.get? c=some o->t2.get? c=some o:=λc o e=>by rw[<-l];exact dM e
 generalize m:t2.push {cls:=.type "tuple",data:=.seq #[.ref s.heap.objs.size,.ref (s.heap.objs.size+1)]}=a;have v:a.objs.size=s.heap.objs.size+3:=by rw[<-m,ei,t]
 have G:a.get? (s.heap.objs.size+2)=some {cls:=.type "tuple",data:=.seq #[.ref s.heap.objs.size,.ref (s.heap.objs.size+1)]}:=by rw[<-t,<-m];exact cw _ rfl
 have n:∀c o,t2.get? c=some o->a.get? c=some o:=λc o e=>by rw[<-m];exact dM e
 generalize p:a.push {cls:=.type "tuple",data:=.seq #[.none,.none]}=b;have H:b.objs.size=s.heap.objs.size+4:=by rw[<-p,ei,v]
 have I:b.get? (s.heap.objs.size+3)=some {cls:=.type "tuple",data:=.seq #[.none,.none]}:=by rw[<-v,<-p];exact cw _ rfl
 have g:∀c o,a.get? c=some o->b.get? c=some o:=λc o e=>by rw[<-p];exact dM e
 generalize x:b.push {cls:=.type "zip",data:=.fields #[.none,.bool false,.bool false,.ref (s.heap.objs.size+2),.ref (s.heap.objs.size+3)]}=q;have y:q.get? (s.heap.objs.size+4)=some {cls:=.type "zip",data:=.fields #[.none,.bool false,.bool false,.ref (s.heap.objs.size+2),.ref (s.heap.objs.size+3)]}:=by rw[<-H,<-x];exact cw _ rfl
 have f:∀c o,b.get? c=some o->q.get? c=some o:=λc o e=>by rw[<-x];exact dM e
 exact⟨⟨_,y,rfl⟩,h q y (f _ _ (g _ _ G)) (f _ _ I) ⟨_,f _ _ (g _ _ (n _ _ (u _ _ z))),rfl,rfl⟩ ⟨_,f _ _ (g _ _ (n _ _ C)),rfl,rfl⟩ λc o e=>f _ _ (g _ _ (n _ _ (u _ _ (B _ _ e))))⟩
end
theorem o8(l1 l2:bd)(xs ys:Array aX):mw (im.«zip.__new__» ⟨[.type "zip",.ref l1,.ref l2],[]⟩) (λ_ R s=>s.heap.IsList l1 xs/\s.heap.IsTuple l2 ys/\R (.ok (.ret (.ref (s.heap.objs.size+4)))) {s with heap:=((((s.heap.push {cls:=.type "list_iterator",data:=.fields #[.ref l1,.int 0 0]}).push {cls:=.type "tuple_iterator",data:=.fields #[.ref l2,.int 0 0]}).push {cls:=.type "tuple",data:=.seq #[.ref s.heap.objs.size,.ref (s.heap.objs.size+1)]}).push {cls:=.type "tuple",data:=.seq #[.none,.none]}).push {cls:=.type "zip",data:=.fields #[.none,.bool false,.bool false,.ref (s.heap.objs.size+2),.ref (s.heap.objs.size+3)]}}):=.of_wp λprog w A R s h=>by obtain⟨f,g,d,i,os⟩:=s;obtain⟨a,b,h⟩:=h;have j:=sub_zip;have c:IsList (g_ ⟨f,g,d,i,os⟩) l1 xs:=a;have e:pV (g_ ⟨f.push {cls:=.type "list_iterator",data:=.fields #[.ref l1,.int 0 0]},g,d,i,os⟩) l2 ys:=Heap.IsTuple.push b _;wp_walk using gy c,fi e;simp only[ei]at*;exact⟨_,rfl,h⟩
section
variable{prog:df}{w:ek}{A:ez}{E:aX->a_->Prop}{s:a_}
theorem za{l1:bd}(i:s.heap.IsList l1 xs)(j:s.heap.IsTuple l2 ys)(h:∀ h',i5 h' (s.heap.objs.size+4) (s.heap.objs.size+2) (s.heap.objs.size+3) .none->ft h' (s.heap.objs.size+2) (.ref s.heap.objs.size) (.ref (s.heap.objs.size+1))->ft h' (s.heap.objs.size+3) .none .none->h'.IsListIter s.heap.objs.size l1 0->h'.IsTupleIter (s.heap.objs.size+1) l2 0->(∀c o,s.heap.get? c=some o->h'.get? c=some o)->Q (.ref (s.heap.objs.size+4)) {s with heap:=h'}):cy (cS prog w) A (call (.type "zip") [.ref l1,.ref l2]) Q E s:=by
 refine jV F.called_zip (by decide) (F.typeCall_zip_2 _ _) (F.newCall_zip_2 _ _) (λobj=>F.args_object_init_3 obj _ _) F.entry_zip_new (o8 l1 l2 xs ys) ⟨i,j,?_⟩;generalize k:s.heap.push {cls:=.type "list_iterator",data:=.fields #[.ref l1,.int 0 0]}=t1;have r:t1.objs.size=s.heap.objs.size+1:=by rw[<-k,ei]
 have z:t1.get? s.heap.objs.size=some {cls:=.type "list_iterator",data:=.fields #[.ref l1,.int 0 0]}:=by rw[<-k];exact cw _ rfl
 have B:∀c o,s.heap.get? c=some o->t1.get? c=some o:=λc o e=>by rw[<-k];exact dM e
 generalize l:t1.push {cls:=.type "tuple_iterator",data:=.fields #[.ref l2,.int 0 0]}=t2;have t:t2.objs.size=s.heap.objs.size+2:=by rw[<-l,ei,r]
 have C:t2.get? (s.heap.objs.size+1)=some {cls:=.type "tuple_iterator",data:=.fields #[.ref l2,.int 0 0]}:=by rw[<-r,<-l];exact cw _ rfl
 have u:∀c o,t1.get? c=some o->t2.get? c=some o:=λc o e=>by rw[<-l];exact dM e
 generalize m:t2.push {cls:=.type "tuple",data:=.seq #[.ref s.heap.objs.size,.ref (s.heap.objs.size+1)]}=a;have v:a.objs.size=s.heap.objs.size+3:=by rw[<-m,ei,t]
 have G:a.get? (s.heap.objs.size+2)=some {cls:=.type "tuple",data:=.seq #[.ref s.heap.objs.size,.ref (s.heap.objs.size+1)]}:=by rw[<-t,<-m];exact cw _ rfl
 have n:∀c o,t2.get? c=some o->a.get? c=some o:=λc o e=>by rw[<-m];exact dM e
 generalize p:a.push {cls:=.type "tuple",data:=.seq #[.none,.none]}=b;have H:b.objs.size=s.heap.objs.size+4:=by rw[<-p,ei,v]
 have I:b.get? (s.heap.objs.size+3)=some {cls:=.type "tuple",data:=.seq #[.none,.none]}:=by rw[<-v,<-p];exact cw _ rfl
 have g:∀c o,a.get? c=some o->b.get? c=some o:=λc o e=>by rw[<-p];exact dM e
 generalize x:b.push {cls:=.type "zip",data:=.fields #[.none,.bool false,.bool false,.ref (s.heap.objs.size+2),.ref (s.heap.objs.size+3)]}=q;have y:q.get? (s.heap.objs.size+4)=some {cls:=.type "zip",data:=.fields #[.none,.bool false,.bool false,.ref (s.heap.objs.size+2),.ref (s.heap.objs.size+3)]}:=by rw[<-H,<-x];exact cw _ rfl
 have f:∀c o,b.get? c=some o->q.get? c=some o:=λc o e=>by rw[<-x];exact dM e
 exact⟨⟨_,y,rfl⟩,h q y (f _ _ (g _ _ G)) (f _ _ I) ⟨_,f _ _ (g _ _ (n _ _ (u _ _ z))),rfl,rfl⟩ ⟨_,f _ _ (g _ _ (n _ _ C)),rfl,rfl⟩ λc o e=>f _ _ (g _ _ (n _ _ (u _ _ (B _ _ e))))⟩
end
theorem pH(l1 l2:bd)(xs ys:Array aX):mw (im.«zip.__new__» ⟨[.type "zip",.ref l1,.ref l2],[]⟩) (λ_ R s=>s.heap.IsTuple l1 xs/\s.heap.IsList l2 ys/\R (.ok (.ret (.ref (s.heap.objs.size+4)))) {s with heap:=((((s.heap.push {cls:=.type "tuple_iterator",data:=.fields #[.ref l1,.int 0 0]}).push {cls:=.type "list_iterator",data:=.fields #[.ref l2,.int 0 0]}).push {cls:=.type "tuple",data:=.seq #[.ref s.heap.objs.size,.ref (s.heap.objs.size+1)]}).push {cls:=.type "tuple",data:=.seq #[.none,.none]}).push {cls:=.type "zip",data:=.fields #[.none,.bool false,.bool false,.ref (s.heap.objs.size+2),.ref (s.heap.objs.size+3)]}}):=.of_wp λprog w A R s h=>by obtain⟨f,g,d,i,os⟩:=s;obtain⟨a,b,h⟩:=h;have j:=sub_zip;have c:pV (g_ ⟨f,g,d,i,os⟩) l1 xs:=a;have e:IsList (g_ ⟨f.push {cls:=.type "tuple_iterator",data:=.fields #[.ref l1,.int 0 0]},g,d,i,os⟩) l2 ys:=Heap.IsList.push b _;wp_walk using fi c,gy e;simp only[ei]at*;exact⟨_,rfl,h⟩
section
variable{prog:df}{w:ek}{A:ez}{E:aX->a_->Prop}{s:a_}
theorem zK{l1:bd}(i:s.heap.IsTuple l1 xs)(j:s.heap.IsList l2 ys)(h:∀ h',i5 h' (s.heap.objs.size+4) (s.heap.objs.size+2) (s.heap.objs.size+3) .none->ft h' (s.heap.objs.size+2) (.ref s.heap.objs.size) (.ref (s.heap.objs.size+1))->ft h' (s.heap.objs.size+3) .none .none->h'.IsTupleIter s.heap.objs.size l1 0->h'.IsListIter (s.heap.objs.size+1) l2 0->(∀c o,s.heap.get? c=some o->h'.get? c=some o)->Q (.ref (s.heap.objs.size+4)) {s with heap:=h'}):cy (cS prog w) A (call (.type "zip") [.ref l1,.ref l2]) Q E s:=by
 refine jV F.called_zip (by decide) (F.typeCall_zip_2 _ _) (F.newCall_zip_2 _ _) (λobj=>F.args_object_init_3 obj _ _) F.entry_zip_new (pH l1 l2 xs ys) ⟨i,j,?_⟩;generalize k:s.heap.push {cls:=.type "tuple_iterator",data:=.fields #[.ref l1,.int 0 0]}=t1;have r:t1.objs.size=s.heap.objs.size+1:=by rw[<-k,ei]
 have z:t1.get? s.heap.objs.size=some {cls:=.type "tuple_iterator",data:=.fields #[.ref l1,.int 0 0]}:=by rw[<-k];exact cw _ rfl
 have B:∀c o,s.heap.get? c=some o->t1.get? c=some o:=λc o e=>by rw[<-k];exact dM e
 generalize l:t1.push {cls:=.type "list_iterator",data:=.fields #[.ref l2,.int 0 0]}=t2;have t:t2.objs.size=s.heap.objs.size+2:=by rw[<-l,ei,r]
 have C:t2.get? (s.heap.objs.size+1)=some {cls:=.type "list_iterator",data:=.fields #[.ref l2,.int 0 0]}:=by rw[<-r,<-l];exact cw _ rfl
 have u:∀c o,t1.get? c=some o->t2.get? c=some o:=λc o e=>by rw[<-l];exact dM e
 generalize m:t2.push {cls:=.type "tuple",data:=.seq #[.ref s.heap.objs.size,.ref (s.heap.objs.size+1)]}=a;have v:a.objs.size=s.heap.objs.size+3:=by rw[<-m,ei,t]
 have G:a.get? (s.heap.objs.size+2)=some {cls:=.type "tuple",data:=.seq #[.ref s.heap.objs.size,.ref (s.heap.objs.size+1)]}:=by rw[<-t,<-m];exact cw _ rfl
 have n:∀c o,t2.get? c=some o->a.get? c=some o:=λc o e=>by rw[<-m];exact dM e
 generalize p:a.push {cls:=.type "tuple",data:=.seq #[.none,.none]}=b;have H:b.objs.size=s.heap.objs.size+4:=by rw[<-p,ei,v]
 have I:b.get? (s.heap.objs.size+3)=some {cls:=.type "tuple",data:=.seq #[.none,.none]}:=by rw[<-v,<-p];exact cw _ rfl
 have g:∀c o,a.get? c=some o->b.get? c=some o:=λc o e=>by rw[<-p];exact dM e
 generalize x:b.push {cls:=.type "zip",data:=.fields #[.none,.bool false,.bool false,.ref (s.heap.objs.size+2),.ref (s.heap.objs.size+3)]}=q;have y:q.get? (s.heap.objs.size+4)=some {cls:=.type "zip",data:=.fields #[.none,.bool false,.bool false,.ref (s.heap.objs.size+2),.ref (s.heap.objs.size+3)]}:=by rw[<-H,<-x];exact cw _ rfl
 have f:∀c o,b.get? c=some o->q.get? c=some o:=λc o e=>by rw[<-x];exact dM e
 exact⟨⟨_,y,rfl⟩,h q y (f _ _ (g _ _ G)) (f _ _ I) ⟨_,f _ _ (g _ _ (n _ _ (u _ _ z))),rfl,rfl⟩ ⟨_,f _ _ (g _ _ (n _ _ C)),rfl,rfl⟩ λc o e=>f _ _ (g _ _ (n _ _ (u _ _ (B _ _ e))))⟩
end
theorem pg(l1 l2:bd)(xs ys:Array aX):mw (im.«zip.__new__» ⟨[.type "zip",.ref l1,.ref l2],[]⟩) (λ_ R s=>s.heap.IsTuple l1 xs/\s.heap.IsTuple l2 ys/\R (.ok (.ret (.ref (s.heap.objs.size+4)))) {s with heap:=((((s.heap.push {cls:=.type "tuple_iterator",data:=.fields #[.ref l1,.int 0 0]}).push {cls:=.type "tuple_iterator",data:=.fields #[.ref l2,.int 0 0]}).push {cls:=.type "tuple",data:=.seq #[.ref s.heap.objs.size,.ref (s.heap.objs.size+1)]}).push {cls:=.type "tuple",data:=.seq #[.none,.none]}).push {cls:=.type "zip",data:=.fields #[.none,.bool false,.bool false,.ref (s.heap.objs.size+2),.ref (s.heap.objs.size+3)]}}):=.of_wp λprog w A R s h=>by obtain⟨f,g,d,i,os⟩:=s;obtain⟨a,b,h⟩:=h;have j:=sub_zip;have c:pV (g_ ⟨f,g,d,i,os⟩) l1 xs:=a;have e:pV (g_ ⟨f.push {cls:=.type "tuple_iterator",data:=.fields #[.ref l1,.int 0 0]},g,d,i,os⟩) l2 ys:=Heap.IsTuple.push b _;wp_walk using fi c,fi e;simp only[ei]at*;exact⟨_,rfl,h⟩
section
variable{prog:df}{w:ek}{A:ez}{E:aX->a_->Prop}{s:a_}
theorem zA{l1:bd}(i:s.heap.IsTuple l1 xs)(j:s.heap.IsTuple l2 ys)(h:∀ h',i5 h' (s.heap.objs.size+4) (s.heap.objs.size+2) (s.heap.objs.size+3) .none->ft h' (s.heap.objs.size+2) (.ref s.heap.objs.size) (.ref (s.heap.objs.size+1))->ft h' (s.heap.objs.size+3) .none .none->h'.IsTupleIter s.heap.objs.size l1 0->h'.IsTupleIter (s.heap.objs.size+1) l2 0->(∀c o,s.heap.get? c=some o->h'.get? c=some o)->Q (.ref (s.heap.objs.size+4)) {s with heap:=h'}):cy (cS prog w) A (call (.type "zip") [.ref l1,.ref l2]) Q E s:=by
 refine jV F.called_zip (by decide) (F.typeCall_zip_2 _ _) (F.newCall_zip_2 _ _) (λobj=>F.args_object_init_3 obj _ _) F.entry_zip_new (pg l1 l2 xs ys) ⟨i,j,?_⟩;generalize k:s.heap.push {cls:=.type "tuple_iterator",data:=.fields #[.ref l1,.int 0 0]}=t1;have r:t1.objs.size=s.heap.objs.size+1:=by rw[<-k,ei]
 have z:t1.get? s.heap.objs.size=some {cls:=.type "tuple_iterator",data:=.fields #[.ref l1,.int 0 0]}:=by rw[<-k];exact cw _ rfl
 have B:∀c o,s.heap.get? c=some o->t1.get? c=some o:=λc o e=>by rw[<-k];exact dM e
 generalize l:t1.push {cls:=.type "tuple_iterator",data:=.fields #[.ref l2,.int 0 0]}=t2;have t:t2.objs.size=s.heap.objs.size+2:=by rw[<-l,ei,r]
 have C:t2.get? (s.heap.objs.size+1)=some {cls:=.type "tuple_iterator",data:=.fields #[.ref l2,.int 0 0]}:=by rw[<-r,<-l];exact cw _ rfl
 have u:∀c o,t1.get? c=some o->t2.get? c=some o:=λc o e=>by rw[<-l];exact dM e
 generalize m:t2.push {cls:=.type "tuple",data:=.seq #[.ref s.heap.objs.size,.ref (s.heap.objs.size+1)]}=a;have v:a.objs.size=s.heap.objs.size+3:=by rw[<-m,ei,t]
 have G:a.get? (s.heap.objs.size+2)=some {cls:=.type "tuple",data:=.seq #[.ref s.heap.objs.size,.ref (s.heap.objs.size+1)]}:=by rw[<-t,<-m];exact cw _ rfl
 have n:∀c o,t2.get? c=some o->a.get? c=some o:=λc o e=>by rw[<-m];exact dM e
 generalize p:a.push {cls:=.type "tuple",data:=.seq #[.none,.none]}=b;have H:b.objs.size=s.heap.objs.size+4:=by rw[<-p,ei,v]
 have I:b.get? (s.heap.objs.size+3)=some {cls:=.type "tuple",data:=.seq #[.none,.none]}:=by rw[<-v,<-p];exact cw _ rfl
 have g:∀c o,a.get? c=some o->b.get? c=some o:=λc o e=>by rw[<-p];exact dM e
 generalize x:b.push {cls:=.type "zip",data:=.fields #[.none,.bool false,.bool false,.ref (s.heap.objs.size+2),.ref (s.heap.objs.size+3)]}=q;have y:q.get? (s.heap.objs.size+4)=some {cls:=.type "zip",data:=.fields #[.none,.bool false,.bool false,.ref (s.heap.objs.size+2),.ref (s.heap.objs.size+3)]}:=by rw[<-H,<-x];exact cw _ rfl
 have f:∀c o,b.get? c=some o->q.get? c=some o:=λc o e=>by rw[<-x];exact dM e
 exact⟨⟨_,y,rfl⟩,h q y (f _ _ (g _ _ G)) (f _ _ I) ⟨_,f _ _ (g _ _ (n _ _ (u _ _ z))),rfl,rfl⟩ ⟨_,f _ _ (g _ _ (n _ _ C)),rfl,rfl⟩ λc o e=>f _ _ (g _ _ (n _ _ (u _ _ (B _ _ e))))⟩
end
end PySem
end
section
namespace L2
open PySem PySem.Spec PyProof.Rows
variable{t:Bool}{a:bd}
noncomputable def Sq(t:Bool)(K:PySem.W.Frag)(H:Hp)(a:bd)(xs:List V):Prop:=if t then iM K H a xs else eO K H a xs
noncomputable def W9(t:Bool)(h:eA)(a:bd)(xs:Array aX):Prop:=if t then h.IsTuple a xs else h.IsList a xs
noncomputable def Gp(t:Bool)(h:eA)(i a:bd)(k:Nat):Prop:=if t then h.IsTupleIter i a k else h.IsListIter i a k
section
variable{X:Cx}{pins:List (bd×Obj)}{σ:L2.St}{H:Hp}{s:a_}
theorem Inv.sq{xs:List V}(I:Inv X pins σ H s)(h:Sq t X.K H a xs):∃b:List aX,Vals xs b/\W9 t s.heap a b.toArray:=by cases t with|true=>obtain⟨b,c,e,_⟩:=I.tuple h;exact⟨b,c,e⟩|false=>obtain⟨b,c,e,_⟩:=I.list h;exact⟨b,c,e.isList⟩
theorem Inv.JG{xs ys:List V}(I:Inv X pins σ H s)(h:Sq t X.K H a xs)(h':Sq t X.K H a ys):xs=ys:=by cases t with|true=>exact I.j5 h h'|false=>exact I.m7 h h'
theorem W9.lt{h:eA}{xs:Array aX}(q:W9 t h a xs):a<h.objs.size:=by cases t with|true=>obtain⟨o,e,_⟩:=id q;exact dl e|false=>obtain⟨o,e,_⟩:=id q;exact dl e
theorem Gp.obj{h:eA}{i:bd}{k:Nat}(q:Gp t h i a k):∃o,h.get? i=some o/\∀v,o.data≠.cell v:=by cases t with|true=>obtain⟨o,b,e,c⟩:=id q;exact⟨o,b,λv z=>by rw[c]at z;cases z⟩|false=>obtain⟨o,b,e,c⟩:=id q;exact⟨o,b,λv z=>by rw[c]at z;cases z⟩
theorem Gp.keep{h h':eA}{i:bd}{k:Nat}(q:Gp t h i a k)(e:∀o,h.get? i=some o->h'.get? i=some o):Gp t h' i a k:=by cases t with|true=>obtain⟨o,b,r⟩:=id q;exact⟨o,e o b,r⟩|false=>obtain⟨o,b,r⟩:=id q;exact⟨o,e o b,r⟩
theorem Li(t:Bool){prog:df}{w:ek}{A:ez}(c:A.handled=none)(it l:bd)(b:l≠it)(items:Array aX):Nx prog w A it l (λk h=>Gp t h it l k/\W9 t h l items) (λk=>items[k]?):=by cases t with|true=>exact Nx.tuple c it l b items|false=>exact Nx.list c it l b items
theorem Inv.Jr{ch:List bd}{h':eA}(I:Inv X pins σ H s)(k:∀b u,b∉ch->s.heap.get? b=some u->h'.get? b=some u)(h:∀b∈ch,nu X pins H b):Inv X pins σ H {s with heap:=h'}:=by
 have i:∀b u,H b=some u->b∉ch:=λb u e f=>by rw[(h b f).1]at e;cases e
 refine I.call (g':=s.gens) (d':=s.drawn) (t':=s.toks) (ch:=ch) ⟨λb u e n _ g=>k b u g e,λb u e n _ g=>⟨u.slots,k b u g e⟩,λb u e n g=>n,λb u e g=>⟨u,k b u g e⟩,λb xs e=>e,λb j u e=>e,λb ps e=>⟨#[],by rw[e];simp⟩⟩ ?_ I.bare λb f=>⟨(h b f).2.2.2.1,(h b f).2.1,(h b f).2.2.2.2.1,(h b f).2.2.2.2.2⟩;intro b u e;refine(I.hok b u e).stay (λc v hc q=>k c v ?_ q) (λc q=>q) λc xs q=>q;rcases hc with rfl|hc;.exact i _ _ e
 .exact i _ _ hc
end
noncomputable def XH(t1 t2:Bool)(K:PySem.W.Frag)(a b:bd):It:=⟨λi H=>∃ xs ys x y,Sq t1 K H a xs/\Sq t2 K H b ys/\xs[i]?=some x/\ys[i]?=some y,λi H x c=>∃T v w,H T=none/\x=.ref T/\c=upd H T (.tup [v,w])/\(∀xs,Sq t1 K H a xs->xs[i]?=some v)/\∀ys,Sq t2 K H b ys->ys[i]?=some w,λi H=>∃xs ys,Sq t1 K H a xs/\Sq t2 K H b ys/\(xs.length<=i\/ys.length<=i)⟩
theorem Ig{P:df}{w:ek}{K:PySem.W.Frag}{J:List dr}{x1}{tp:Pos}(t1 t2:Bool){z TI TO f g l1 l2:bd}(D:lf z TI TO f g l1 l2):Turn P w K (.Tuple J x1 tp) (XH t1 t2 K l1 l2) [z,TI,TO,f,g] z (λi h=>i5 h z TI TO .none/\ft h TI (.ref f) (.ref g)/\(∃a b,ft h TO a b)/\Gp t1 h f l1 i/\Gp t2 h g l2 i)where
 mem:=by simp
 obj:=λi h st b c=>by
  obtain⟨h1,m,⟨u,v,r⟩,B,C⟩:=st;simp only[de,iO,or_false]at c;rcases c with rfl|rfl|rfl|rfl|rfl;.exact⟨_,h1,λv z=>by cases z⟩
  .exact⟨_,m,λv z=>by cases z⟩
  .exact⟨_,r,λv z=>by cases z⟩
  .exact B.obj
  .exact C.obj
 keep:=λi h h' st k=>by obtain⟨h1,m,⟨u,v,r⟩,B,C⟩:=st;exact⟨k z (by simp) _ h1,k TI (by simp) _ m,⟨u,v,k TO (by simp) _ r⟩,B.keep (k f (by simp)),C.keep (k g (by simp))⟩
 item:=λX hP hw hK hc i L s σ H E I U st go=>by
  subst hP hw hK;obtain⟨h1,m,⟨u,v,r⟩,B,C⟩:=st;obtain⟨xs,ys,x,y,n,p,hx,hy⟩:=go;obtain⟨O5,G,Xu⟩:=I.sq n;obtain⟨j,VF,QR⟩:=I.sq p;obtain⟨Y,ac,ae⟩:=G.get hx;obtain⟨Z,af,ag⟩:=VF.get hy;have M:X.A.in1.handled=none:=I.ok.hd hc;refine nF D (Li t1 M f l1 D.l1i1 O5.toArray) (Li t2 M g l2 D.l2i2 j.toArray) h1 m r (k:=i) ⟨B,Xu⟩ ⟨C,QR⟩ (x:=Y) (y:=Z) (by simpa using ac) (by simpa using af) λh' z1 p1 s1 s2 pT hsz kp=>?_;refine⟨_,rfl,wpAny_letOwnedTupleGo_zip z1 λl z2 N=>?_⟩;have O:∀b∈[z,TI,TO,f,g],b≠s.heap.objs.size:=λb c=>by
   simp only[de,iO,or_false]at c;rcases c with rfl|rfl|rfl|rfl|rfl;.exact dS (dl h1)
   .exact dS (dl m)
   .exact dS (dl r)
   .exact dS (dl B.obj.choose_spec.1)
   .exact dS (dl C.obj.choose_spec.1)
  have Xr:∀b o,b∉[z,TO,f,g]->s.heap.get? b=some o->l.get? b=some o:=λb o c q=>by simp only[de,iO,or_false,not_or]at c;exact N.extBut b o c.1 (kp b o c.1 c.2.1 c.2.2.1 c.2.2.2 q)
  have ah:ft l s.heap.objs.size Y Z:=N.extBut _ _ (O z (by simp)).symm pT;have p2:ft l TO Y Z:=N.extBut _ _ D.TOz p1;have j1:Gp t1 l f l1 (i+1):=s1.1.keep λo e=>N.extBut _ _ D.i1z e;have j2:Gp t2 l g l2 (i+1):=s2.1.keep λo e=>N.extBut _ _ D.i2z e;refine⟨.ref s.heap.objs.size,upd H s.heap.objs.size (.tup [x,y]),?_,rfl,⟨_,x,y,I.fresh,rfl,rfl,λzs hz=>?_,λzs hz=>?_⟩,⟨z2,Xr TI _ ?_ m,⟨_,_,p2⟩,j1,j2⟩,λb c=>?_⟩
  . refine I.zZ (ch:=[z,TO,f,g]) (t':=s.toks) Xr (λb c=>?_) (λb c=>U b ?_) ⟨(by show 2<=sizeLine;decide),[Y,Z],.cons ae (.cons ag .nil),⟨_,ah,rfl,_,rfl⟩⟩
    . simp only[de,iO,or_false]at c;rcases c with rfl|rfl|rfl|rfl;.exact⟨_,z2⟩
      .exact⟨_,p2⟩
      .exact⟨_,j1.obj.choose_spec.1⟩
      .exact⟨_,j2.obj.choose_spec.1⟩
    .simp only[de,iO,or_false]at c ⊢;rcases c with h|h|h|h<;>simp[h]
  .rw[I.JG hz n];exact hx
  .rw[I.JG hz p];exact hy
  .simp[D.TIz,D.TITO,D.TIi1,D.TIi2]
  .rw[aC (O b c)];exact(U b c).1
 done:=λX hP hw hK hc i L s σ H E I U st stop=>by
  subst hP hw hK;obtain⟨h1,m,⟨u,v,r⟩,B,C⟩:=st;obtain⟨xs,ys,n,p,hx⟩:=stop;obtain⟨O5,G,Xu⟩:=I.sq n;obtain⟨j,VF,QR⟩:=I.sq p;have M:X.A.in1.handled=none:=I.ok.hd hc;refine pD D (Li t1 M f l1 D.l1i1 O5.toArray) (Li t2 M g l2 D.l2i2 j.toArray) h1 m r (k:=i) ⟨B,Xu⟩ ⟨C,QR⟩ ?_ λh' kp=>⟨rfl,?_⟩
  . rcases hx with hx|hx;.left;rw[G.length]at hx;simpa using hx
    .right;rw[VF.length]at hx;simpa using hx
  .exact I.Jr (ch:=[z,TO,f,g]) (λb u c q=>by simp only[de,iO,or_false,not_or]at c;exact kp b u c.1 c.2.1 c.2.2.1 c.2.2.2 q) λb c=>U b (by simp only[de,iO,or_false]at c ⊢;rcases c with h|h|h|h<;>simp[h])
 self:=λA i s Q E st q=>wpAny_pyIter_zip st.1 q
section
variable{X:Cx}{elts:List dr}{x1:Nat}{tp:Pos}
theorem Fy{prog:df}{w:ek}{A:ez}{E:aX->a_->Prop}{s:a_}(t1 t2:Bool){l1 l2:bd}{xs ys:Array aX}{Q:aX->a_->Prop}(b:W9 t1 s.heap l1 xs)(e:W9 t2 s.heap l2 ys)(h:∀ h',i5 h' (s.heap.objs.size+4) (s.heap.objs.size+2) (s.heap.objs.size+3) .none->ft h' (s.heap.objs.size+2) (.ref s.heap.objs.size) (.ref (s.heap.objs.size+1))->ft h' (s.heap.objs.size+3) .none .none->Gp t1 h' s.heap.objs.size l1 0->Gp t2 h' (s.heap.objs.size+1) l2 0->(∀c o,s.heap.get? c=some o->h'.get? c=some o)->Q (.ref (s.heap.objs.size+4)) {s with heap:=h'}):cy (cS prog w) A (call (.type "zip") [.ref l1,.ref l2]) Q E s:=by
 cases t1<;>cases t2;.exact Ak b e h
 .exact za b e h
 .exact zK b e h
 .exact zA b e h
theorem Vk{n l m:Nat}(h1:l<n)(b:m<n):lf (n+4) (n+2) (n+3) n (n+1) l m:=by constructor<;>exact λh=>absurd (show(_:Nat)=_ from h) (by omega)
noncomputable def adi(K:PySem.W.Frag)(R:It->Hp->Prop)(vs:List V)(c:Hp):Prop:=∃t1 t2 a b,vs=[.ref a,.ref b]/\(∃xs,Sq t1 K c a xs)/\(∃ys,Sq t2 K c b ys)/\R (XH t1 t2 K a b) c
noncomputable def acW(K:PySem.W.Frag)(b:TA):TI:=λσ H R=>b σ H (adi K R)
theorem boot_zip:ey "zip"=some (.type "zip"):=by decide+kernel
theorem Hy{a b:dr}{k:TA}{p pos:Pos}(w:Gl X "zip")(x:X.mg "zip"=none)(y:PA X [a,b] k)(hs:cv [a,b] X.env=[(false,eu a X.env),(false,eu b X.env)]:=by rfl)(c:cv [b] X.env=[(false,eu b X.env)]:=by rfl):PI X (.Tuple elts x1 tp) (.Call (.Name "zip" p) [a,b] [] pos) (acW X.K k):=by
 intro e s σ H R I h;refine Call_ (iT I w x boot_zip (eH (bY (y pos e s σ H _ I h) ?_) (by rw[hs,c]) (by rw[c];rfl)));rintro N s1⟨vs,z,f,r1,A⟩;obtain⟨t1,t2,l1,l2,rfl,⟨xs,i⟩,⟨ys,j⟩,q⟩:=A;obtain⟨u,v,rfl,B,C⟩:=r1.two;cases B;cases C;obtain⟨O,E,l⟩:=f.sq i;obtain⟨m,Q,n⟩:=f.sq j;have b1:=l.lt;have b2:=n.lt;refine Fy t1 t2 l n λh' o G J L M kp=>?_;have D:lf (s1.heap.objs.size+4) (s1.heap.objs.size+2) (s1.heap.objs.size+3) s1.heap.objs.size (s1.heap.objs.size+1) l1 l2:=Vk b1 b2;refine wpAny_pyIter_zip o ⟨_,_,_,_,z,rfl,f.kept (t':=s1.toks) kp,Ig t1 t2 D,⟨o,G,⟨_,_,J⟩,L,M⟩,λb r=>?_,q⟩;have g:s1.heap.objs.size<=b:=by simp only[de,iO,or_false]at r;rcases r with rfl|rfl|rfl|rfl|rfl<;>first|exact Nat.le_add_right _ _|exact dw
 exact f.zQ g (f.hok.fresh g)
end
end L2
namespace HH
open PySem L2 PySem.Spec PyProof.Rows
variable{x:Str}
section
variable{K:PySem.W.Frag}{F F1 H H1:Hp}{ρ ρ1:List Sl}{σ:L2.St}{ds es:List D}{a b:bd}
theorem aG.sq{t:Bool}{xs:List V}(e:aG F H)(h:Sq t K F a xs):Sq t K H a xs:=by cases t with|true=>exact aG.gD e h|false=>exact e.seq h
theorem p8{t1 t2:Bool}{xs ys:List V}{j c:Hp}(e:Sq t1 K c a xs)(f:Sq t2 K c b ys)(r1:aH K j xs ds)(n:aH K j ys es)(s:aG j c)(k:Nat):(∀d,((ds.zip es).map λp=>D.tup [p.1,p.2])[k]?=some d->(XH t1 t2 K a b).go k c/\∀x l,(XH t1 t2 K a b).Kd k c x l->∃g,Ext j c g l/\Rep K g x d)/\(((ds.zip es).map λp=>D.tup [p.1,p.2]).length<=k->(XH t1 t2 K a b).stop k c):=by refine⟨λd hd=>?_,λh=>⟨xs,ys,e,f,by rw[r1.length,n.length];rw[dy,List.length_zip]at h;omega⟩⟩;rw[eR]at hd;obtain⟨⟨d0,d1⟩,o,q⟩:=map_some hd;subst q;obtain⟨f1,f2⟩:=h9.mp o;obtain⟨w,h1,r⟩:=r1.get f1;obtain⟨t,i,m⟩:=n.get f2;refine⟨⟨xs,ys,w,t,e,f,h1,i⟩,?_⟩;rintro x l⟨T,v,C,u,z,A,y,B⟩;subst z;subst A;have:=y xs e;rw[h1]at this;cases this;have:=B ys f;rw[i]at this;cases this;exact qp s u r m
theorem uO{v:V}{d:D}{ds:List D}(h:Rep K F v d)(e:items d=some ds):∃t a xs,v=.ref a/\Sq t K F a xs/\aH K F xs ds:=by cases d with|tup es=>cases e;rw[Rep]at h;obtain⟨a,xs,rfl,h1,c⟩:=h;exact⟨true,a,xs,rfl,h1,c⟩|lst es=>cases e;rw[Rep]at h;obtain⟨a,xs,rfl,h1,c⟩:=h;exact⟨false,a,xs,rfl,h1,c⟩|_=>cases e
end
section
variable{X:Cx}{c:Call}{e a b:dr}{pa pb:P}{pos:Pos}{elts:List dr}{x1:Nat}{tp:Pos}
theorem R9{w:Pos}(y:x="zip")(z:Gl X x)(A:X.mg x=none)(B:SX X c a pa)(C:SX X c b pb)(hs:cv [a,b] X.env=[(false,eu a X.env),(false,eu b X.env)]:=by rfl)(f:cv [b] X.env=[(false,eu b X.env)]:=by rfl):SI X c (.Tuple elts x1 tp) (.Call (.Name x w) [a,b] [] pos) (.zip pa pb):=by subst y;refine lu (Hy z A (pP B (pP C aO f) (by rw[hs,f])).1 hs f) ?_;rintro σ H R⟨F,ρ,ds,E,g,e,k⟩;obtain⟨r,G,p,l⟩:=aj e;have o:=aD l;clear l;obtain⟨l,I⟩:=o;subst I;rw[HH.E23]at p;obtain⟨x0,j,J,L⟩:=aj p;obtain⟨M,N,O,m⟩:=aj L;have o:=aD m;clear m;obtain⟨m,Q⟩:=o;subst Q;obtain⟨us,f1,U⟩:=cJ m;obtain⟨ws,f2,f3⟩:=map_some U;subst f3;cases l;refine⟨F,ρ,[x0.d,M.d],_,g,by rw[evs,J];show(evs c [pb] j).bind _=_;rw[evs,O];rfl,λvs W Y s h=>?_⟩;obtain⟨v,r',rfl,Z,h⟩:=h.cL;obtain⟨u,ac,rfl,ru,h⟩:=h.cL;rw[h.fV];obtain⟨t1,a1,xs,rfl,q,r1⟩:=uO Z f1;obtain⟨t2,a2,ys,rfl,t,r2⟩:=uO ru f2;exact⟨t1,t2,a1,a2,rfl,⟨xs,aG.sq s.gs.sub q⟩,⟨ys,aG.sq s.gs.sub t⟩,k _ _ _ ⟨s.gs,λn k W ae af Y i=>p8 (aG.sq i.gs.sub (aG.sq i.bQ q)) (aG.sq i.gs.sub (aG.sq i.bQ t)) (r1.mono i.bQ) (r2.mono i.bQ) i.gs.sub k,λF3 j ag H3 s3=>⟨s.trans s3,λv r h=>h.later s⟩⟩⟩
end
structure bu(K:PySem.W.Frag)(x:Str)(st:eJ):Prop where ex:∃f fd,PySem.W.nsIn K dc x=some (some (.ref f))/\gb K x x st f fd
section
variable{Pg:df}{w:ek}{K:PySem.W.Frag}{mg:Str->Option aX}{base h:eA}
theorem U5{st:eJ}{f:bd}{oc:aX}{g i:Option bd}{b:Array (Option aX)}{kV e j cdv ct:aX}(a:PySem.W.nsIn K dc x=some (some (.ref f)))(l:K.lookup f=some ⟨oc,g,.func (PySem.W.fnOf x x (iW st) (fY st) (az st) .none kV e j i cdv ct),b⟩)(c:PySem.W.codeIn K cdv x=true)(k:keepIn K (.ref f)=true):bu K x st:=⟨_,_,a,Tg l c k⟩
theorem bA{Γ:Tab}{wl i np:Nat}{st:eJ}{ps:List Str}(X:K.In h)(G:h.Ns dc mg)(D:bu K x st)(j:ps.length=np)(k:∀(kV g l:aX)(m:Option bd)(cdv ct:aX)(c:List aX),c.length=ps.length->qr (PySem.W.fnOf x x (iW st) (fY st) (az st) .none kV g l m cdv ct) ⟨c,[]⟩=eT (ps.zip c)):aR Pg w K mg base 0 (run Γ wl 0) i x np:=by obtain⟨f,fd,a,F⟩:=D.ex;exact⟨f,fd,ps,⟨λvs H Q E s=>s.1,λA outer s H args c vs Q E hr e b v sp=>by obtain⟨_,F,as,r,n,_,z,_⟩:=sp;cases z⟩,mg_of X G a,F.kp,F.binds k,j⟩
theorem bz{Γ:Tab}{wl n i np:Nat}{st:eJ}{ps:List Str}{d:Fd}(X:K.In h)(G:h.Ns dc mg)(D:bu K x st)(j:ps.length=np)(b:Γ i=some d)(k:∀(kV c l:aX)(m:Option bd)(cdv ct:aX)(g:List aX),g.length=ps.length->qr (PySem.W.fnOf x x (iW st) (fY st) (az st) .none kV c l m cdv ct) ⟨g,[]⟩=eT (ps.zip g))(ok:∀f fd,gb K x x st f fd->ou Pg w K mg base Gs (n+1) f fd ps (M5 K np (λargs=>enter (run Γ wl n) wl d args))):aR Pg w K mg base (n+1) (run Γ wl (n+1)) i x np:=by
 obtain⟨f,fd,a,F⟩:=D.ex;refine⟨f,fd,ps,?_,mg_of X G a,F.kp,F.binds k,j⟩;have e:run Γ wl (n+1) i=λargs=>enter (run Γ wl n) wl d args:=by funext args;show(match Γ i with|some d=>enter (run Γ wl n) wl d args|none=>.stuck)=_;rw[b]
 rw[e,j];exact ok f fd F
theorem tZ{F:Hp}:∀ns:List Int,aH K F (ns.map V.int) (ns.map D.int)|[]=>.nil|n::ns=>.cons (bO n) (tZ ns)
theorem Ej{H:Hp}{a:bd}{ns:List Int}{g:List Sl->Res R}{as:List Sl}(l:eO K H a (ns.map V.int))(hr:g [.val false (.lst (ns.map D.int))]=.ok (.val (.bl true)) as):M5 K 1 g [.ref a] H (λv _=>v=.bl true) λ_ _ _=>False:=by
 refine⟨rfl,H,_,_,as,⟨.refl _,rfl,λi b d e=>?_,λi s m e k=>?_,λi j c h=>?_⟩,hr,λv n o p s f=>?_⟩;.match i,e with|0,e=>cases e;refine⟨.ref a,rfl,?_⟩;rw[Rep];exact⟨a,_,rfl,l,tZ ns⟩|i+1,e=>simp at e
 .match i,e with|0,e=>cases e;cases k|i+1,e=>simp at e
 .obtain⟨⟨s,m,e,k⟩,_⟩:=h;match i,e with|0,e=>cases e;cases k|i+1,e=>simp at e
 .have f:Rep K n v (.bl true):=f;rw[Rep]at f;exact f
end
end HH
end
section
namespace HH
open PySem
variable{n:Nat}{c:Call}{ρ:List Sl}{is:List Nat}{ds:List D}
noncomputable def Res.sat{b:Type}(Q:b->List Sl->Prop)(x:Res b):Prop:=match x with|.ok a ρ=>Q a ρ|.exc _ _=>False|.stuck=>False
section
variable{α β:Type}{Q Q':α->List Sl->Prop}
@[simp]theorem R3{a:α}{ρ:List Sl}:(Res.ok a ρ).sat Q=Q a ρ:=rfl
@[simp]theorem abm{k:Nat}{ρ:List Sl}:(Res.exc k ρ:Res α).sat Q=False:=rfl
@[simp]theorem WT:(Res.stuck:Res α).sat Q=False:=rfl
theorem cB{x:Res β}{f:β->List Sl->Res α}:(x.bind f).sat Q=x.sat λa ρ=>(f a ρ).sat Q:=by cases x<;>rfl
@[simp]theorem abe{p:Prop}[Decidable p]{x y:Res α}:(if p then x else y).sat Q=((p->x.sat Q)/\(¬ p->y.sat Q)):=by by_cases h:p<;>simp[h]
@[simp]theorem KD{a:α}{ρ:List Sl}:(lift (some a) ρ).sat Q=Q a ρ:=rfl
@[simp]theorem K1{ρ:List Sl}:(lift (none:Option α) ρ).sat Q=False:=rfl
@[simp]theorem K8{p:Prop}[Decidable p]{a:α}{ρ:List Sl}:(lift (if p then some a else none) ρ).sat Q=(p/\Q a ρ):=by by_cases h:p<;>simp[h]
theorem Res.sat.imp{x:Res α}(h:x.sat Q)(k:∀a ρ,Q a ρ->Q' a ρ):x.sat Q':=by cases x with|ok a ρ=>exact k a ρ h|exc _ _=>exact h|stuck=>exact h
theorem sat_iff{x:Res α}:x.sat Q↔∃a ρ,x=.ok a ρ/\Q a ρ:=by cases x with|ok a ρ=>exact⟨λh=>⟨a,ρ,rfl,h⟩,λ⟨_,_,e,h⟩=>by cases e;exact h⟩|exc _ _=>exact⟨λh=>h.elim,λ⟨_,_,e,_⟩=>by cases e⟩|stuck=>exact⟨λh=>h.elim,λ⟨_,_,e,_⟩=>by cases e⟩
end
noncomputable def fr:Sl->Bool|.aQ=>true|.val b _=>!b|.own b _=>!b|.lent _=>false|.gO _=>false|.cQ _=>false|.hold _=>false
@[simp]theorem adB:fr .aQ=true:=rfl
@[simp]theorem aew{b:Bool}{d:D}:fr (.val b d)=!b:=rfl
@[simp]theorem afv{b:Bool}{d:List D}:fr (.own b d)=!b:=rfl
@[simp]theorem aaY{d:List D}:fr (.lent d)=false:=rfl
theorem TJ(ρ:List Sl)(i:Nat)(s:Sl):put ρ i s=match ρ[i]?with|some t=>if fr t=true then some (ρ.set i s)else none|none=>none:=by unfold put;cases h:ρ[i]?with|none=>rfl|some t=>cases t with|aQ=>rfl|val b d=>cases b<;>rfl|own b d=>cases b<;>rfl|lent d=>rfl|gO m=>rfl|cQ m=>rfl|hold m=>rfl
theorem JS{Γ:Tab}{w i:Nat}{d:Fd}{args:List Sl}(h:Γ i=some d):run Γ w (n+1) i args=enter (run Γ w n) w d args:=by rw[run,h]
noncomputable def fin(np:Nat):Fl->List Sl->Option (R×List Sl)|.next,ρ=>some (.val .non,ρ.take np)|.ret r,ρ=>some (r,ρ.take np)|_,_=>none
noncomputable def eQ(np:Nat)(Q:R->List Sl->Prop)(fl:Fl)(ρ:List Sl):Prop:=match fl with|.next=>Q (.val .non) (ρ.take np)|.ret r=>Q r (ρ.take np)|_=>False
noncomputable def sQ(c:Call)(n:Nat)(r:List S)(Q:Fl->List Sl->Prop)(fl:Fl)(ρ:List Sl):Prop:=match fl with|.next=>(iB c n r ρ).sat Q|fl=>Q fl ρ
noncomputable def fQ(J:List Sl->Prop)(Q:Fl->List Sl->Prop)(fl:Fl)(ρ:List Sl):Prop:=match fl with|.next=>J ρ|.cont=>J ρ|.brk=>Q .next ρ|.ret v=>Q (.ret v) ρ
section
variable{np:Nat}{Q:R->List Sl->Prop}{ρ:List Sl}{v:R}{c:Call}{n:Nat}{r:List S}{Q':Fl->List Sl->Prop}{J:List Sl->Prop}
@[simp]theorem abw:eQ np Q .next ρ=Q (.val .non) (ρ.take np):=rfl
@[simp]theorem acS:eQ np Q (.ret v) ρ=Q v (ρ.take np):=rfl
@[simp]theorem ac2:eQ np Q .brk ρ=False:=rfl
@[simp]theorem aa4:eQ np Q .cont ρ=False:=rfl
@[simp]theorem Bt:sQ c n r Q' .next ρ=(iB c n r ρ).sat Q':=rfl
@[simp]theorem aeR:sQ c n r Q' (.ret v) ρ=Q' (.ret v) ρ:=rfl
@[simp]theorem afg:sQ c n r Q' .brk ρ=Q' .brk ρ:=rfl
@[simp]theorem aci:sQ c n r Q' .cont ρ=Q' .cont ρ:=rfl
@[simp]theorem aaZ:fQ J Q' .next ρ=J ρ:=rfl
@[simp]theorem acg:fQ J Q' .cont ρ=J ρ:=rfl
@[simp]theorem aeM:fQ J Q' .brk ρ=Q' .next ρ:=rfl
@[simp]theorem aeY:fQ J Q' (.ret v) ρ=Q' (.ret v) ρ:=rfl
end
theorem EY{d:Fd}{args:List Sl}{Q:R->List Sl->Prop}(a:args.length=d.np)(hd:d.np<=d.nn)(h:(iB c n d.body (args++b_ (d.nn-d.np) .aQ)).sat (eQ d.np Q)):(enter c n d args).sat Q:=by unfold enter;rw[if_pos ⟨a,hd⟩];revert h;cases iB c n d.body (args++b_ (d.nn-d.np) .aQ)with|stuck=>exact λh=>fg h|exc _ _=>exact λh=>fg h|ok fl ρ=>cases fl<;>first|exact id|exact λh=>fg h
theorem aL{Γ:Tab}{w i:Nat}{d:Fd}{args:List Sl}{Q:R->List Sl->Prop}(a:Γ i=some d)(b:args.length=d.np)(hd:d.np<=d.nn)(h:(iB (run Γ w n) w d.body (args++b_ (d.nn-d.np) .aQ)).sat (eQ d.np Q)):(run Γ w (n+1) i args).sat Q:=by rw[JS a];exact EY b hd h
theorem ak{s:S}{r:List S}{Q:Fl->List Sl->Prop}(h:(ex c n s ρ).sat (sQ c n r Q)):(iB c n (s::r) ρ).sat Q:=by rw[RN,cB];refine h.imp λfl a q=>?_;cases fl<;>exact q
theorem Fg{s:S}{r:List S}{Q:Fl->List Sl->Prop}(h:(ex c n s ρ).sat (sQ c n r Q)):sQ c n (s::r) Q .next ρ:=ak h
@[simp]theorem abk{c:Call}{n:Nat}{ρ:List Sl}{Q:Fl->List Sl->Prop}:(iB c n [] ρ).sat Q=Q .next ρ:=by rw[xs0];rfl
theorem bW{s:S}{r:List S}{Q:Fl->List Sl->Prop}(M:List Sl->Prop)(h:(ex c n s ρ).sat λfl a=>fl=.next/\M a)(k:∀a,M a->(iB c n r a).sat Q):(iB c n (s::r) ρ).sat Q:=ak (h.imp λfl a⟨e,q⟩=>by subst e;exact k a q)
theorem cA{is:List Nat}{one:Bool}{body:List Sl->Res Fl}(J:List D->List Sl->Prop){Q:Fl->List Sl->Prop}(b:∀d r ρ,J (d::r) ρ->∃a,cT ρ is one d=some a/\(body a).sat (fQ (J r) Q))(f:∀ρ,J [] ρ->Q .next ρ):∀{ds:List D}{ρ:List Sl},J ds ρ->(iK is one body ds ρ).sat Q|[],ρ,j=>f ρ j|d::r,ρ,j=>by obtain⟨a,e,h⟩:=b d r ρ j;rw[iK,e];show((body a).bind _).sat Q;rw[cB];refine h.imp λfl g q=>?_;cases fl with|next=>exact cA J b f q|cont=>exact cA J b f q|brk=>exact q|ret v=>exact q
theorem kE{is:List Nat}{one:Bool}{a:List Sl->Res Bool}{p:Ev}(J:List Sl->Prop)(g:D->Option D){Q:List D->List Sl->Prop}:∀{ds f:List D}{ρ:List Sl},J ρ->(∀ d,d ∈ ds->∀ ρ,J ρ->∃ i,cT ρ is one d=some i/\(a i).sat λb l=>if b=true then(p l).sat λr s=>g d=some r.d/\J s else g d=none/\J l)->(∀ ρ,J ρ->Q (f++ds.filterMap g) ρ)->(turns is one a p ds f ρ).sat Q|[],f,ρ,j,h,k=>by rw[turns];simpa using k ρ j|d::r,f,ρ,j,h,k=>by obtain⟨i,e,h1⟩:=h d (by simp) ρ j;rw[turns,e];show((a i).bind _).sat Q;rw[cB];refine h1.imp λb l q=>?_;cases b with|true=>rw[if_pos rfl]at q;rw[if_pos rfl,cB];refine q.imp λx s⟨u,j3⟩=>?_;refine kE J g j3 (λd' m=>h d' (by simp[m])) λo t=>?_;have:=k o t;rw[ia,u]at this;rw[fb];exact this|false=>rw[if_neg (by simp)]at q;rw[if_neg (by simp)];refine kE J g q.2 (λd' m=>h d' (by simp[m])) λo t=>?_;have:=k o t;rw[ia,q.1]at this;exact this
theorem zc{one:Bool}{b:Ev}(J:List Sl->Prop)(g:D->D){Q:List D->List Sl->Prop}(j:J ρ)(h:∀d,d∈ds->∀ρ,J ρ->∃a,cT ρ is one d=some a/\(b a).sat λr f=>g d=r.d/\J f)(k:∀ρ,J ρ->Q (ds.map g) ρ):(turns is one (oR c none) b ds [] ρ).sat Q:=kE J (λd=>some (g d)) j (λd hd ρ j=>by obtain⟨a,e,h1⟩:=h d hd ρ j;refine⟨a,e,?_⟩;rw[oR,R3,if_pos rfl];exact h1.imp λr f q=>⟨by rw[q.1],q.2⟩) λρ j=>by simpa using k ρ j
section
variable{ρ l:List Sl}{a:Sl}{i j:Int}{k m:Nat}{b b':Bool}{s:Str}{d:D}{ds es:List D}{e f:Ev}{x:Option Sl}{c:Call}
@[simp]theorem T9:cN .int .non=false:=rfl
@[simp]theorem WX:cN .int (.bl b)=true:=rfl
@[simp]theorem Us:cN .int (.int i)=true:=rfl
@[simp]theorem Ug:cN .int (.str s)=false:=rfl
@[simp]theorem Vo:cN .int (.tup ds)=false:=rfl
@[simp]theorem S9:cN .int (.lst ds)=false:=rfl
@[simp]theorem P0:cN .bool .non=false:=rfl
@[simp]theorem Rm:cN .bool (.bl b)=true:=rfl
@[simp]theorem Qo:cN .bool (.int i)=false:=rfl
@[simp]theorem Qh:cN .bool (.str s)=false:=rfl
@[simp]theorem Qj:cN .bool (.tup ds)=false:=rfl
@[simp]theorem QF:cN .bool (.lst ds)=false:=rfl
@[simp]theorem Rw:cN .str .non=false:=rfl
@[simp]theorem WD:cN .str (.bl b)=false:=rfl
@[simp]theorem Vm:cN .str (.int i)=false:=rfl
@[simp]theorem Ud:cN .str (.str s)=true:=rfl
@[simp]theorem Ry:cN .str (.tup ds)=false:=rfl
@[simp]theorem Q3:cN .str (.lst ds)=false:=rfl
@[simp]theorem Mh:cN .tuple .non=false:=rfl
@[simp]theorem Qc:cN .tuple (.bl b)=false:=rfl
@[simp]theorem LK:cN .tuple (.int i)=false:=rfl
@[simp]theorem Ls:cN .tuple (.str s)=false:=rfl
@[simp]theorem Ng:cN .tuple (.tup ds)=true:=rfl
@[simp]theorem NK:cN .tuple (.lst ds)=false:=rfl
@[simp]theorem Qd:cN .list .non=false:=rfl
@[simp]theorem Vr:cN .list (.bl b)=false:=rfl
@[simp]theorem Qk:cN .list (.int i)=false:=rfl
@[simp]theorem QD:cN .list (.str s)=false:=rfl
@[simp]theorem Qi:cN .list (.tup ds)=false:=rfl
@[simp]theorem Qa:cN .list (.lst ds)=true:=rfl
@[simp]theorem O9:cN .none .non=true:=rfl
@[simp]theorem Uh:cN .none (.bl b)=false:=rfl
@[simp]theorem PL:cN .none (.int i)=false:=rfl
@[simp]theorem Pa:cN .none (.str s)=false:=rfl
@[simp]theorem Ql:cN .none (.tup ds)=false:=rfl
@[simp]theorem Pn:cN .none (.lst ds)=false:=rfl
@[simp]theorem W5:jz .non=true:=rfl
@[simp]theorem YL:jz (.bl b)=false:=rfl
@[simp]theorem WN:jz (.int i)=false:=rfl
@[simp]theorem W2:jz (.str s)=false:=rfl
@[simp]theorem Xd:jz (.tup ds)=false:=rfl
@[simp]theorem WK:jz (.lst ds)=false:=rfl
@[simp]theorem YT:flat .non=true:=rfl
@[simp]theorem abE:flat (.bl b)=true:=rfl
@[simp]theorem ZK:flat (.int i)=true:=rfl
@[simp]theorem ZP:flat (.str s)=true:=rfl
@[simp]theorem Yd:flat (.tup ds)=false:=rfl
@[simp]theorem Yw:flat (.lst ds)=false:=rfl
@[simp]theorem afp:(R.val d).d=d:=rfl
@[simp]theorem acR:(R.own ds).d=.lst ds:=rfl
@[simp]theorem Yj:zO (.val d)=.val false d:=rfl
@[simp]theorem YW:zO (.own ds)=.own false ds:=rfl
@[simp]theorem Wv:wU (.val d)=.dat d:=rfl
@[simp]theorem V2:wU (.own ds)=.tmp ds:=rfl
@[simp]theorem acd:iY (.int i)=some i:=rfl
@[simp]theorem aeh:yI (.bl b)=some b:=rfl
@[simp]theorem Xk:items (.lst ds)=some ds:=rfl
@[simp]theorem Wq:items (.tup ds)=some ds:=rfl
@[simp]theorem TX:Tq (.tup ds)=some ds:=rfl
@[simp]theorem RG:zT (.lst ds)=some ds:=rfl
@[simp]theorem ace:sX .add=rG:=rfl
@[simp]theorem abQ:sX .sub=wH:=rfl
@[simp]theorem aba:sX .mul=mY:=rfl
@[simp]theorem ZQ:sX .fdiv=qD:=rfl
@[simp]theorem aaJ:sX .mod=yd:=rfl
@[simp]theorem aaQ:sX .pow=ye:=rfl
@[simp]theorem Wl:rG (.int i) (.int j)=some (.val (.int (i+j))):=rfl
@[simp]theorem WY:rG (.lst ds) (.lst es)=if ds.length+es.length<=lim then some (.own (ds++es))else none:=rfl
@[simp]theorem Ww:rG (.tup ds) (.tup es)=if ds.length+es.length<=lim then some (.val (.tup (ds++es)))else none:=rfl
@[simp]theorem Xc:wH (.int i) (.int j)=some (.val (.int (i-j))):=rfl
@[simp]theorem V7:mY (.int i) (.int j)=if((-18446744073709551616<i/\i<18446744073709551616)\/(-18446744073709551616<j/\j<18446744073709551616))then some (.val (.int (i*j)))else none:=rfl
@[simp]theorem R0:qD (.int i) (.int j)=if 0<j/\j<1606938044258990275541962092341162602522202993782792835301376 then some (.val (.int (i/j)))else none:=rfl
@[simp]theorem V8:yd (.int i) (.int j)=if 0<j then some (.val (.int (i%j)))else none:=rfl
@[simp]theorem V0:ye (.int i) (.int j)=if 0<=j/\j<=1000/\i.natAbs<18446744073709551616 then some (.val (.int (i^j.toNat)))else none:=rfl
@[simp]theorem ab1:Lp (.lst ds) (.int i)=(at' ds i).map .val:=rfl
@[simp]theorem abK:Lp (.tup ds) (.int i)=(at' ds i).map .val:=rfl
@[simp]theorem Ym:Gu (.int i)=some (.val (.int (-i))):=rfl
@[simp]theorem Wm:cm .eq (.int i) (.int j)=some (i==j):=rfl
@[simp]theorem W6:cm .ne (.int i) (.int j)=some (!(i==j)):=rfl
@[simp]theorem Z9:cm .eq (.bl b) (.bl b')=some (b==b'):=rfl
@[simp]theorem Zh:cm .ne (.bl b) (.bl b')=some (!(b==b')):=rfl
@[simp]theorem Wk:cm .lt (.int i) (.int j)=some (decide (i<j)):=rfl
@[simp]theorem Xm:cm .le (.int i) (.int j)=some (decide (i<=j)):=rfl
@[simp]theorem Wu:cm .gt (.int i) (.int j)=some (decide (j<i)):=rfl
@[simp]theorem V1:cm .ge (.int i) (.int j)=some (decide (j<=i)):=rfl
@[simp]theorem aeZ:cm .isN d .non=some (jz d):=rfl
@[simp]theorem abF:cm .OJ d .non=some (!jz d):=rfl
@[simp]theorem Pr:blt .len [.lst ds]=some (.val (.int ds.length)):=rfl
@[simp]theorem Qx:blt .len [.tup ds]=some (.val (.int ds.length)):=rfl
@[simp]theorem N6:blt .list [.lst ds]=some (.own ds):=rfl
@[simp]theorem M7:blt .list [.tup ds]=some (.own ds):=rfl
@[simp]theorem KY:blt .tuple [.lst ds]=some (.val (.tup ds)):=rfl
@[simp]theorem KZ:blt .tuple [.tup ds]=some (.val (.tup ds)):=rfl
@[simp]theorem aab:blt .min2 [.int i,.int j]=some (.val (.int (if j<i then j else i))):=rfl
@[simp]theorem Y5:blt .max2 [.int i,.int j]=some (.val (.int (if i<j then j else i))):=rfl
@[simp]theorem abL:blt .all [.lst ds]=(ds.mapM yI).map λbs=>.val (.bl (bs.all id)):=rfl
@[simp]theorem W0:isVar (.var k)=some k:=rfl
@[simp]theorem abj:pk (a::l) k=match(a::l)[k]?with|some (.val _ d)=>some d|some (.own _ ds)=>some (.lst ds)|some (.lent ds)=>some (.lst ds)|_=>none:=rfl
@[simp]theorem ZC:zJ (a::l) k=match pk (a::l) k with|some (.lst ds)=>some ds|_=>none:=rfl
@[simp]theorem Yl:cP (some k) e ρ=lift (pk ρ k) ρ:=rfl
@[simp]theorem YH:cP none e ρ=(e ρ).bind λr ρ=>.ok r.d ρ:=rfl
@[simp]theorem WL{y:Option Nat}:iD (some k) e y f ρ=(lift (pk ρ k) ρ).bind λ_ ρ=>(cP y f ρ).bind λy ρ=>(lift (pk ρ k) ρ).bind λx ρ=>.ok (x,y) ρ:=rfl
@[simp]theorem V5{y:Option Nat}:iD none e y f ρ=(cP none e ρ).bind λx ρ=>(cP y f ρ).bind λy ρ=>.ok (x,y) ρ:=rfl
@[simp]theorem Xa{es:List D}:fc (.own b ds) (some (.own b' es))=.own b es:=rfl
@[simp]theorem V4:fc (.own b ds) (some (.val b' d))=.val b d:=rfl
@[simp]theorem JW:fc a none=a:=by cases a<;>rfl
@[simp]theorem Er:fc (.val b d) x=.val b d:=by cases x<;>rfl
@[simp]theorem Ws:fc .aQ x=.aQ:=by cases x<;>rfl
@[simp]theorem yK:fc (.lent ds) x=.lent ds:=by cases x<;>rfl
@[simp]theorem YJ:cT ρ [k] true d=put ρ k (.val false d):=rfl
@[simp]theorem VN{is:List Nat}:cT ρ is false (.tup ds)=putAll ρ is ds:=by cases is<;>rfl
@[simp]theorem Vw:srcOf none e ρ=(e ρ).bind λr ρ=>lift (items r.d) ρ:=rfl
@[simp]theorem U4:srcOf (some k) e (a::l)=match(a::l)[k]?with|some (.val _ d)=>lift (items d) (a::l)|some (.own _ ds)=>.ok ds ((a::l).set k (.lent ds))|some (.lent ds)=>.ok ds (a::l)|_=>.stuck:=rfl
@[simp]theorem Qq{g:List Sl}:aY g none ρ=ρ:=rfl
@[simp]theorem PB:aY (a::l) (some k) ρ=match(a::l)[k]?with|some (.own b ds)=>ρ.set k (.own b ds)|_=>ρ:=rfl
@[simp]theorem YZ{s:Sl}:put (a::l) k s=match(a::l)[k]?with|some t=>if fr t=true then some ((a::l).set k s)else none|none=>none:=TJ ..
@[simp]theorem Rb:putAll ρ [] []=some ρ:=rfl
@[simp]theorem QB{is:List Nat}:putAll ρ (k::is) (d::ds)=(put ρ k (.val false d)).bind λρ=>putAll ρ is ds:=rfl
end
@[simp]theorem at_0{a:Type}{b:a}{l:List a}:at' (b::l) 0=some b:=by unfold at' jE;rw[if_pos (by decide),if_pos (by simp only[ea];omega)];rfl
@[simp]theorem at_1{a:Type}{e b:a}{l:List a}:at' (e::b::l) 1=some b:=by unfold at' jE;rw[if_pos (by decide),if_pos (by simp only[ea];omega)];rfl
@[simp]theorem at_2{a:Type}{e f b:a}{l:List a}:at' (e::f::b::l) 2=some b:=by unfold at' jE;rw[if_pos (by decide),if_pos (by simp only[ea];omega)];rfl
@[simp]theorem at_3{a:Type}{e f g b:a}{l:List a}:at' (e::f::g::b::l) 3=some b:=by unfold at' jE;rw[if_pos (by decide),if_pos (by simp only[ea];omega)];rfl
@[simp]theorem at_4{a:Type}{e f g h b:a}{l:List a}:at' (e::f::g::h::b::l) 4=some b:=by unfold at' jE;rw[if_pos (by decide),if_pos (by simp only[ea];omega)];rfl
@[simp]theorem at_5{a:Type}{e f g h i b:a}{l:List a}:at' (e::f::g::h::i::b::l) 5=some b:=by unfold at' jE;rw[if_pos (by decide),if_pos (by simp only[ea];omega)];rfl
@[simp]theorem at_6{a:Type}{e f g h i j b:a}{l:List a}:at' (e::f::g::h::i::j::b::l) 6=some b:=by unfold at' jE;rw[if_pos (by decide),if_pos (by simp only[ea];omega)];rfl
@[simp]theorem at_7{a:Type}{e f g h i j k b:a}{l:List a}:at' (e::f::g::h::i::j::k::b::l) 7=some b:=by unfold at' jE;rw[if_pos (by decide),if_pos (by simp only[ea];omega)];rfl
theorem vh{a:Type}{l:List a}{i:Int}(h:0<=i)(h':i<l.length):at' l i=l[i.toNat]?:=by unfold at' jE;rw[if_pos h,if_pos h'];rfl
theorem J8{a:Type}{l:List a}{k:Nat}(h':k<l.length):at' l (k:Int)=l[k]?:=by rw[vh (by omega) (by omega)];simp
@[simp]theorem WR{d:D}:isVar (.con d)=none:=rfl
@[simp]theorem R8{x:Str}{d:D}:isVar (.glob x d)=none:=rfl
@[simp]theorem Wr{o:Op}{p q:P}:isVar (.bin o p q)=none:=rfl
@[simp]theorem Wj{p:P}:isVar (.neg p)=none:=rfl
@[simp]theorem Wg{p:P}:isVar (.not p)=none:=rfl
@[simp]theorem Xb{p q:P}:isVar (.and p q)=none:=rfl
@[simp]theorem Yn{p q:P}:isVar (.or p q)=none:=rfl
@[simp]theorem W3{o:Cm}{p q:P}:isVar (.cmp o p q)=none:=rfl
@[simp]theorem Qg{o a:Cm}{p q r:P}:isVar (.chain o a p q r)=none:=rfl
@[simp]theorem W4{p q r:P}:isVar (.QL p q r)=none:=rfl
@[simp]theorem Wd{as:List P}:isVar (.tup as)=none:=rfl
@[simp]theorem We{as:List P}:isVar (.lst as)=none:=rfl
@[simp]theorem Xj{p q:P}:isVar (.idx p q)=none:=rfl
@[simp]theorem Qf{p q r:P}:isVar (.slice p q r)=none:=rfl
@[simp]theorem Uy{f:Nat}{as:List P}:isVar (.call f as)=none:=rfl
@[simp]theorem Wb{b:Zu}{as:List P}:isVar (.blt b as)=none:=rfl
@[simp]theorem R4{a:List Ty}{p:P}:isVar (.inst a p)=none:=rfl
@[simp]theorem Ue{p e:P}{n:Nat}{is:List Nat}{one:Bool}{t:Option P}:isVar (.comp p n is one t e)=none:=rfl
@[simp]theorem Xi{p q:P}:isVar (.rY p q)=none:=rfl
@[simp]theorem Xe{p:P}:isVar (.enm p)=none:=rfl
@[simp]theorem Xg{p q:P}:isVar (.zip p q)=none:=rfl
noncomputable def mz(c:Call)(is:List Nat)(one:Bool)(a:Option P)(b:P)(ds:List D)(ρ:List Sl):Res (List D):=turns is one (oR c a) (ev c b) ds [] ρ
@[simp]theorem acj{c:Call}{src f:P}{n:Nat}{is:List Nat}{one:Bool}{b:Option P}{ρ:List Sl}:ev c (.comp src n is one b f) ρ=(srcOf (isVar src) (ev c src) ρ).bind λds a=>if ds.length<=lim then(mz c is one b f ds (a++b_ n .aQ)).bind λxs e=>.ok (.own xs) (aY ρ (isVar src) (e.take a.length))else .stuck:=(rfl)
noncomputable def Iv(c:Call)(n:Nat)(t:P)(body:List S)(k:Nat)(ρ:List Sl):Res Fl:=sV (iR (ev c t)) (iB c n body) k ρ
@[simp]theorem acT{c:Call}{n:Nat}{t:P}{body:List S}{ρ:List Sl}:ex c n (.whl t body) ρ=Iv c n t body n ρ:=(rfl)
theorem vm{b e h:Type}{x:Res e}{f:e->List Sl->Res b}{g:b->List Sl->Res h}:(x.bind f).bind g=x.bind λa ρ=>(f a ρ).bind g:=by cases x<;>rfl
@[simp]theorem acU{Γ:Tab}{w n i:Nat}{args:List Sl}{b:Type}{f:R->List Sl->Res b}{Q:b->List Sl->Prop}:((run Γ w n i args).bind f).sat Q=(run Γ w n i args).sat λa ρ=>(f a ρ).sat Q:=cB
@[simp]theorem aev{Γ:Tab}{w n i:Nat}{args:List Sl}{b e:Type}{f:R->List Sl->Res b}{g:b->List Sl->Res e}:((run Γ w n i args).bind f).bind g=(run Γ w n i args).bind λa ρ=>(f a ρ).bind g:=vm
@[simp]theorem aa7{c:Call}{is:List Nat}{one:Bool}{b:Option P}{e:P}{ds:List D}{ρ:List Sl}{g:Type}{f:List D->List Sl->Res g}{Q:g->List Sl->Prop}:((mz c is one b e ds ρ).bind f).sat Q=(mz c is one b e ds ρ).sat λa ρ=>(f a ρ).sat Q:=cB
@[simp]theorem abo{c:Call}{is:List Nat}{one:Bool}{b:Option P}{e:P}{ds:List D}{ρ:List Sl}{h i:Type}{f:List D->List Sl->Res h}{g:h->List Sl->Res i}:((mz c is one b e ds ρ).bind f).bind g=(mz c is one b e ds ρ).bind λa ρ=>(f a ρ).bind g:=vm
@[simp]theorem adu{is:List Nat}{one:Bool}{b:List Sl->Res Fl}{ds:List D}{ρ:List Sl}{e:Type}{f:Fl->List Sl->Res e}{Q:e->List Sl->Prop}:((iK is one b ds ρ).bind f).sat Q=(iK is one b ds ρ).sat λa ρ=>(f a ρ).sat Q:=cB
@[simp]theorem aaW{b e:Type}{p:Prop}[Decidable p]{a:e}{ρ:List Sl}{f:e->List Sl->Res b}{Q:b->List Sl->Prop}:((lift (if p then some a else none) ρ).bind f).sat Q=(p/\(f a ρ).sat Q):=by by_cases h:p<;>simp[h,lift,Res.bind]
@[simp]theorem abM{b e h:Type}{p:Prop}[Decidable p]{a:e}{ρ:List Sl}{f:e->List Sl->Res b}{g:b->List Sl->Res h}:((lift (if p then some a else none) ρ).bind f).bind g=(lift (if p then some a else none) ρ).bind λa ρ=>(f a ρ).bind g:=vm
@[simp]theorem bb_ite{b a:Type}{p:Prop}[Decidable p]{x y:Res a}{f:a->List Sl->Res b}:(if p then x else y).bind f=if p then x.bind f else y.bind f:=by by_cases h:p<;>simp[h]
@[simp]theorem aeC{c:Call}{n k:Nat}{t:P}{b:List S}{ρ:List Sl}{e:Type}{f:Fl->List Sl->Res e}{Q:e->List Sl->Prop}:((Iv c n t b k ρ).bind f).sat Q=(Iv c n t b k ρ).sat λa ρ=>(f a ρ).sat Q:=cB
@[simp]theorem aei{b e:Type}{a:b}{ρ:List Sl}{f:b->List Sl->Res e}:(Res.ok a ρ).bind f=f a ρ:=rfl
@[simp]theorem W7{a b:Type}{f:a->List Sl->Res b}:(Res.stuck:Res a).bind f=.stuck:=rfl
@[simp]theorem ZR{b:Type}{a:b}{ρ:List Sl}:lift (some a) ρ=.ok a ρ:=rfl
@[simp]theorem Zi{a:Type}{ρ:List Sl}:lift (none:Option a) ρ=.stuck:=rfl
noncomputable def DY:List Sl->Nat->Sl->List Sl|[],_,_=>[]|t::ρ,0,s=>fc t (some s)::ρ|t::ρ,k+1,s=>t::DY ρ k s
noncomputable def bk:List Arg->List Sl->List Sl->List Sl|.fM k::as,s::ss,ρ=>bk as ss (DY ρ k s)|.dat _::as,_::ss,ρ=>bk as ss ρ|.tmp _::as,_::ss,ρ=>bk as ss ρ|_,_,ρ=>ρ
section
variable{t s:Sl}{ρ ss:List Sl}{k:Nat}{as:List Arg}{d:D}{ds:List D}
@[simp]theorem agA:DY (t::ρ) 0 s=fc t (some s)::ρ:=rfl
@[simp]theorem agZ:DY (t::ρ) (k+1) s=t::DY ρ k s:=rfl
@[simp]theorem Q7:bk (.fM k::as) (s::ss) ρ=bk as ss (DY ρ k s):=rfl
@[simp]theorem RX:bk (.dat d::as) (s::ss) ρ=bk as ss ρ:=rfl
@[simp]theorem Rg:bk (.tmp ds::as) (s::ss) ρ=bk as ss ρ:=rfl
@[simp]theorem aek:bk [] ss ρ=ρ:=rfl
end
theorem zG{s:Sl}:∀{ρ:List Sl}{k j:Nat},(DY ρ k s)[j]?=(ρ[j]?).map λt=>if j=k then fc t (some s)else t|[],_,_=>by simp[DY]|t::ρ,0,0=>by simp[DY]|t::ρ,0,j+1=>by simp[DY]|t::ρ,k+1,0=>by simp[DY]|t::ρ,k+1,j+1=>by have:=zG (s:=s) (ρ:=ρ) (k:=k) (j:=j);simp only[DY,fk,this];congr 1;funext t;simp
theorem wV{as:List Arg}{ss:List Sl}:∀{ρ:List Sl}{i j:Nat},(dC as ss i ρ)[j]?=(ρ[j]?).map λt=>fc t (bh (i+j) as ss)|[],_,_=>by simp[dC]|t::ρ,i,0=>by simp[dC]|t::ρ,i,j+1=>by have:=wV (as:=as) (ss:=ss) (ρ:=ρ) (i:=i+1) (j:=j);simp only[dC,fk,this];rw[show i+1+j=i+(j+1)by omega]
noncomputable def stb(t:Sl):Prop:=∀x,fc t x=t
noncomputable def T7(ρ:List Sl):List Arg->Prop|[]=>True|.fM k::as=>(Arg.fM k∈as->∀t,ρ[k]?=some t->stb t)/\T7 ρ as|_::as=>T7 ρ as
theorem pZ{ρ:List Sl}:∀{as:List Arg}{a:List Sl},T7 ρ as->(∀k,Arg.fM k∈as->∀t,a[k]?=some t->ρ[k]?=some t\/stb t)->T7 a as
 |[],_,_,_=>trivial|.fM k::as,a,h,g=>⟨λf t ht=>by
  rcases g k (by simp) t ht with e|e;.exact h.1 f t e
  .exact e,pZ h.2 λj b=>g j (by simp[b])⟩|.dat _::as,a,h,g=>pZ (as:=as) h λj b=>g j (by simp[b])|.tmp _::as,a,h,g=>pZ (as:=as) h λj b=>g j (by simp[b])
theorem mJ{k:Nat}:∀{as:List Arg}{ss:List Sl},Arg.fM k∉as->bh k as ss=none|[],_,_=>by unfold bh;rfl|.fM j::as,[],_=>rfl|.dat _::as,[],_=>rfl|.tmp _::as,[],_=>rfl|.fM j::as,s::ss,h=>by simp only[de,Arg.fM.injEq,not_or]at h;rw[bh,if_neg (λe=>h.1 e.symm),mJ h.2]|.dat _::as,s::ss,h=>by simp only[de,not_or]at h;rw[bh,mJ h.2]|.tmp _::as,s::ss,h=>by simp only[de,not_or]at h;rw[bh,mJ h.2]
theorem Cg:∀{as:List Arg}{ss ρ:List Sl},T7 ρ as->∀j,(bk as ss ρ)[j]?=(ρ[j]?).map λt=>fc t (bh j as ss)
 |[],ss,ρ,_,j=>by cases ss<;>simp[bh]|.fM k::as,[],ρ,_,j=>by rw[show bk (.fM k::as) [] ρ=ρ from rfl];simp[bh]|.dat d::as,[],ρ,_,j=>by rw[show bk (.dat d::as) [] ρ=ρ from rfl];simp[bh]|.tmp d::as,[],ρ,_,j=>by rw[show bk (.tmp d::as) [] ρ=ρ from rfl];simp[bh]|.dat _::as,s::ss,ρ,h,j=>by rw[RX,bh];exact Cg (as:=as) h j|.tmp _::as,s::ss,ρ,h,j=>by rw[Rg,bh];exact Cg (as:=as) h j|.fM k::as,s::ss,ρ,h,j=>by
   have b:T7 (DY ρ k s) as:=pZ h.2 λi hi t ht=>by rw[zG]at ht;cases e:ρ[i]?with|none=>rw[e]at ht;cases ht|some t0=>
      rw[e]at ht;by_cases c:i=k;.subst c;have hs:=h.1 hi t0 e;simp[hs (some s)]at ht;exact .inl (by rw[ht])
      .simp[c]at ht;exact .inl (by rw[ht])
   rw[Q7,Cg b j,zG,bh];cases e:ρ[j]?with|none=>rfl|some t0=>
     simp only[kf];by_cases c:j=k
     . subst c;rw[if_pos rfl,if_pos rfl];by_cases a:Arg.fM j∈as;.have hs:=h.1 a t0 e;rw[hs (some s),hs]
       .rw[mJ a,JW]
     .rw[if_neg c,if_neg (λz=>c z.symm)]
theorem gj{ρ:List Sl}{k:Nat}{b:Bool}{ds:List D}(e:ρ[k]?=some (.own b ds)):∀{as:List Arg}{u:List Nat}{r:List Sl},k∈u->cg ρ as u=some r->Arg.fM k∉as
 |[],_,_,_,_=>by simp|.dat _::as,u,r,a,h=>by simp only[cg,fh]at h;obtain⟨f,h,_⟩:=h;simp[gj e a h]|.tmp _::as,u,r,a,h=>by simp only[cg,fh]at h;obtain⟨f,h,_⟩:=h;simp[gj e a h]|.fM i::as,u,r,a,h=>by
   rw[cg]at h;have hi:i≠k:=by rintro rfl;rw[e]at h;simp[a]at h
   have:Arg.fM k∉as:=by
    split at h;.obtain⟨f,h,_⟩:=fh.mp h;exact gj e a h
    . split at h;.cases h
      .obtain⟨f,h,_⟩:=fh.mp h;exact gj e (by simp[a]) h
    . split at h;.cases h
      .obtain⟨f,h,_⟩:=fh.mp h;exact gj e (by simp[a]) h
    .cases h
   simp[this];exact λz=>hi z.symm
theorem gh{ρ:List Sl}:∀{as:List Arg}{u:List Nat}{r:List Sl},cg ρ as u=some r->T7 ρ as
 |[],_,_,_=>trivial|.dat _::as,u,r,h=>by obtain⟨a,h,_⟩:=fh.mp h;exact gh (as:=as) h|.tmp _::as,u,r,h=>by obtain⟨a,h,_⟩:=fh.mp h;exact gh (as:=as) h|.fM i::as,u,r,h=>by
   rw[cg]at h;split at h;.rename_i b d q;obtain⟨a,h,_⟩:=fh.mp h;exact⟨λ_ t ht=>by rw[q]at ht;cases ht;exact λx=>Er,gh h⟩
   . rename_i b ds q;split at h;.cases h
     .obtain⟨a,h,_⟩:=fh.mp h;exact⟨λe=>absurd e (gj q (by simp) h),gh h⟩
   . rename_i ds q;split at h;.cases h
     .obtain⟨a,h,_⟩:=fh.mp h;exact⟨λ_ t ht=>by rw[q]at ht;cases ht;exact λx=>yK,gh h⟩
   .cases h
theorem Ys{as:List Arg}{ss r:List Sl}{u:List Nat}(h:cg ρ as u=some r):dC as ss 0 ρ=bk as ss ρ:=by apply List.ext_getElem?;intro j;rw[wV,Cg (gh h),nL]
@[simp]theorem V9{c:Call}{k:Nat}{as:List Arg}{ρ:List Sl}:qz c k as ρ=match cg ρ as []with|none=>.stuck|some args=>(c k args).bind λr a=>.ok r (bk as a ρ):=by unfold qz;cases e:cg ρ as []with|none=>rfl|some args=>simp only[<-Ys (r:=args) e];cases c k args<;>rfl
theorem bw{one:Bool}{a:P}(J:List Sl->Prop)(g:D->D){Q:List D->List Sl->Prop}(j:J ρ)(h:∀d,d∈ds->∀ρ,J ρ->∃b,cT ρ is one d=some b/\(ev c a b).sat λr e=>g d=r.d/\J e)(k:∀ρ,J ρ->Q (ds.map g) ρ):(mz c is one none a ds ρ).sat Q:=zc J g j h k
theorem tG{one:Bool}{i t:P}(J:List Sl->Prop)(g:D->Option D){Q:List D->List Sl->Prop}(j:J ρ)(h:∀d,d∈ds->∀ρ,J ρ->∃a,cT ρ is one d=some a/\(ev c t a).sat λr f=>∃b,r.d=.bl b/\if b=true then(ev c i f).sat λr l=>g d=some r.d/\J l else g d=none/\J f)(k:∀ρ,J ρ->Q (ds.filterMap g) ρ):(mz c is one (some t) i ds ρ).sat Q:=kE J g j (λd hd ρ j=>by obtain⟨a,e,h1⟩:=h d hd ρ j;refine⟨a,e,?_⟩;rw[oR,iR,cB];refine h1.imp λr f⟨b,e,q⟩=>?_;rw[e];exact q) λρ j=>by simpa using k ρ j
theorem jr{c:Call}{n:Nat}{t:P}{body:List S}(J:Nat->List Sl->Prop){Q:Fl->List Sl->Prop}(h:∀m ρ,J m ρ->(ev c t ρ).sat λr a=>∃b,r.d=.bl b/\if b=true then(iB c n body a).sat (fQ (λf=>∃g,g<m/\J g f) Q)else Q .next a):∀{k m:Nat}{ρ:List Sl},m<k->J m ρ->(Iv c n t body k ρ).sat Q|0,m,ρ,i,_=>absurd i (Nat.not_lt_zero _)|k+1,m,ρ,i,j=>by unfold Iv;rw[sV,cB,iR,cB];refine(h m ρ j).imp λr a⟨b,e,q⟩=>?_;rw[e];show(if b=true then _ else _:Res Fl).sat Q;cases b with|false=>rw[if_neg (by simp)]at q;rw[if_neg (by simp)];exact q|true=>rw[if_pos rfl]at q;rw[if_pos rfl,cB];refine q.imp λfl f q=>?_;cases fl with|next=>obtain⟨g,l,o⟩:=q;exact jr J h (d_ l (Nat.lt_succ_iff.mp i)) o|cont=>obtain⟨g,l,o⟩:=q;exact jr J h (d_ l (Nat.lt_succ_iff.mp i)) o|brk=>exact q|ret v=>exact q
@[simp]theorem ag0:type_of%@HH.E1:=@HH.E1
@[simp]theorem agS:type_of%@HH.E2:=@HH.E2
@[simp]theorem ahg:type_of%@HH.E3:=@HH.E3
@[simp]theorem agM:type_of%@HH.E4:=@HH.E4
@[simp]theorem ahc:type_of%@HH.E5:=@HH.E5
@[simp]theorem ahm:type_of%@HH.E6:=@HH.E6
@[simp]theorem agN:type_of%@HH.E7:=@HH.E7
@[simp]theorem ag9:type_of%@HH.E8:=@HH.E8
@[simp]theorem agK:type_of%@HH.E9:=@HH.E9
@[simp]theorem afF:type_of%@HH.E10:=@HH.E10
@[simp]theorem afi:type_of%@HH.E11:=@HH.E11
@[simp]theorem ae9:type_of%@HH.E12:=@HH.E12
@[simp]theorem afA:type_of%@HH.E13:=@HH.E13
@[simp]theorem adw:type_of%@HH.E14:=@HH.E14
@[simp]theorem aeP:type_of%@HH.E15:=@HH.E15
@[simp]theorem ael:type_of%@HH.E16:=@HH.E16
@[simp]theorem ae3:type_of%@HH.E17:=@HH.E17
@[simp]theorem afh:type_of%@HH.E18:=@HH.E18
@[simp]theorem abB:type_of%@HH.ZG:=@HH.ZG
@[simp]theorem adD:type_of%@HH.E19:=@HH.E19
@[simp]theorem adV:type_of%@HH.E21:=@HH.E21
@[simp]theorem adN:type_of%@HH.E22:=@HH.E22
@[simp]theorem aee:type_of%@HH.E23:=@HH.E23
@[simp]theorem agx:type_of%@HH.X1:=@HH.X1
@[simp]theorem agy:type_of%@HH.X2:=@HH.X2
@[simp]theorem agJ:type_of%@HH.X3:=@HH.X3
@[simp]theorem ag7:type_of%@HH.X4:=@HH.X4
@[simp]theorem ahl:type_of%@HH.X5:=@HH.X5
@[simp]theorem agB:type_of%@HH.X6:=@HH.X6
@[simp]theorem ahn:type_of%@HH.X7:=@HH.X7
@[simp]theorem agY:type_of%@HH.X8:=@HH.X8
@[simp]theorem agG:type_of%@HH.X9:=@HH.X9
@[simp]theorem aeu:type_of%@HH.X10:=@HH.X10
@[simp]theorem adm:type_of%@HH.X11:=@HH.X11
@[simp]theorem adf:type_of%@HH.X12:=@HH.X12
@[simp]theorem adZ:type_of%@HH.X13:=@HH.X13
@[simp]theorem aej:type_of%@HH.X14:=@HH.X14
@[simp]theorem aex:type_of%@HH.iR.eq_1:=@HH.iR.eq_1
@[simp]theorem ad9:type_of%@HH.evs.eq_1:=@HH.evs.eq_1
@[simp]theorem adA:type_of%@HH.evs.eq_2:=@HH.evs.eq_2
@[simp]theorem ae7:type_of%@HH.yF.eq_1:=@HH.yF.eq_1
@[simp]theorem aec:type_of%@HH.yF.eq_2:=@HH.yF.eq_2
@[simp]theorem afd:type_of%@HH.oR.eq_1:=@HH.oR.eq_1
@[simp]theorem ad1:type_of%@HH.oR.eq_2:=@HH.oR.eq_2
@[simp]theorem ae1:type_of%@HH.rQ.eq_1:=@HH.rQ.eq_1
@[simp]theorem Z7:type_of%@HH.cg.eq_1:=@HH.cg.eq_1
@[simp]theorem Zt:type_of%@HH.cg.eq_2:=@HH.cg.eq_2
@[simp]theorem Yu:type_of%@HH.cg.eq_3:=@HH.cg.eq_3
@[simp]theorem Ye:type_of%@HH.cg.eq_4:=@HH.cg.eq_4
@[simp]theorem Y7:type_of%@HH.dC.eq_1:=@HH.dC.eq_1
@[simp]theorem Xy:type_of%@HH.dC.eq_2:=@HH.dC.eq_2
@[simp]theorem Xz:type_of%@HH.bh.eq_1:=@HH.bh.eq_1
@[simp]theorem YK:type_of%@HH.bh.eq_2:=@HH.bh.eq_2
@[simp]theorem aac:type_of%@HH.bh.eq_3:=@HH.bh.eq_3
@[simp]theorem YM:type_of%@HH.bh.eq_4:=@HH.bh.eq_4
end HH
end
section
namespace HH
open PySem L2 PySem.Spec PyProof.Rows
section
variable{X:Cx}{c:Call}{a b:dr}{pa pb:P}{pos:Pos}
theorem rO:∀{e:List D}{ns:List Int},e.mapM iY=some ns->e=ns.map D.int|[],ns,h=>by simp at h;subst h;rfl|d::e,ns,h=>by simp[List.mapM_cons,Option.bind_eq_some_iff]at h;obtain⟨i,f,j,g,rfl⟩:=h;rw[cZ f,rO g];rfl
theorem jN{K:PySem.W.Frag}{F:Hp}:∀{ns:List Int}{ys:List V},aH K F ys (ns.map D.int)->ys=ns.map V.int|[],ys,h=>by rw[h.fV];rfl|n::ns,ys,h=>by obtain⟨v,r,rfl,h1,t⟩:=h.cL;rw[Rep]at h1;rw[h1,jN t];rfl
theorem vR{ns:List Int}{f:List aX}(h:Vals (ns.map V.int) f){i:Nat}{v:aX}(e:f.toArray[i]?=some v):∃t,v=.int (ns.getD i 0) t:=by
 have e:f[i]?=some v:=by simpa using e
 have hi:i<f.length:=(dJ e).1;have k:=h.length;rw[dy]at k;have g:(ns.map V.int)[i]?=some (.int (ns.getD i 0)):=by rw[eR,fv (by omega)];simp[jv,show i<ns.length by omega]
 obtain⟨w,j,l⟩:=h.get g;rw[e]at j;cases j;exact l
theorem walked{h:List (bd×Obj)}{σ:L2.St}{H:Hp}{s:a_}{p:bd}{ys:List V}(I:L2.Inv X h σ H s)(hc:X.calm=true)(hq:eO X.K H p ys\/iM X.K H p ys){Q:aX->a_->Prop}{E:aX->a_->Prop}(k:∀(it:bd)(g:List aX)(e:a_)(St:Nat->eA->Prop),Vals ys g->Walks X.prog X.w X.A.in1 it [it,p] [it] g.toArray.size (λi v=>g.toArray[i]?=some v) St->St 0 e.heap->(∀ b ∈[it,p],b<e.heap.objs.size)->(∀h' m,(∀b o,b∉[it]->e.heap.get? b=some o->h'.get? b=some o)->L2.Inv X h σ H {e with heap:=h',toks:=m})->Q (.ref it) e):cy (cS X.prog X.w) X.A.in1 (pf (.ref p)) Q E s:=by
 have r:X.A.in1.handled=none:=I.ok.hd hc;rcases hq with hq|hq
 . obtain⟨g,n,f,hz⟩:=I.list hq;have f:=f.isList;have j:p<s.heap.objs.size:=by obtain⟨o,h1,_⟩:=f;exact dl h1
   refine gy f (k s.heap.objs.size g _ _ n (Walks.list r s.heap.objs.size p (dS j) g.toArray) ⟨⟨_,cw _ rfl,rfl,rfl⟩,?_⟩ ?_ λh' m kp=>?_);.obtain⟨o,h1,q⟩:=f;exact⟨o,dM h1,q⟩
   . intro b l;obtain⟨o,h1,_⟩:=f;simp at l;rcases l with rfl|rfl;.exact dl (cw _ rfl)
     .exact dl (dM h1)
   .exact I.kept (λb o z=>kp b o (by simp;exact dS (dl z)) (dM z))
 . obtain⟨g,n,f,hz⟩:=I.tuple hq;have j:p<s.heap.objs.size:=by obtain⟨o,h1,_⟩:=f;exact dl h1
   refine fi f (k s.heap.objs.size g _ _ n (Walks.tuple r s.heap.objs.size p (dS j) g.toArray) ⟨⟨_,cw _ rfl,rfl,rfl⟩,?_⟩ ?_ λh' m kp=>?_);.obtain⟨o,h1,q⟩:=f;exact⟨o,dM h1,q⟩
   . intro b l;obtain⟨o,h1,_⟩:=f;simp at l;rcases l with rfl|rfl;.exact dl (cw _ rfl)
     .exact dl (dM h1)
   .exact I.kept (λb o z=>kp b o (by simp;exact dS (dl z)) (dM z))
theorem oO(ns:List Int):∀k,k<=ns.length->preSum (λi=>ns.getD i 0) k=(ns.take k).sum|0,_=>by simp[preSum]|k+1,h=>by rw[preSum,oO ns k (by omega),List.take_succ,List.sum_append];simp[jv,show k<ns.length by omega]
theorem aaa(hc:X.calm=true):dN X (.builtin "sum") (Mp X.K λx=>blt .sum [x]):=by
 rintro g s σ H xs h Q I r⟨x,o,F,d,q,sm,t,he,k⟩;obtain⟨ns,w,he⟩:=map_some (show((items d).bind λj=>j.mapM iY).map _=some q from he);subst he;obtain⟨j,y,z⟩:=cJ w;obtain⟨p,ys,rfl,A,l⟩:=t.items sm y;rw[rO z]at l;have B:=jN l;subst o;obtain⟨u,rfl,C⟩:=r.one;cases C;refine call_sum_walkG (walked I hc A λit h m St n W h0 E kp=>?_);subst B;have f:h.toArray.size=ns.length:=by rw[cx,<-n.length,dy]
 refine⟨it,_,_,_,_,St,λi=>ns.getD i 0,rfl,W,h0,E,λi v e=>vR n e,λh' G t' J=>?_⟩;rw[f,oO ns _ (dw),List.take_length];exact⟨.int _,H,kp h' G J,⟨t',rfl⟩,cF.dm sm (bO _) k⟩
theorem Io{ns:List Int}{m:Int}(k:ns.min?=some m):ns.getD (argBest (λi j=>decide (ns.getD i 0<ns.getD j 0)) (ns.length-1)) 0=m:=by
 have h:ns≠[]:=by rintro rfl;simp at k
 have r:0<ns.length:=List.length_pos_iff.mpr h;obtain⟨h1,n⟩:=argBest_lt (λi=>ns.getD i 0) (ns.length-1);have l:=nX.mp k;generalize argBest (λi j=>decide (ns.getD i 0<ns.getD j 0)) (ns.length-1)=j at*;have o:j<ns.length:=by omega
 have f:ns.getD j 0∈ns:=by simp[jv,o]
 obtain⟨q,p,e⟩:=kc l.1;have g:=n q (by omega);simp only[jv,fv p,Option.getD_some]at g;rw[e]at g;have s:=l.2 _ f;have g:ns.getD j 0<=m:=g;omega
theorem Tp(hc:X.calm=true):dN X (.builtin "min") (Mp X.K λx=>blt .Gg [x]):=by
 rintro j s σ H xs l Q I r⟨x,z,F,d,A,sm,B,he,k⟩;obtain⟨ns,C,he⟩:=cJ (show((items d).bind λn=>n.mapM iY).bind _=some A from he);obtain⟨m,o,he⟩:=map_some he;subst he;obtain⟨n,E,G⟩:=cJ C;obtain⟨p,ys,rfl,J,q⟩:=B.items sm E;rw[rO G]at q;have L:=jN q;subst z;obtain⟨u,rfl,M⟩:=r.one;cases M;refine call_min_walk (walked I hc J λit l w St h W h0 N kp=>?_);subst L;have f:l.toArray.size=ns.length:=by rw[cx,<-h.length,dy]
 have g:0<ns.length:=by cases ns with|nil=>simp at o|cons _ _=>simp
 refine⟨it,_,_,_,_,St,_,rfl,W,h0,N,by rw[f];exact g,CmpOf.ints_lt (λi=>ns.getD i 0) (λi v e=>vR h e),λv h' O y U=>?_⟩;rw[f]at y;obtain⟨t,rfl⟩:=vR h y;rw[Io o];exact⟨.int _,H,kp h' O U,⟨t,rfl⟩,cF.dm sm (bO _) k⟩
theorem boot_sum:ey "sum"=some (.builtin "sum"):=by decide+kernel
theorem u9{x:Str}{e:Pos}(f:x="sum")(hc:X.calm=true)(g:Gl X x)(i:X.mg x=none)(j:SX X c a pa)(hs:cv [a] X.env=(false,eu a X.env)::cv [] X.env:=by rfl):SX X c (.Call (.Name x e) [a] [] pos) (.blt .sum [pa]):=by subst f;exact oV (λh=>dX (aaa hc) g i boot_sum h (he:=hs)) j (λρ=>rfl) rfl hs
theorem Dk{x:Str}{e:Pos}(f:x="min")(hc:X.calm=true)(g:Gl X x)(i:X.mg x=none)(j:SX X c a pa)(hs:cv [a] X.env=(false,eu a X.env)::cv [] X.env:=by rfl):SX X c (.Call (.Name x e) [a] [] pos) (.blt .Gg [pa]):=by subst f;exact oV (λh=>dX (Tp hc) g i boot_min h (he:=hs)) j (λρ=>rfl) rfl hs
end
end HH
end
section
namespace HH
open PySem
section
variable{i j:Int}{ds es:List D}{d:D}{b b':Bool}
@[simp]theorem aaI:sX .shl=Ia:=rfl
@[simp]theorem abG:sX .shr=J1:=rfl
@[simp]theorem Y9:sX .band=zp:=rfl
@[simp]theorem V3:Ia (.int i) (.int j)=if 0<=j/\j<=1000/\i.natAbs<18446744073709551616 then some (.val (.int (i*2^j.toNat)))else none:=rfl
@[simp]theorem WW:J1 (.int i) (.int j)=if 0<=j then some (.val (.int (i/2^j.toNat)))else none:=rfl
@[simp]theorem U3:zp (.int i) (.int j)=some (.val (.int (Builtin.bitAnd i j))):=rfl
@[simp]theorem Wf:mY (.lst ds) (.int i)=if 0<=i/\0<ds.length/\ds.length*i.toNat<=lim then some (.own (b_ i.toNat ds).flatten)else none:=rfl
@[simp]theorem Wz:mY (.tup ds) (.int i)=if 0<=i/\0<ds.length/\ds.length*i.toNat<=lim then some (.val (.tup (b_ i.toNat ds).flatten))else none:=rfl
@[simp]theorem afH:cm .isT (.bl b) (.bl true)=some b:=rfl
@[simp]theorem abH:cm .aak (.bl b) (.bl true)=some (!b):=rfl
@[simp]theorem acf:blt .sum [.lst ds]=(ds.mapM iY).map λns=>.val (.int ns.sum):=rfl
@[simp]theorem Z3:blt .Gg [.lst ds]=(ds.mapM iY).bind λns=>ns.min?.map λi=>.val (.int i):=rfl
end
@[simp]theorem ad0:type_of%@HH.X16:=@HH.X16
@[simp]theorem afB:type_of%@HH.X17:=@HH.X17
@[simp]theorem acZ:type_of%@HH.X18:=@HH.X18
theorem gk{ns:List Int}:(ns.map D.int).mapM iY=some ns:=by induction ns with|nil=>rfl|cons n ns a=>simp[a]
@[simp]theorem WQ{ns:List Int}:ns.mapM (iY ∘ D.int)=some ns:=by rw[<-gk (ns:=ns),List.mapM_map]
@[simp]theorem XF{bs:List Bool}:bs.mapM (yI ∘ D.bl)=some bs:=by induction bs with|nil=>rfl|cons b bs a=>simp[a]
theorem aaO{S:List Int}{i:Int}:((S.map D.int).any λy=>lF y (.int i))=S.contains i:=by induction S with|nil=>rfl|cons s S a=>rw[c_,lc,List.contains_cons,a,pqi];rw[show(s==i)=(i==s)from me.mpr ⟨λh=>by simp at h ⊢;exact h.symm,λh=>by simp at h ⊢;exact h.symm⟩]
theorem Z4{S:List Int}:(S.map D.int).all flat=true:=by rw[fP];intro d hd;obtain⟨i,_,rfl⟩:=cU.mp hd;rfl
theorem pR{n:Nat}{S:List Int}:eZ (n+1) (.lst (S.map D.int))=true:=by rw[eZ,fP];intro d hd;obtain⟨i,_,rfl⟩:=cU.mp hd;cases n<;>rfl
theorem rM:∀{S T:List Int},gM (S.map D.int) (T.map D.int)=(S==T)|[],[]=>by simp[gM]|[],_::_=>by simp[gM]|_::_,[]=>by simp[gM]|s::S,t::T=>by rw[c_,c_,gM,rM,pqi];rfl
theorem MF{S T:List Int}:cm .eq (.lst (S.map D.int)) (.lst (T.map D.int))=some (S==T):=by show Jk _ _=_;unfold Jk;rw[pR,pR,pql,rM];rfl
theorem aa9{S T:List Int}:cm .ne (.lst (S.map D.int)) (.lst (T.map D.int))=some (!(S==T)):=by show Jy _ _=_;unfold Jy;rw[pR,pR,pql,rM];rfl
theorem Mq{S:List Int}:cm .eq (.lst (S.map D.int)) (.lst [])=some S.isEmpty:=by rw[show(.lst []:D)=.lst (([]:List Int).map D.int)from rfl,MF];cases S<;>rfl
theorem cX{a:Type}{l:List a}{f:a->D}{k:Nat}{x:a}(h:l[k]?=some x):at' (l.map f) (k:Int)=some (f x):=by have b:=(dJ h).1;rw[J8 (by simpa using b),eR,h];rfl
theorem Vi{n k:Nat}(h:k<n):jE n (k:Int)=some k:=by unfold jE;rw[if_pos (by omega),if_pos (by omega)];simp
theorem fH{is:List Nat}{one:Bool}{body:List Sl->Res Fl}{g:Nat->D}{N:Nat}(J:Nat->List Sl->Prop){Q:Fl->List Sl->Prop}(c:∀i ρ,i<N->J i ρ->∃a,cT ρ is one (g i)=some a/\(body a).sat (fQ (J (i+1)) Q))(f:∀ρ,J N ρ->Q .next ρ){ρ:List Sl}(h0:J 0 ρ):(iK is one body ((dP N).map g) ρ).sat Q:=by
 refine cA (λr ρ=>∃i,i<=N/\r=((dP N).map g).drop i/\J i ρ) ?_ ?_ ⟨0,vU,rfl,h0⟩
 . rintro d r ρ⟨i,hi,e,j⟩;have b:i<N:=by
    rcases Nat.lt_or_ge i N with h|h;.exact h
    .rw[List.drop_eq_nil_of_le (by simpa using h)]at e;cases e
   rw[ib (by simpa using b)]at e;injection e with e1 e2;simp at e1;subst e1;obtain⟨a,h1,k⟩:=c i ρ b j;refine⟨a,h1,k.imp λfl l q=>?_⟩;cases fl with|next=>exact⟨i+1,b,e2,q⟩|cont=>exact⟨i+1,b,e2,q⟩|brk=>exact q|ret v=>exact q
 . rintro ρ⟨i,hi,e,j⟩;have:i=N:=by have m:=congrArg kF e;simp at m;omega
   subst this;exact f ρ j
theorem Fw{c:Call}{is:List Nat}{one:Bool}{f:P}(J:List Sl->Prop)(P:D->Prop){Q:List D->List Sl->Prop}{i:List D}{ρ:List Sl}(j:J ρ)(h:∀d,d∈i->∀ρ,J ρ->∃a,cT ρ is one d=some a/\(ev c f a).sat λr g=>P r.d/\J g)(k:∀xs ρ,J ρ->xs.length=i.length->(∀x∈xs,P x)->Q xs ρ):(mz c is one none f i ρ).sat Q:=by suffices hh:∀(i:List D)(b:List D)(ρ:List Sl),J ρ->(∀x∈b,P x)->(∀d,d∈i->∀ρ,J ρ->∃a,cT ρ is one d=some a/\(ev c f a).sat λr g=>P r.d/\J g)->(turns is one (oR c none) (ev c f) i b ρ).sat λxs ρ=>J ρ/\(∀x∈xs,P x)/\xs.length=b.length+i.length from(hh i [] ρ j (by simp) h).imp λxs ρ⟨l,q2,q3⟩=>k xs ρ l (by simpa using q3) q2;intro i;induction i with|nil=>intro b ρ j m _;rw[turns];exact⟨j,m,by simp⟩|cons d r o=>
   intro b ρ j m h;obtain⟨a,e,h1⟩:=h d (by simp) ρ j;rw[turns,e];show((oR c none a).bind _).sat _;rw[oR];show((ev c f a).bind _).sat _;rw[cB];refine h1.imp λx g⟨p,j3⟩=>?_;refine(o (b++[x.d]) g j3 (λy hy=>?_) λd' n=>h d' (by simp[n])).imp λxs ρ⟨l,q2,q3⟩=>⟨l,q2,by simp at q3 ⊢;omega⟩;rcases eW.mp hy with hy|hy;.exact m y hy
   .rw[dV.mp hy];exact p
inductive A3(a b c:Prop):Prop where|mk(ha:a)(hb:b)(hc:c)
inductive A4(a b c d:Prop):Prop where|mk(ha:a)(hb:b)(hc:c)(hd:d)
inductive A5(a b c d e:Prop):Prop where|mk(ha:a)(hb:b)(hc:c)(hd:d)(he:e)
inductive A6(a b c d e f:Prop):Prop where|mk(ha:a)(hb:b)(hc:c)(hd:d)(he:e)(hf:f)
inductive A7(a b c d e f g:Prop):Prop where|mk(ha:a)(hb:b)(hc:c)(hd:d)(he:e)(hf:f)(hg:g)
inductive A8(a b c d e f g h:Prop):Prop where|mk(ha:a)(hb:b)(hc:c)(hd:d)(he:e)(hf:f)(hg:g)(hh:h)
inductive A9(a b c d e f g h i:Prop):Prop where|mk(ha:a)(hb:b)(hc:c)(hd:d)(he:e)(hf:f)(hg:g)(hh:h)(hi:i)
end HH
end
section
namespace HH
open PySem L2 PySem.Spec PyProof.Rows
section
variable{X:Cx}{c:Call}{n:Nat}{e a b d tg:dr}{p pa pb pd:P}{pos:Pos}
theorem Ux{g:TG}{is:List Nat}(he:SX X c e p)(s:PG X tg g)(i:GF X.K (λρ d=>cT ρ is false d) g)(hs:ko [tg] e pos.line X.env=eT false:=by rfl)(t:kq [tg] e X.env=eT none:=by rfl)(h1:(i8 [tg] X.env).map (·.2)=[ku tg X.env]:=by rfl):SS X c n (.Assign [tg] e pos) (.unp is p):=by
 refine dB (Ib he.ev s hs t h1) ?_;rintro D σ H⟨F,ρ,fl,u,w,e,k⟩;rw[HH.X8]at e;obtain⟨r,f,x,e⟩:=aj e;refine⟨F,ρ,r,f,w,x,λv F1 l s1 y=>?_⟩;obtain⟨m,s2,_,o⟩:=s1.dz y;split at e;.rename_i q hd;obtain⟨z,A,h,e⟩:=aj e;cases e;have B:=aD h;clear h;obtain⟨h,C⟩:=B;rw[hd]at o;exact i v (.tup q) m f _ σ l _ s2.gs o (by show cT f is false (.tup q)=_;cases is<;>exact h) λj s3=>k m j l (s2.trans s3)
 .cases e
theorem MP:fX X (eg .Is) (rD X.K (rQ .isT)):=by
 rintro g s σ H x y v u Q I h i⟨F,d,e,r,sm,j,l,he,k⟩;obtain⟨t,f,m⟩:=map_some (show(cmT false d e).map _=some r from he);subst m;unfold cmT at f;split at f;.rename_i b;cases f;rw[j.bl]at h;rw[l.bl]at i;cases h;cases i;have q:=cF.dm sm (fU b) k;cases b<;>exact cr ⟨.bl _,H,I,rfl,q⟩
 .cases f
end
end HH
end
section
namespace HT
open PySem PySem.Spec PyProof.Rows
section
variable{prog:df}{w:ek}{A:ez}{E:aX->a_->Prop}{s:a_}
theorem yp{t sl:bd}{a:Array aX}{f g:aX}{lo hi:Option Int}{Q:aX->a_->Prop}(ht:oI s.heap t a)(hs:s.heap.IsSliceOf sl f g .none)(i:li f lo)(j:li g hi)(h1:dO a.size 0 lo=0)(k:dO a.size a.size hi=a.size)(h:Q (.ref t) s):cy (cS prog w) A (jS (.ref t) (.ref sl)) Q E s:=by
 obtain⟨os,b,c,l⟩:=id hs;have m:s.TypeIs (.ref sl) "slice":=⟨os,b,c⟩;unfold jS;try with_reducible refine hQ ?_
 first|refine av (cr ?_)|skip
 refine av (wpAny_sequenceKey ht.typeIs (by decide) (av (fR (name:=iL "__getitem__") ht.typeIs slot_tuple_getitem (gN slot_tuple_getitem ht.typeIs entry_tuple_getitem ?_ (args_tuple_getitem _ _)))));show cy _ _ (tupleItemsOf (.ref t)>>=_) _ _ s;refine av (tupleItemsOf_ ht (av (kL m ?_)));rw[if_pos (by decide)];refine av (iI hs i j ?_);have e:((((dO a.size 0 lo:Nat):Int)==0&&(1:Int)==1&&(dO a.size a.size hi-dO a.size 0 lo)==a.size)=true):=by rw[h1,k];simp
 show cy _ _ (if(((dO a.size 0 lo:Nat):Int)==0&&(1:Int)==1&&(dO a.size a.size hi-dO a.size 0 lo)==a.size)=true then _ else _) _ _ s;rw[if_pos e];unfold Builtin.Tuple.tupleIsExact;refine av (av (kL ht.typeIs (cr ?_)));rw[if_pos (by decide)];exact av (kb (cr ⟨_,rfl,cr h⟩))
end
end HT
namespace HH
open PySem L2 PySem.Spec PyProof.Rows
noncomputable def nst:dr->Bool|.Starred _ _=>false|_=>true
theorem iQ{e:dr}{es:List dr}{env:Env}(h:nst e=true):cv (e::es) env=(false,eu e env)::cv es env:=by cases e with|Starred a b=>cases h|_=>rw[cv];(intro e p z;cases z)
noncomputable def qi:List Int->List dr->Option (List dr)|[],es=>some es|i::is,.Constant (.int j) _ _::es=>if i=j then qi is es else none|_,_=>none
theorem De{X:L2.Cx}{c:Call}:∀(is:List Int){es a:List dr}{b:List P},qi is es=some a->SA X c a b->SA X c es (is.map (λi=>P.con (.int i))++b)|[],es,a,b,h,r=>by cases h;exact r|i::is,[],a,b,h,r=>by cases h|i::is,e::es,a,b,h,r=>by cases e with
   |Constant v k p=>cases v with
     |int j=>
       replace h:(if i=j then qi is es else none)=some a:=h;split at h;.rename_i f;subst f;exact pP aa (De is h r) (iQ rfl)
       .cases h|_=>cases h
   |_=>cases h
theorem uZ{n d:Nat}{o:Option Int}:HT.dO n d o=HH.dO n d o:=by cases o with|none=>rfl|some v=>
   show(if v<0 then(v+(n:Int)).toNat else min v.toNat n)=(if 0<=v then min v.toNat n else(v+n).toNat);by_cases h:0<=v;.rw[if_pos h,if_neg (by omega)]
   .rw[if_neg h,if_pos (by omega)]
theorem G3{xs:List V}{lo hi:Option Int}:xj xs lo hi=HH.cut xs lo hi:=by unfold xj HH.cut;rw[uZ,uZ]
theorem aH.cut{K:PySem.W.Frag}{F:Hp}{a:List D}{vs:List V}{lo hi:Option Int}(h:aH K F vs a):aH K F (HH.cut vs lo hi) (HH.cut a lo hi):=by unfold HH.cut;rw[h.length];exact(h.drop _).take _
section
variable{X:Cx}{c:Call}{n:Nat}{e a b:dr}{p pa pb pl ph:P}{pos p2:Pos}{lo hi:Option dr}
noncomputable def aeT(K:PySem.W.Frag):V->Option Int->Option Int->Hp->VK->Prop:=λx lo hi H Q=>∃F d r,aG F H/\dG K F H x d/\Hg d (some lo) (some hi)=some r/\∀v g f,Ext F H g f->cF K g f H v r->Q v f
theorem ZD:SlR X (aeT X.K):=by
 rintro f s σ H x v u w lo hi sl Q I l hs pl m⟨F,d,r,sm,y,he,k⟩;cases d with|lst o=>cases he;obtain⟨a,xs,rfl,j,h⟩:=y.lst sm;refine NT f s σ H _ v u w lo hi sl Q I l hs pl m ⟨a,xs,rfl,j,λp q=>?_⟩;rw[G3];exact zP sm h.cut q k|tup o=>
   cases he;obtain⟨a,xs,rfl,j,h,rt⟩:=y.tup sm;by_cases i:HT.dO xs.length 0 lo=0/\HT.dO xs.length xs.length hi=xs.length
   . cases l;obtain⟨t,z,ht,hz⟩:=I.tuple j;have g:t.toArray.size=xs.length:=by rw[cx];exact z.length.symm
     refine⟨"tuple",_,slot_tuple_getitem.lookup,ht.typeIs,HT.yp ht hs pl m (by rw[g];exact i.1) (by rw[g];exact i.2) ⟨.ref a,H,I,rfl,?_⟩⟩;have hc:HH.cut o lo hi=o:=by unfold HH.cut;rw[<-h.length,<-uZ,<-uZ,i.1,i.2];simp[h.length]
     rw[hc]at k;exact cF.dm sm rt k
   .refine Q8 f s σ H _ v u w lo hi sl Q I l hs pl m ⟨a,xs,rfl,j,i,λp q=>?_⟩;rw[G3];exact zu sm h.cut q k|_=>cases he
noncomputable def SO(X:Cx)(c:Call)(o:Option dr)(p:P):Prop:=∃t,PO X o t/\∀{σ:L2.St}{H F:Hp}{ρ f:List Sl}{d:D}{i:Option Int}{Q:Option Int->Hp->Prop},GS X.K F ρ σ H->cP (isVar p) (HH.ev c p) ρ=.ok d f->part p d=some i->(∀h g,aB X.K F ρ σ H h f σ g->Q i g)->t σ H Q
theorem gR:SO X c none (.con .non):=by refine⟨_,Nk,λ{σ H F ρ f d i Q}g e h k=>?_⟩;cases(show some none=some i from h);have j:(HH.ev c (.con .non) ρ).bind (λr ρ=>.ok r.d ρ)=.ok d f:=e;clear e;rw[HH.E2]at j;cases j;exact k F H (.refl g)
theorem gP(h:SX X c e p)(l:Ek p=false:=by rfl):SO X c (some e) p:=by obtain⟨t,h1,m⟩:=h.cP;refine⟨_,Nv h1,λ{σ H F ρ o d i Q}g e f k=>?_⟩;unfold part at f;rw[l,if_neg (by decide)]at f;obtain⟨j,q,r⟩:=map_some f;cases cZ q;subst r;exact m g e λv u w s x=>⟨j,x.int,k u w s⟩
theorem xG{d:D}{x y:Option (Option Int)}{r:R}(h:Hg d x y=some r):∃lo hi,x=some lo/\y=some hi:=by cases x with|none=>cases d<;>cases h|some lo=>cases y with|none=>cases d<;>cases h|some hi=>exact⟨lo,hi,rfl,rfl⟩
theorem fJ(ha:SX X c a pa)(hl:SO X c lo pl)(hh:SO X c hi ph):SX X c (.Subscript a (.Slice lo hi none p2) pos) (.slice pa pl ph):=by obtain⟨tl,l1,l2⟩:=hl;obtain⟨th,h1,h2⟩:=hh;cases hv:isVar pa with|none=>refine⟨dR (wI ZD ha.ev l1 h1) ?_,λi h=>by cases h⟩;rintro σ H Q⟨F,ρ,r,B,g,e,k⟩;rw[HH.E15,hv]at e;obtain⟨x,C,f,j⟩:=aj e;clear e;have l:(HH.ev c pa ρ).bind (λr ρ=>.ok r.d ρ)=.ok x C:=f;clear f;obtain⟨rx,ac,e1,E⟩:=aj l;clear l;cases E;obtain⟨y,G,I,m⟩:=aj j;clear j;obtain⟨z,J,L,o⟩:=aj m;clear m;obtain⟨e,M⟩:=aD o;clear o;subst M;obtain⟨N,O,q,s⟩:=xG e;rw[q,s]at e;refine⟨F,ρ,rx,_,g,e1,λv F1 H1 s1 rr=>?_⟩;obtain⟨F2,s2,_,rp⟩:=s1.dz rr;refine l2 s2.gs I q λF3 H3 s3=>h2 s3.gs L s λU H4 s4=>?_;have s5:=s2.trans (s3.trans s4);refine⟨U,_,r,s4.gs.sub,.inl ((rp.mono s3.bQ).mono s4.bQ),e,λv W Y x Z=>?_⟩;exact k v W Y (s5.trans (x.stp s5.gs)) (.later s5 (Z.pG s5.gs))|some i=>refine⟨dR (wI ZD (ha.var i hv) l1 h1) ?_,λi h=>by cases h⟩;rintro σ H Q⟨F,ρ,r,B,g,e,k⟩;rw[HH.E15,hv]at e;obtain⟨x0,ae,t,j⟩:=aj e;clear e;obtain⟨E,Ao⟩:=aD t;clear t;subst Ao;obtain⟨y,G,I,m⟩:=aj j;clear j;obtain⟨z,J,L,o⟩:=aj m;clear m;obtain⟨x,af,u,ed⟩:=aj o;clear o;obtain⟨e5,e6⟩:=aD u;clear u;subst e6;obtain⟨e,M⟩:=aD ed;clear ed;subst M;obtain⟨N,O,q,s⟩:=xG e;rw[q,s]at e;obtain⟨v,w,_⟩:=g.pk E;refine⟨v,w,l2 g I q λF3 H3 s3=>h2 s3.gs L s λU H4 s4=>?_⟩;have s5:=s3.trans s4;obtain⟨v',A,pv⟩:=s5.gs.pk e5;rw[w]at A;cases A;refine⟨U,_,r,s4.gs.sub,pv,e,λv W Y x Z=>?_⟩;exact k v W Y (s5.trans (x.stp s5.gs)) (.later s5 (Z.pG s5.gs))
theorem XS:dN X (.builtin "abs") (Mp X.K λx=>blt .abs [x]):=by rintro f s σ H xs g Q I r⟨x,h,F,d,j,sm,l,he,k⟩;cases d with|int i=>cases(show some _=some j from he);exact Jp f s σ H xs g Q I r ⟨i,by rw[h,l.int],cF.dm sm (bO _) k⟩|_=>cases he
theorem boot_abs:ey "abs"=some (.builtin "abs"):=by decide+kernel
theorem Ht{x:Str}{f:Pos}(g:x="abs")(i:Gl X x)(j:X.mg x=none)(k:SX X c a pa)(hs:cv [a] X.env=(false,eu a X.env)::cv [] X.env:=by rfl):SX X c (.Call (.Name x f) [a] [] pos) (.blt .abs [pa]):=by subst g;exact oV (λh=>dX XS i j boot_abs h (he:=hs)) k (λρ=>rfl) rfl hs
theorem Uw{i:Nat}{x:Str}{t:Pos}{op:lh}{sub:Bool}(ho:Qs X op (Wo λi j=>if sub then i-j else i+j))(w:X.N.Nodup)(hi:X.N[i]?=some x)(y:Loc X.env.scope x)(he:SX X c e p)(z:X.fn x=true\/X.env.scope.names.lookup x=some .local:=by first|exact .inl rfl|exact .inr rfl|assumption):SS X c n (.AugAssign (.Name x t) op e pos) (.aug i sub p):=by
 obtain⟨te,h1,A⟩:=he.cP;refine dB (Rz w hi y h1 ho z) ?_;rintro D σ H⟨F,ρ,fl,B,g,e,k⟩;rw[HH.X16]at e;obtain⟨a0,C,f,s⟩:=aj e;clear e;obtain⟨E,G⟩:=aD f;clear f;subst G;obtain⟨b0,I,J,o⟩:=aj s;clear s;obtain⟨v,q,L⟩:=g.pk E;refine⟨v,q,A g J λu F1 M s1 O=>?_⟩;split at o;.rename_i h l;obtain⟨Q,U,m,W⟩:=aj o;clear o;cases W;obtain⟨Y,e3⟩:=aD m;clear m;have Z:Rep X.K F1 (.int (if sub then h-l else h+l)) (.int (if sub then h-l else h+l)):=bO _;exact⟨h,l,L.int,O.int,k F1 _ M (aB.put (r:=.val (.int _)) s1 Z Y)⟩
 .cases o
theorem Ot:Qs X .Add (Wo λi j=>if false then i-j else i+j):=Tt
theorem Mf:Qs X .Sub (Wo λi j=>if true then i-j else i+j):=RZ
theorem RB{x:Str}{k:Nat}{l h f:Pos}(E:X.N[k]?=some x)(G:v9 X.env.scope x)(he:SX X c e p)(i:(h.endLine==f.line)=true:=by rfl)(hs:cv [e] X.env=(false,eu e X.env)::cv [] X.env:=by rfl)(j:ix (.Name x l) "extend" X.env (eu (.Name x l) X.env)=eu (.Name x l) X.env:=by rfl)(m:((iF f (cv [e] X.env)).all (λx=>!x.1)&&(nI f (k9 [] X.env)).all (λx=>x.1.isSome)&&decide ([e].length+([]:List kn).length+(if([]:List kn).isEmpty then 0 else 1)<30))=true:=by rfl)(t:fx (.Call (.Attribute (.Name x l) "extend" h) [e] [] f) none pos.line X.env=eT false:=by rfl)(hd:(x==("__debug__":Str))=false:=by decide)(u:(x==("__classdict__":Str))=false:=by decide):SS X c n (.Expr (.Call (.Attribute (.Name x l) "extend" h) [e] [] f) pos) (.Kg k p):=by
 refine dB (pN (J5 plainAttrs_list PySem.F.slot_list_extend PySem.F.type_list_extend Em (fC E G hd u) (bF he.ev dD hs) j m i hs) t) ?_;rintro D σ H⟨F,ρ,fl,I,g,e,J⟩;rw[HH.X18]at e;obtain⟨d0,L,o,z⟩:=aj e;clear e;obtain⟨M,O⟩:=aD o;clear o;subst O;obtain⟨r,w,Q,s⟩:=aj z;clear z;obtain⟨a,xs,h1,U⟩:=uQ g M;refine⟨.ref a,h1,.inl ⟨rfl,xs,U⟩,F,ρ,r,w,g,Q,λv F1 H1 s1 W=>?_⟩;split at s
 . rename_i bb Y es q;split at s;.rename_i y;cases s;obtain⟨b1,ys,rfl,Z,w3,A,w5,w6⟩:=W;obtain⟨ad,zs,B,q2,q3,C⟩:=s1.gs.lK k _ Y q rfl;rw[h1]at B;cases B;exact⟨_,b1,zs,ys,rfl,rfl,q2,Z,by rw[C.length,A.length];exact y,J F1 σ _ (s1.trans (s1.gs.mut q h1 (C.append A)))⟩
   .cases s
 .cases s
end
end HH
end
section
namespace L2
open PySem PySem.Spec PyProof.Rows
section
variable{X:Cx}{tg:dr}
theorem wM:ey "tuple"=some (.type "tuple"):=by decide+kernel
theorem rF:ey "reversed"=some (.type "reversed"):=by decide+kernel
end
end L2
namespace HH
open PySem L2 PySem.Spec PyProof.Rows
section
variable{K:PySem.W.Frag}{F F1 H H1:Hp}{ρ ρ1:List Sl}{σ:L2.St}{ds:List D}{a:bd}
theorem aH.rev:∀{ds:List D}{xs:List V},aH K F xs ds->aH K F xs.reverse ds.reverse|[],_,h=>by rw[h.fV];exact .nil|d::ds,_,h=>by obtain⟨v,r,rfl,h1,b⟩:=h.cL;rw[ml,ml];exact(aH.rev b).append (.cons h1 .nil)
end
end HH
end
section
namespace PySem
namespace F
theorem G7:nq (.type "list_reverseiterator") "__len__"=eT none:=by rw[typeLookup_type,p5];kernel_rfl
theorem Od:nq (.type "list_reverseiterator") "__length_hint__"=eT (some (.builtin "list_reverseiterator.__length_hint__")):=by rw[typeLookup_type,p5];kernel_rfl
end F
section
variable{prog:df}{w:ek}{A:ez}{E:aX->a_->Prop}{s:a_}
theorem pA{it l:bd}{items:Array aX}{Q:Bool->a_->Prop}(e:s.heap.IsRevIter it l ((items.size:Int)-1))(m:s.heap.IsList l items)(i:items.size<=2^24)(h:∀b j,s.toks<=j->Q b {s with toks:=j}):cy (cS prog w) A (listLengthHint (.ref it)) Q E s:=by
 have f:=e.typeIs;unfold listLengthHint;refine av (m4 f F.G7 ?_);show cy _ _ (specialOf (dY it) (iL "__length_hint__")>>=_) _ _ _;refine av (m4 f F.Od ?_);generalize a:("list_reverseiterator.__length_hint__":String)=c;(fail_if_success(clear a c));wp_delta;rw[show splitId c=some ("list_reverseiterator","__length_hint__")from by subst a;decide+kernel];subst a;refine av (wpAny_isInstance (b:=true) f (by rw[isSubtype_type];kernel_rfl) ?_);rw[if_neg (by decide)];dsimp only;split;.refine wpAny_ite_split (λg=>absurd g (by decide+kernel)) (λ_=>?_);exact cr (h _ s.toks (dw))
 .rename_i k;exact absurd (by decide+kernel) k
theorem mG{R:Result->a_->Prop}{I l:bd}{items:Array aX}(Q:A.handled=none)(j:s.heap.IsRevIter I l ((items.size:Int)-1))(G:s.heap.IsList l items)(H:l≠I)(u:items.size<=2^24)(S:bd)(m:S≠I)(x:S≠l)(res:aX)(k:Nat)(J:s.heap.get? S=some {cls:=.type "list",data:=.seq #[] k})(U:∀ h' y a t,(∀ b o,b ≠ S->b ≠ I->s.heap.get? b=some o->h'.get? b=some o)->h'.get? S=some {cls:=.type "list",dict:=none,data:=.seq a t,slots:=#[]}->ItemsOf (λi v=>items[items.size-1-i]?=some v) a items.size->R (.ok (.ret res)) {s with heap:=h',toks:=y}):cy (cS prog w) A.in1 (k6 (.ref S) (.ref I) res) (λfin n=>match fin with|.done f=>R (.ok f) n|.again t=>t.quiet=true/\kN (cS prog w) A t R n) (λe n=>R (.error e) n) s:=by
 have L:S∉[I,l]:=λhm=>by
  rcases de.mp hm with e|hm;.exact m e
  .exact x (dV.mp hm)
 have W:=(Walks.listRev (prog:=prog) (w:=w) (A:=A.in1) Q I l H items).toS;have X:s.TypeIs (.ref I) "list_reverseiterator":=j.typeIs;have key:∀(h:eA)(c y:Nat),h.IsRevIter I l ((items.size:Int)-1-((0:Nat):Int))->h.IsList l items->(∀b o,b≠S->s.heap.get? b=some o->h.get? b=some o)->h.get? S=some {cls:=.type "list",data:=.seq #[] c}->kN (cS prog w) A (.builtin "list.extend.loop" ⟨[.ref S,.ref I,res],[]⟩) R {s with heap:=h,toks:=y}:=by
  intro h c y hi M Y p;refine codeAny_extend_loopS W (by rw[fe];omega) S L res items.size 0 _ #[] c rfl (vU) ⟨vU,hi,M⟩ p (ItemsOf.nil _) λn a t hm N z=>?_;rw[Moved.eq_with hm];refine U n.heap n.toks a t (λb o B O e=>hm.heap b o (λhmem=>?_) (Y b o B e)) N z;rcases de.mp hmem with Z|hmem;.exact B Z
  .exact O (dV.mp hmem)
 unfold k6;refine av (kL X ?_);have h1:listSameRef (.ref S) (.ref I)=false:=by simp[listSameRef,m]
 have h2:(e_ "list_reverseiterator"==e_ "list")=false:=by decide
 have h3:(e_ "list_reverseiterator"==e_ "tuple")=false:=by decide
 simp only[h1,h2,h3,Bool.or_false,iq,if_false];refine av (wpAny_pyIter_revIter j ?_);refine av (hQ (pA j G u λbb y ac=>?_));have C:s.heap.IsRevIter I l ((items.size:Int)-1-((0:Nat):Int)):=by simpa using j
 refine wpAny_ite_split (λ_=>?_) (λ_=>cr ⟨lT F.plain_extend_loop _,key _ k _ C G (λb o _ e=>e) J⟩);refine av (kb ?_);refine av ?_;show cy _ _ (updateSeq S (·.push .none)>>=λ_=>updateSeq S (·.pop)) _ _ _;refine av (wpAny_updateSeq J rfl ?_);have g:=iS (ga (·.push eL)) J rfl;refine wpAny_updateSeq (hz:=by seq_fits) g rfl ?_;have q:=iS (ga (·.pop)) g rfl;have r:∀b o,b≠S->s.heap.get? b=some o->((s.heap.update S (ga (·.push eL))).update S (ga (·.pop))).get? b=some o:=λb o B e=>(hY _ _ (gu B)).trans ((hY _ _ (gu B)).trans e);exact cr ⟨lT F.plain_extend_loop _,key _ _ _ (C.at λo e=>r I o (gu m) e) (G.at λo e=>r l o (gu x) e) r q⟩
end
end PySem
namespace L2
open PySem PySem.Spec PyProof.Rows
end L2
namespace HH
open PySem L2 PySem.Spec PyProof.Rows
end HH
end
section
namespace HH
open PySem
theorem mK:∀a b:List Int,bB a b=true->bB b a=false
 |[],[],h=>by simp[bB]at h|[],_::_,_=>by simp[bB]|_::_,[],h=>by simp[bB]at h|x::a,y::b,h=>by
   simp only[bB,l9,decide_eq_true_eq,fN]at h;simp only[bB,kH,decide_eq_false_iff_not,kA];rcases h with h|⟨h,h'⟩;.exact⟨by omega,.inl (by omega)⟩
   .exact⟨by omega,.inr (mK a b h')⟩
theorem yH:∀a b c:List Int,bB b a=false->bB c b=false->bB c a=false
 |[],_,c,_,_=>by cases c<;>simp[bB]|_::_,[],_,h,_=>by simp[bB]at h|_::_,_::_,[],_,h=>by simp[bB]at h|x::a,y::b,z::c,h1,f=>by
   simp only[bB,kH,decide_eq_false_iff_not,kA]at h1 f ⊢;refine⟨by omega,?_⟩;by_cases e:z=x;.right;exact yH a b c (h1.2.resolve_left (by omega)) (f.2.resolve_left (by omega))
   .exact .inl e
theorem wz:∀a b:List Int,bB a b=false->bB b a=false->a=b
 |[],[],_,_=>rfl|[],_::_,h,_=>by simp[bB]at h|_::_,[],_,h=>by simp[bB]at h|x::a,y::b,h1,c=>by
   simp only[bB,kH,decide_eq_false_iff_not,kA]at h1 c;have e:x=y:=by omega
   subst e;rw[wz a b (h1.2.resolve_left (by simp)) (c.2.resolve_left (by simp))]
theorem wY:∀{xs ys:List D},xs.all gK=true->ys.all gK=true->xs.map mD=ys.map mD->xs=ys
 |[],[],_,_,_=>rfl|[],_::_,_,_,h=>by simp at h|_::_,[],_,_,h=>by simp at h|x::xs,y::ys,h1,a,h=>by
   simp only[qA,fN]at h1 a;simp only[c_,List.cons.injEq]at h;obtain⟨i,rfl⟩:∃i,x=.int i:=by cases x<;>first|exact⟨_,rfl⟩|(have q:=h1.1;simp[gK]at q;done)
   obtain⟨j,rfl⟩:∃j,y=.int j:=by cases y<;>first|exact⟨_,rfl⟩|(have q:=a.1;simp[gK]at q;done)
   rw[wY h1.2 a.2 h.2,show i=j from h.1]
theorem Ds{x y:D}(h:(gK x=true/\gK y=true)\/(wK x=true/\wK y=true))(e:dg x=dg y):x=y:=by
 rcases h with⟨h1,a⟩|⟨h1,a⟩
 . cases x<;>first|(simp[gK]at h1;done)|skip
   cases y<;>first|(simp[gK]at a;done)|skip
   simpa[dg]using e
 . cases x<;>first|(simp[wK]at h1;done)|skip
   cases y<;>first|(simp[wK]at a;done)|skip
   rename_i xs ys;cases xs<;>first|(simp[wK]at h1;done)|skip
   cases ys<;>first|(simp[wK]at a;done)|skip
   rw[wY h1 a e]
noncomputable def mq(a b:D):Bool:=!bB (dg b) (dg a)
theorem xf(a:List D):(PK a).Perm a:=List.mergeSort_perm ..
theorem Ln(a b c:D)(h1:mq a b=true)(e:mq b c=true):mq a c=true:=by simp only[mq,mn]at*;exact yH _ _ _ h1 e
theorem JL(a b:D):(mq a b||mq b a)=true:=by simp only[mq,l9,mn];cases h:bB (dg b) (dg a)with|false=>exact .inl rfl|true=>exact .inr (mK _ _ h)
theorem zM(c:List D):(PK c).Pairwise λa b=>mq a b=true:=List.pairwise_mergeSort Ln JL c
theorem vz{a:List D}(h:sortable a=true):∀x∈a,∀y∈a,dg x=dg y->x=y:=by
 simp only[sortable,fN,l9,fP]at h;intro x b y c e;rcases h.2 with h|h;.exact Ds (.inl ⟨h x b,h y c⟩) e
 .exact Ds (.inr ⟨h x b,h y c⟩) e
theorem qF{c l:List D}(h:sortable c=true)(p:l.Perm c)(s:l.Pairwise λa b=>mq a b=true):l=PK c:=by refine List.Perm.eq_of_pairwise (le:=λa b=>mq a b=true) (λa b f g h1 e=>?_) s (zM c) (p.trans (xf c).symm);simp only[mq,mn]at h1 e;exact vz h a (p.mem_iff.mp f) b ((xf c).mem_iff.mp g) (wz _ _ e h1)
end HH
end
section
namespace HH
open PySem PyProof.Rows
variable{xs:Array gd}{i:Nat}
structure Rk(M:qB)(A:ez)(E:aX->a_->Prop)(s:a_)(κ:i3)(ok:gd->Prop)(K:gd->Int):Prop where lt:∀{x y:gd}{Q:Option Bool->iN->Prop}{st:iN},ok x->ok y->kindOf st=κ->Q (some (decide (K x<K y))) st->wpS M A E s (lt' x y) Q st
section
variable{M:qB}{A:ez}{E:aX->a_->Prop}{s:a_}{κ:i3}{ok:gd->Prop}{K:gd->Int}
noncomputable def it(xs:Array gd)(i:Nat):gd:=xs.getD i (eL,eL)
theorem MN(h:i<xs.size):xs[i]?=some (it xs i):=by unfold it;simp[mA,h]
theorem JX(h:i<xs.size):it xs i∈xs.toList:=by
 have:it xs i=xs[i]:=by unfold it;simp[mA,h]
 rw[this];simp
theorem CG{Q:gd->iN->Prop}{st:iN}(h:i<xs.size)(q:Q (it xs i) st):wpS M A E s (elem' xs i) Q st:=by rw[elem'_eq,MN h];exact ka q
end
section
variable{K:gd->Int}
noncomputable def Seg(K:gd->Int)(xs:Array gd)(lo hi:Nat):Prop:=∀i j,lo<=i->i<=j->j<hi->K (it xs i)<=K (it xs j)
theorem Mv:it xs i=xs.toList.getD i (eL,eL):=by
 unfold it;by_cases h:i<xs.size;.simp[mA,h]
 .simp[mA,h]
end
section
variable{M:qB}{A:ez}{E:aX->a_->Prop}{s:a_}{κ:i3}{ok:gd->Prop}{K:gd->Int}
structure Sx(κ:i3)(ok:gd->Prop)(st:iN)(xs:Array gd)(st':iN):Prop where
 kind:kindOf st'=κ
 arr:qv st'=xs
 pend:jZ st'=jZ st
 fail:qo st'=none
 ok:∀x∈xs.toList,ok x
theorem Ld(R:Rk M A E s κ ok K){st a:iN}{j:Nat}{Q:Option Bool->iN->Prop}(h:Sx κ ok st xs a)(hi:i<xs.size)(b:j<xs.size)(q:Q (some (decide (K (it xs i)<K (it xs j)))) a):wpS M A E s (ltAt' i j) Q a:=by rw[ltAt'_eq];refine hB (oN ?_);show wpS M A E s (elem' (qv a) i>>=λx=>elem' (qv a) j>>=λy=>lt' x y) Q a;rw[h.arr];exact hB (CG hi (hB (CG b (R.lt (h.ok _ (JX hi)) (h.ok _ (JX b)) h.kind q))))
theorem Tz(R:Rk M A E s κ ok K){st g:iN}{lo a n:Nat}{Q:Option (Option Nat)×Nat->iN->Prop}(h:Sx κ ok st xs g)(u:lo+n<=xs.size)(v:1<=a)(l:a<=n)(hs:Seg K xs lo (lo+a))(q:∀m,a<=m->m<=n->Seg K xs lo (lo+m)->(m=n\/K (it xs (lo+m))<K (it xs (lo+m-1)))->Q (none,m) g):wpS M A E s (forIn [a:n] ((none,a):Option (Option Nat)×Nat) λ_ c=>ltAt' (lo+c.2) (lo+c.2-1)>>=λo=>match o with|some b=>if b=true then eT (.done (none,c.2))else eT (.yield (none,c.2+1))|_=>eT (.done (some none,c.2))) Q g:=by
 refine oP (I:=λx c k=>k=g/\c=(none,x)/\Seg K xs lo (lo+x)) ?_ ?_ ⟨rfl,rfl,hs⟩
 . rintro x c k h1 w⟨rfl,rfl,f⟩;try dsimp only
   refine hB (Ld R h (by omega) (by omega) ?_);by_cases c:K (it xs (lo+x))<K (it xs (lo+x-1))
   . rw[decide_eq_true c];try dsimp only
     rw[if_pos rfl];exact ka (q x h1 (by omega) f (.inr c))
   . rw[decide_eq_false c];try dsimp only
     rw[if_neg (by simp)];refine ka ⟨rfl,rfl,λi j p r y=>?_⟩;by_cases t:j<lo+x;.exact f i j p r t
     . have:j=lo+x:=by omega
       subst this;by_cases e:i=lo+x;.rw[e];exact eM _
       .have:=f i (lo+x-1) p (by omega) (by omega);omega
 .rintro c k⟨rfl,rfl,f⟩;rw[show max a n=n by omega]at f ⊢;exact q n l (dw) f (.inl rfl)
end
noncomputable abbrev Rn:=Nat×Nat×Nat
section
variable{K:gd->Int}{xs ys:Array gd}
noncomputable def Yg(K:gd->Int)(xs:Array gd):Nat->List Rn->Nat->Prop|a,[],b=>a=b|a,r::l,b=>r.1=a/\1<=r.2.1/\Seg K xs a (a+r.2.1)/\Yg K xs (a+r.2.1) l b
theorem vd:∀{l k:List Rn}{a b:Nat},Yg K xs a (l++k) b↔∃m,Yg K xs a l m/\Yg K xs m k b
 |[],k,a,b=>⟨λh=>⟨a,rfl,h⟩,λ⟨m,h1,c⟩=>by cases(show a=m from h1);exact c⟩|r::l,k,a,b=>by
   rw[gT];constructor;.rintro⟨h1,c,e,f⟩;obtain⟨m,g,j⟩:=vd.mp f;exact⟨m,⟨h1,c,e,g⟩,j⟩
   .rintro⟨m,⟨h1,c,e,f⟩,g⟩;exact⟨h1,c,e,vd.mpr ⟨m,f,g⟩⟩
end
section
variable{M:qB}{A:ez}{E:aX->a_->Prop}{s:a_}{κ:i3}{ok:gd->Prop}{K:gd->Int}
structure SR(κ:i3)(ok:gd->Prop)(K:gd->Int)(x0 ys:Array gd)(l:List Rn)(lo:Nat)(st:iN):Prop where
 kind:kindOf st=κ
 arr:qv st=ys
 fail:qo st=none
 pend:(jZ st).toList=l
 perm:ys.toList.Perm x0.toList
 ok:∀x∈ys.toList,ok x
 rns:Yg K ys 0 l lo
 le:lo<=ys.size
theorem SR.sx{x0 ys:Array gd}{l:List Rn}{lo:Nat}{st:iN}(h:SR κ ok K x0 ys l lo st):Sx κ ok st ys st:=⟨h.kind,h.arr,rfl,h.fail,h.ok⟩
end
end HH
end
section
namespace HH
open PySem PySem.W PyProof.Rows PySem.Calls L2 PySem.Spec
theorem Nh(a:List Int):bB a a=false:=by cases h:bB a a with|false=>rfl|true=>rw[mK _ _ h]at h;cases h
theorem GC{a b x:List Int}(h:bB b a=false)(c:bB x a=true):bB x b=true:=by cases e:bB x b with|true=>rfl|false=>rw[yH _ _ _ h e]at c;cases c
theorem ud{a:Type}{p q:a->Bool}(h:∀x,p x=true->q x=true):∀{l:List a},(∃x,x∈l/\q x=true/\p x=false)->l.countP p<l.countP q
 |[],⟨x,hx,_⟩=>by cases hx|y::l,⟨x,hx,h1,b⟩=>by
   rw[List.countP_cons,List.countP_cons];have m:=n7 (l:=l) (p:=p) (q:=q) λx _=>h x;rcases de.mp hx with rfl|hx;.rw[h1,b,if_pos rfl,if_neg (by simp)];omega
   .have:=ud h ⟨x,hx,h1,b⟩;cases hp:p y with|true=>rw[h y hp];omega|false=>rw[if_neg (by simp)];omega
noncomputable def Vj(a:List D)(d:D):Nat:=a.countP λe=>bB (dg e) (dg d)
theorem Hc{a:List D}{d e:D}(hd:d∈a):decide ((Vj a d:Int)<Vj a e)=bB (dg d) (dg e):=by cases h:bB (dg d) (dg e)with|true=>have:=ud (l:=a) (p:=λx=>bB (dg x) (dg d)) (q:=λx=>bB (dg x) (dg e)) (λx b=>GC (mK _ _ h) b) ⟨d,hd,h,Nh _⟩;rw[decide_eq_true_iff];unfold Vj;omega|false=>have:=n7 (l:=a) (p:=λx=>bB (dg x) (dg e)) (q:=λx=>bB (dg x) (dg d)) λx _ b=>GC h b;rw[decide_eq_false_iff_not];unfold Vj;omega
open Classical in
noncomputable def rkK(P:aX->D->Prop)(a:List D)(x:gd):Int:=if h:∃d,d∈a/\P x.1 d then(Vj a h.choose:Int)else 0
theorem Cq{P:aX->D->Prop}{a:List D}{x:gd}{d:D}(fn:∀u d e,P u d->P u e->dg d=dg e)(hd:d∈a)(b:P x.1 d):rkK P a x=Vj a d:=by have h:∃d,d∈a/\P x.1 d:=⟨d,hd,b⟩;unfold rkK;rw[dif_pos h];unfold Vj;rw[fn _ _ _ h.choose_spec.2 b]
noncomputable def pick{a:Type}(d:a)(p:List Nat)(l:List a):List a:=p.map λi=>l.getD i d
theorem mH{a:Type}(d:a)(l:List a):pick d (dP l.length) l=l:=by refine k_ (by simp[pick]) λi h1 b=>?_;simp[pick,b]
theorem qy{a:Type}{d:a}{p:List Nat}{l:List a}{n:Nat}(h:p.Perm (dP n)):(pick d p l).length=n:=by rw[pick,dy,h.length_eq,jI]
theorem kj{P:aX->D->Prop}:∀{b:List aX}{a:List D},Paired P b a->∀i,i<b.length->P (b.getD i .none) (a.getD i .non)/\a.getD i .non∈a|_,_,.cons r _,0,_=>⟨by simpa using r,by simp⟩|_,_,.cons _ t,i+1,hi=>by have:=kj t i (by simpa using hi);exact⟨by simpa using this.1,by simpa using dA this.2⟩
end HH
end
section
namespace HH
open PySem L2 PySem.Spec PyProof.Rows PySem.Calls PySem.W
section
variable{prog:df}{w:ek}{A:ez}{E:aX->a_->Prop}{s:a_}{vs:List aX}{κ:i3}{P:aX->D->Prop}{ds:List D}
theorem oJ{b fin:Bool}{Q:Bool->a_->Prop}:∀{xs ys:List aX}{is js:List Int}{i:Nat},gI xs is->gI ys js->fin=decide (is.length<js.length)->Q (bB is js) s->KatLex prog w A b fin Q (xs.zip ys) i s
 |_,_,_,_,_,.nil,.nil,e,h=>by subst e;exact kat_nil (by simpa[bB]using h)|_,_,_,_,_,.nil,.cons _ _ _,e,h=>by subst e;exact kat_nil (by simpa[bB]using h)|_,_,_,_,_,.cons _ _ _,.nil,e,h=>by subst e;exact kat_nil (by simpa[bB]using h)|_,_,_,_,i,.cons (ns:=is) x t r,.cons (ns:=js) y u r',e,h=>by
   refine kat_cons (mI ?_);by_cases q:x=y;.subst q;rw[beq_self_eq_true];refine kat_yes (oJ r r' (by rw[e];simp) ?_);simpa[bB]using h
   . rw[beq_eq_false_iff_ne.mpr q];refine kat_no ?_;have a:Q (decide (x<y)) s:=by simpa[bB,q]using h
     cases(b&&i==0)with|true=>exact oneLt_int a|false=>exact kat_one _ _ (wpAny_lt_int a)
noncomputable def pC(h:eA)(u:aX)(d:D):Prop:=∃a b is,u=.ref a/\oI h a (o4 b)/\gI b is/\is≠[]/\dg d=is
theorem nY{h h':eA}(k:∀b o,h.get? b=some o->h'.get? b=some o){u:aX}{d:D}(t:pC h u d):pC h' u d:=by obtain⟨a,c,is,e,⟨o,h1,f⟩,g⟩:=t;exact⟨a,c,is,e,⟨o,k _ _ h1,f⟩,g⟩
theorem uf{h h':eA}(k:∀b o,h.get? b=some o->h'.get? b=some o):∀{a:List aX}{ds:List D},Paired (pC h) a ds->Paired (pC h') a ds|_,_,.nil=>.nil|_,_,.cons r t=>.cons (nY k r) (uf k t)
theorem oX{h:eA}:∀{b:List aX}{ds:List D},Paired (pC h) b ds->∃fs,KatTups h b fs/\fs.length=b.length/\∀f∈fs,∃n t,f=eh n t|_,_,.nil=>⟨[],trivial,rfl,by simp⟩|_,_,.cons r t=>by obtain⟨fs,h1,e,g⟩:=oX t;obtain⟨a,i,is,rfl,⟨o,j,k,n,l⟩,hi,c,_⟩:=r;cases hi with|nil=>exact absurd rfl c|cons x m p=>
     refine⟨.int x m::fs,KatTups.cons j k l (by simp) h1,by simp[e],λf hf=>?_⟩;rcases de.mp hf with rfl|hf;.exact⟨_,_,rfl⟩
     .exact g f hf
theorem Fb{ds:List D}(t:Paired (pC s.heap) vs ds)(e:2<=vs.length){C:i3->a_->Prop}(a:C (tuples' (e_ "int"!=e_ "tuple")) s):cy (cS prog w) A (keyKind' vs.toArray) C E s:=by obtain⟨fs,h1,f,b⟩:=oX t;refine kat_kind (T:=.type "int") h1 (by omega) (λv c=>?_) rfl a;obtain⟨n,t,rfl⟩:=b v c;exact Looks.now
theorem Oa{x y:aX}{d e:D}(h:pC s.heap x d)(i:pC s.heap y e){b:Bool}{C:Bool->a_->Prop}(c:C (bB (dg d) (dg e)) s):cy (cS prog w) A (keyLt' (tuples' b) x y) C E s:=by obtain⟨a,j,is,rfl,⟨o,k,r,n,l⟩,hi,m,p⟩:=h;obtain⟨t,its',js,rfl,⟨u,p1,p2,v,p3⟩,f,g,q⟩:=i;refine kat_lt k l p1 p3 ?_;rw[p,q]at c;refine oJ (is:=is) (js:=js) (by simpa using hi) (by simpa using f) ?_ c;rw[cx,cx,kx hi,kx f]
end
theorem Gd{xs:List V}{a:List aX}(h:Vals xs a)(i:Nat):RelV (xs.getD i .non) (a.getD i .none):=by
 have f:=h.length;by_cases hi:i<xs.length
 . obtain⟨u,e,r⟩:=h.get (i:=i) (x:=xs[i]) (fv hi);have b:xs.getD i .non=xs[i]:=by simp[hi]
   have c:a.getD i .none=u:=by simp[e]
   rw[b,c];exact r
 . have b:xs.getD i .non=.non:=by simp[ma hi]
   have c:a.getD i .none=.none:=by simp[show a.length<=i by omega]
   rw[b,c];rfl
theorem xT{f:Nat->V}{g:Nat->aX}(h:∀i,RelV (f i) (g i)):∀l:List Nat,Vals (l.map f) (l.map g)|[]=>.nil|i::l=>.cons (h i) (xT h l)
theorem J3{p:List Nat}{xs:List V}{a:List aX}(h:Vals xs a):Vals (pick .non p xs) (pick .none p a):=xT (Gd h) _
theorem wX{K:PySem.W.Frag}{F:Hp}{f:Nat->V}{g:Nat->D}(h:∀i,Rep K F (f i) (g i)):∀l:List Nat,aH K F (l.map f) (l.map g)|[]=>.nil|i::l=>.cons (h i) (wX h l)
theorem GJ{K:PySem.W.Frag}{F:Hp}{p:List Nat}{xs:List V}{a:List D}(h:aH K F xs a):aH K F (pick .non p xs) (pick .non p a):=wX (λi=>by
 have f:=h.length;by_cases hi:i<a.length
 . obtain⟨u,e,r⟩:=h.get (i:=i) (d:=a[i]) (fv hi);have b:a.getD i .non=a[i]:=by simp[hi]
   have c:xs.getD i .non=u:=by simp[e]
   rw[b,c];exact r
 . have b:a.getD i .non=.non:=by simp[ma hi]
   have c:xs.getD i .non=.non:=by simp[show xs.length<=i by omega]
   rw[b,c,Rep]) _
theorem GR{a:List aX}:∀{ns b:List Int},gI a ns->gI a b->ns=b:=by induction a with|nil=>intro ns b h1 c;cases h1;cases c;rfl|cons u a e=>intro ns b h1 c;cases h1 with|cons n t r=>cases c with|cons m t' f=>rw[e r f]
theorem Ma{h:eA}(u:aX)(d e:D):pC h u d->pC h u e->dg d=dg e:=λ⟨a,f,is,h1,⟨o,g,r,n,i⟩,j,_,k⟩⟨b,l,js,c,⟨s,p1,p2,m,p3⟩,p,_,q⟩=>by rw[h1]at c;cases c;rw[g]at p1;cases p1;rw[i]at p3;cases p3;rw[k,q,GR j p]
theorem all_ints:∀{a:List D},a.all gK=true->a=(a.map mD).map D.int
 |[],_=>rfl|d::a,h=>by
   simp only[qA,fN]at h;cases d<;>first|(have q:=h.1;simp[gK]at q;done)|skip
   rw[c_,c_,<-all_ints h.2];rfl
theorem intsAre_of:∀{ns:List Int}{a:List aX},Vals (ns.map V.int) a->gI a ns|[],_,.nil=>.nil|n::ns,_,.cons r t=>by obtain⟨b,rfl⟩:=r;exact .cons n b (intsAre_of t)
section
variable{X:Cx}{c:Call}{a:dr}{pa:P}{pos:Pos}
theorem boot_sorted:ey "sorted"=some (.builtin "sorted"):=by decide+kernel
end
end HH
end
section
namespace HH
open PySem L2 PySem.Spec PyProof.Rows PySem.Calls
theorem yW(l b:bd)(items a:List aX)(n H:Nat)(I o:Option bd)(sl r:Array (Option aX))(is js:List Int)(hi:gI items is)(G:gI a js):mw (im.«tuple.__lt__» ⟨[.ref l,.ref b],[]⟩) (λA R s=>s.heap.get? l=some {cls:=.type "tuple",dict:=I,data:=.seq items.toArray n,slots:=sl}/\s.heap.get? b=some {cls:=.type "tuple",dict:=o,data:=.seq a.toArray H,slots:=r}/\R (.ok (.ret (.bool (bB is js)))) s):=.of_wp λprog w A R s h=>by
  obtain⟨v,g,d,z,os⟩:=s;obtain⟨J,L,h⟩:=h;have f2:=AutoSeq1.sub_tuple_tuple;wp_walk using fS J,fS L,wpAny_forIn_list _ (λf b B=>b.1=none/\B=⟨v,g,d,z,os⟩/\∃xs ys c j,f=xs.zip ys/\gI xs c/\gI ys j/\decide (items.length<a.length)=decide (c.length<j.length)/\R (.ok (.ret (.bool (bB c j)))) ⟨v,g,d,z,os⟩) _;case turn=>rintro⟨y,x⟩f b B⟨i,rfl,xs,ys,c,j,hz,h1,k,C,m⟩;cases h1 with|nil=>cases hz|cons p t h1=>cases k with|nil=>cases hz|cons q u k=>
       injection hz with hyx hrest;cases hyx;refine av (mI ?_);by_cases e:p=q;.subst e;rw[beq_self_eq_true];wp_walk;exact⟨rfl,rfl,_,_,_,_,hrest,h1,k,by rw[C];simp,by simpa[bB]using m⟩
       . rw[beq_eq_false_iff_ne.mpr e];have E:R (.ok (.ret (.bool (decide (p<q))))) ⟨v,g,d,z,os⟩:=by simpa[bB,e]using m
         simp only[Bool.not_false,if_true];refine av (kb ?_);refine av (show cy (cS prog w) A.in1 (eg .Lt (eh p t) (eh q u)) _ _ _ from wpAny_lt_int ?_);refine av (cr ?_);exact cr (cr ⟨_,rfl,E⟩)
  case fin=>
   rintro⟨b1,b2⟩B⟨i,rfl,xs,ys,c,j,hz,h1,k,C,m⟩;simp only at i;subst i;have e:bB c j=decide (items.length<a.length):=by rw[C];cases h1 with|nil=>cases k<;>simp[bB]|cons _ _ _=>cases k with|nil=>simp[bB]|cons _ _ _=>cases hz
   rw[e]at m;wp_walk;exact⟨_,rfl,by simpa[Builtin.Tuple.tupleCompareSizes]using m⟩
  case h=>exact⟨rfl,rfl,items,a,is,js,by simp,hi,G,by rw[kx hi,kx G],h⟩
section
variable{X:Cx}
theorem Jc(hu:X.A.units+8<fT):fX X (eg .Lt) (rD X.K (rQ .lt)):=by rintro f s σ H x y v u Q I E G⟨F,d,e,r,sm,J,L,he,k⟩;obtain⟨t,c,p⟩:=map_some (show(XQ d e).map _=some r from he);subst p;cases d with
 |int i=>cases e with|int j=>exact Sy f s σ H x y v u Q I E G ⟨F,.int i,.int j,_,sm,J,L,by have p:KQ (λi j=>decide (i<j)) (.int i) (.int j)=some t:=c;simp only[p];rfl,k⟩|_=>cases c
 |tup xs=>cases e with|tup ys=>obtain⟨hc,c⟩:=bC (show(if(xs.all gK&&ys.all gK)=true then some (bB (xs.map mD) (ys.map mD))else none)=some t from c);rw[fN]at hc;obtain⟨a,vs,rfl,h1,M,_⟩:=J.tup sm;obtain⟨b,ws,rfl,Y,N,_⟩:=L.tup sm;cases E;cases G;obtain⟨q,O,it,_⟩:=I.tuple h1;obtain⟨g,U,z,_⟩:=I.tuple Y;rw[all_ints hc.1]at M;rw[all_ints hc.2]at N;rw[jN M]at O;rw[jN N]at U;have Z:=intsAre_of O;have i2:=intsAre_of U;obtain⟨⟨cls,dd,data,sl⟩,ho,h,n,hd⟩:=it;obtain⟨⟨W,B,data2,C⟩,l,m,n2,o⟩:=z;simp only at h hd m o;subst h hd m o;refine(show cy (cS X.prog X.w) X.A (richCompare .Lt (.ref a) (.ref b)) _ _ s from richCompare_meets_room (op:=.Lt) ⟨_,ho,rfl⟩ ⟨_,l,rfl⟩ PySem.F.slot_tuple_lt PySem.F.entry_tuple_lt (PySem.F.args_tuple_lt_2 _ _) (yW a b q g n n2 dd B sl C _ _ Z i2) ⟨ho,l,show jh _≠kC/\_ from⟨(λx=>nomatch x),⟨.bl t,H,I,by rw[<-c];rfl,cF.dm sm (fU _) k⟩⟩⟩ (by omega))|_=>cases c
 |_=>cases c
end
end HH
end
section
namespace L2
open PySem PySem.Spec PyProof.Rows
variable{y:V}{w:ek}{H:Hp}{Q:aX->a_->Prop}{pos:Pos}{X:Cx}
section
variable{κ:Type}[DecidableEq κ]
noncomputable def jm(kvs:List (κ×V))(k:κ):Option V:=(kvs.find? λa=>decide (a.1=k)).map (·.2)
noncomputable def putK(kvs:List (κ×V))(k:κ)(v:V):List (κ×V):=if(kvs.any λa=>decide (a.1=k))=true then kvs.map (λa=>if a.1=k then(a.1,v)else a)else kvs++[(k,v)]
theorem mQ{p:κ×V}{r:List (κ×V)}{k:κ}(e:p.1=k):jm (p::r) k=some p.2:=by simp[jm,gl,e]
theorem m5{p:κ×V}{r:List (κ×V)}{k:κ}(e:¬ p.1=k):jm (p::r) k=jm r k:=by simp[jm,gl,e]
theorem qu(k:κ):∀kvs:List (κ×V),(kvs.any λa=>decide (a.1=k))=(jm kvs k).isSome
 |[]=>rfl|p::r=>by
   rw[lc];by_cases e:p.1=k;.simp only[mQ e,decide_eq_true e,Bool.true_or,Option.isSome_some]
   .rw[m5 e,decide_eq_false e,Bool.false_or];exact qu k r
theorem jU(kvs:List (κ×V))(k:κ)(v:V):(putK kvs k v).length<=kvs.length+1:=by
 unfold putK;split;.rw[dy];omega
 .rw[dZ,ea,length_nil];omega
theorem pq.iJ{o:Option V}{u:Option aX}(r:pq o u):o.isSome=u.isSome:=by cases o with
 |none=>cases u with|none=>rfl|some _=>exact(show False from r).elim
 |some _=>cases u with|none=>exact(show False from r).elim|some _=>rfl
theorem pq.getD{o:Option V}{u:Option aX}{d:V}{d':aX}(r:pq o u)(a:RelV d d'):RelV (o.getD d) (u.getD d'):=by cases o with
 |none=>cases u with|none=>exact a|some _=>exact(show False from r).elim
 |some _=>cases u with|none=>exact(show False from r).elim|some _=>exact r
theorem KV.val{kvs:List (κ×V)}{vs:List (κ×aX)}(r:KV kvs vs)(k:κ):pq (jm kvs k) (mh vs k):=by unfold KV at r;induction r with|nil=>exact kl|@cons p q ps a h t f=>
   obtain⟨h1,g⟩:=h;by_cases e:p.1=k
   . have c:q.1=k:=h1.symm.trans e;have b:mh (q::a) k=some q.2:=by simp[mh,gl,c]
     rw[mQ e,b];exact g
   . have c:¬ q.1=k:=λz=>e (h1.trans z);have b:mh (q::a) k=mh a k:=by simp[mh,gl,c]
     rw[m5 e,b];exact f
theorem KV.any{kvs:List (κ×V)}{vs:List (κ×aX)}(r:KV kvs vs)(k:κ):(kvs.any λa=>decide (a.1=k))=vs.any λa=>decide (a.1=k):=by unfold KV at r;induction r with|nil=>rfl|cons h t b=>rw[lc,lc,b,h.1]
theorem KV.repl{kvs:List (κ×V)}{vs:List (κ×aX)}(r:KV kvs vs)(k:κ){u:aX}(b:RelV y u):KV (kvs.map λa=>if a.1=k then(a.1,y)else a) (vs.map λa=>if a.1=k then(a.1,u)else a):=by unfold KV at r ⊢;induction r with|nil=>exact .nil|@cons p q ps g h t c=>
   rw[c_,c_];refine .cons ?_ c;obtain⟨h1,f⟩:=h;by_cases e:p.1=k;.rw[if_pos e,if_pos (h1.symm.trans e)];exact⟨h1,b⟩
   .rw[if_neg e,if_neg (λz=>e (h1.trans z))];exact⟨h1,f⟩
theorem KV.put{kvs:List (κ×V)}{vs:List (κ×aX)}(r:KV kvs vs)(k:κ){u:aX}(a:RelV y u):KV (putK kvs k y) (stored vs k u):=by
 unfold putK stored;rw[r.any k];by_cases e:(vs.any λb=>decide (b.1=k))=true;.rw[if_pos e,if_pos e];exact r.repl k a
 .rw[if_neg e,if_neg e];exact Paired.snoc r ⟨rfl,a⟩
theorem KV.length{kvs:List (κ×V)}{vs:List (κ×aX)}(r:KV kvs vs):kvs.length=vs.length:=Paired.length r
end
theorem rE{P:df}{k:Key}{u:aX}(r:RelV (kV k) u):(bj P w).is k u=true:=by cases k with|inl i=>obtain⟨t,e⟩:=(show ∃t,u=eh i t from r);subst e;exact xR P w i t|inr x=>obtain⟨t,e⟩:=(show ∃t,u=Value.str x t from r);subst e;exact wB P w x t
theorem uh{P:df}{w:ek}:∀{ks:List Key}{a:List aX},Vals (ks.map kV) a->ItemsAre (bj P w) ks a|[],_,r=>by rw[lm]at r;cases r;exact .nil|k::ks,_,r=>by rw[c_]at r;cases r with|cons h t=>exact .cons (rE h) (uh t)
noncomputable abbrev KT(H:Hp):List (List Key×V)->List (List Key×bd×aX)->Prop:=Paired λp q=>p.1=q.1/\H q.2.1=some (.tup (p.1.map kV))/\RelV p.2 q.2.2
theorem KT.val{kvs:List (List Key×V)}{xs:List (List Key×bd×aX)}(r:KT H kvs xs)(k:List Key):pq (jm kvs k) ((nK xs k).map (·.2)):=by induction r with|nil=>exact kl|@cons p q ps a h t f=>
   obtain⟨h1,_,g⟩:=h;by_cases e:p.1=k
   . have c:q.1=k:=h1.symm.trans e;have b:nK (q::a) k=some q.2:=by simp[nK,gl,c]
     rw[mQ e,b];exact g
   . have c:¬ q.1=k:=λz=>e (h1.trans z);have b:nK (q::a) k=nK a k:=by simp[nK,gl,c]
     rw[m5 e,b];exact f
theorem KT.repl{kvs:List (List Key×V)}{xs:List (List Key×bd×aX)}(r:KT H kvs xs)(k:List Key){u:aX}(c:RelV y u):KT H (kvs.map λa=>if a.1=k then(a.1,y)else a) (xs.map (putAt k u)):=by induction r with|nil=>exact .nil|@cons p q ps i h t f=>
   rw[c_,c_];refine .cons ?_ f;obtain⟨h1,b,g⟩:=h;unfold putAt;by_cases e:p.1=k;.rw[if_pos e,if_pos (h1.symm.trans e)];exact⟨h1,b,c⟩
   .rw[if_neg e,if_neg (λz=>e (h1.trans z))];exact⟨h1,b,g⟩
theorem KT.put{kvs:List (List Key×V)}{xs:List (List Key×bd×aX)}(r:KT H kvs xs)(k:List Key){b:bd}{u:aX}(c:H b=some (.tup (k.map kV)))(a:RelV y u):KT H (putK kvs k y) (storedH xs k b u):=by
 have e:(kvs.any λf=>decide (f.1=k))=(nK xs k).isSome:=by rw[qu,(r.val k).iJ,isSome_map]
 unfold putK storedH;rw[e];by_cases q:(nK xs k).isSome=true;.rw[if_pos q,if_pos q];exact r.repl k a
 .rw[if_neg q,if_neg q];exact Paired.snoc r ⟨rfl,c,a⟩
theorem KT.keeps{a:Hp}{kvs:List (List Key×V)}{xs:List (List Key×bd×aX)}(r:KT H kvs xs)(ht:∀b ys,H b=some (.tup ys)->a b=some (.tup ys)):KT a kvs xs:=Paired.Ss r λ_ _ z=>⟨z.1,ht _ _ z.2.1,z.2.2⟩
section
variable{P:df}{w:ek}{H:Hp}{h:eA}{a:bd}
theorem Qu{u:HO}(ok:ni P w H h)(e:Rd H a u):bJ P w H h a u:=e.ok ok
theorem rJ{kvs:List (Key×V)}(ok:ni P w H h)(e:Rd H a (.dK kvs)):kvs.length<=sizeLine/\(a==g9)=false/\∃vs,KV kvs vs/\h.DictOf (bj P w) a vs:=show bJ P w H h a (.dK kvs)from Qu ok e
theorem Pu{kvs:List (Key×V)}(ok:ni P w H h)(e:H a=some (.dK kvs)):kvs.length<=sizeLine/\(a==g9)=false/\∃vs,KV kvs vs/\h.DictOf (bj P w) a vs:=rJ ok (.inl e)
theorem nW{ks:List Key}(ok:ni P w H h)(e:H a=some (.tup (ks.map kV))):(ll (bj P w)).is h ks a:=by obtain⟨_,b,r,o,h1,c,n,f⟩:=(show bJ P w H h a (.tup (ks.map kV))from ok a _ e);exact⟨o,b.toArray,n,h1,c,f,by simpa using uh r⟩
theorem rR{kvs:List (List Key×V)}(ok:ni P w H h)(e:Rd H a (.dT kvs)):kvs.length<=sizeLine/\(a==g9)=false/\∃xs,KT H kvs xs/\h.DictOfH (ll (bj P w)) a xs:=by
 obtain⟨z,y,xs,r,o,es,ep,h1,c,f,g,i⟩:=(show bJ P w H h a (.dT kvs)from Qu ok e);refine⟨z,y,xs,r,o,es,ep,h1,c,f,g,λx hx=>?_,i⟩;have all:∀{l:List (List Key×V)}{m:List (List Key×bd×aX)},KT H l m->∀x∈m,(ll (bj P w)).is h x.1 x.2.1:=by intro l m q;induction q with|nil=>intro x hx;exact nomatch hx|@cons p q ps k b t j=>
    intro x hx;rcases de.mp hx with e|hx;.subst e;exact nW ok (by rw[<-b.1];exact b.2.1)
    .exact j x hx
 exact all r x hx
theorem Yb{kvs:List (List Key×V)}(ok:ni P w H h)(e:H a=some (.dT kvs)):kvs.length<=sizeLine/\(a==g9)=false/\∃xs,KT H kvs xs/\h.DictOfH (ll (bj P w)) a xs:=rR ok (.inl e)
end
noncomputable def nR(H:Hp)(a:bd)(y:V)(r:Option V):Prop:=(∃kvs k,Rd H a (.dK kvs)/\y=kV k/\r=jm kvs k)\/∃kvs k b,Rd H a (.dT kvs)/\y=.ref b/\H b=some (.tup (k.map kV))/\r=jm kvs k
noncomputable def Z0(H:Hp)(a:bd)(y v:V)(c:Hp):Prop:=(∃kvs k,H a=some (.dK kvs)/\y=kV k/\kvs.length<sizeLine/\c=upd H a (.dK (putK kvs k v)))\/∃kvs k b,H a=some (.dT kvs)/\y=.ref b/\H b=some (.tup (k.map kV))/\kvs.length<sizeLine/\c=upd H a (.dT (putK kvs k v))
section
variable{X:Cx}{pins:List (bd×Obj)}{σ:St}{H:Hp}{s:a_}{a:bd}{y v:V}{u r:aX}{o:Option V}{A:ez}{E:aX->a_->Prop}
theorem Inv.big(I:Inv X pins σ H s):g9<s.heap.objs.size:=by have h:dc<s.heap.objs.size:=(I.mod.glob.keeps I.bk).lt;exact nS (by decide) h
theorem nP(B:A.units+1<fT)(I:Inv X pins σ H s)(g:nR H a y (some v))(t:RelV y u)(h:∀f x,Inv X pins σ H x->RelV v f->Q f x):cy (cS X.prog X.w) A (jS (.ref a) u) Q E s:=by
 rcases g with⟨kvs,k,e,i,l⟩|⟨kvs,k,b,e,i,C,l⟩;.subst i;obtain⟨z,hd,vs,c,j⟩:=rJ I.hok e;obtain⟨f,m,n⟩:=pq.some_of (v:=v) (o:=mh vs k) (by rw[l];exact c.val k);exact wpAny_getItem_of (rE t) j.mapOf m (h f _ (I.tok _) n)
 .subst i;cases(show u=dY b from t);obtain⟨z,hd,xs,c,j⟩:=rR I.hok e;obtain⟨f,m,n⟩:=pq.some_of (v:=v) (o:=(nK xs k).map (·.2)) (by rw[l];exact c.val k);obtain⟨p,G,q⟩:=fh.mp m;refine wpAny_getItem_heap (iA B) (nW I.hok C) j G ?_;rw[q];exact h f _ (I.tok _) n
theorem YQ(n:A.units+1<fT)(I:Inv X pins σ H s)(g:nR H a y o)(j:RelV y u)(h:∀m,Inv X pins σ H m->Q (.bool o.isSome) m):cy (cS X.prog X.w) A (eg .In u (.ref a)) Q E s:=by
 rcases g with⟨kvs,k,e,f,l⟩|⟨kvs,k,b,e,f,p,l⟩;.subst f;obtain⟨z,hd,vs,c,i⟩:=rJ I.hok e;refine wpAny_in_of (rE j) hd i.mapOf ?_;rw[<-(c.val k).iJ,<-l];exact h _ (I.tok _)
 .subst f;cases(show u=dY b from j);obtain⟨z,hd,xs,c,i⟩:=rR I.hok e;refine wpAny_in_heap (iA n) (nW I.hok p) hd i ?_;have q:=(c.val k).iJ;rw[isSome_map]at q;rw[<-q,<-l];exact h _ (I.tok _)
theorem BX(n:A.units+1<fT)(I:Inv X pins σ H s)(g:nR H a y o)(j:RelV y u)(h:∀m,Inv X pins σ H m->Q (.bool (!o.isSome)) m):cy (cS X.prog X.w) A (eg .NotIn u (.ref a)) Q E s:=by
 rcases g with⟨kvs,k,e,f,l⟩|⟨kvs,k,b,e,f,p,l⟩;.subst f;obtain⟨z,hd,vs,c,i⟩:=rJ I.hok e;refine wpAny_notIn_of (rE j) hd i.mapOf ?_;rw[<-(c.val k).iJ,<-l];exact h _ (I.tok _)
 .subst f;cases(show u=dY b from j);obtain⟨z,hd,xs,c,i⟩:=rR I.hok e;refine wpAny_notIn_heap (iA n) (nW I.hok p) hd i ?_;have q:=(c.val k).iJ;rw[isSome_map]at q;rw[<-q,<-l];exact h _ (I.tok _)
theorem vO{h':eA}{t':Nat}{c:HO}(I:Inv X pins σ H s)(g:XM (H a))(hs:pS a s.heap h')(he:∃q,h'.get? a=some q)(f:bJ X.prog X.w (upd H a c) h' a c):Inv X pins σ (upd H a c) {s with heap:=h',toks:=t'}:=I.write (x:=a) (e:=a) g (.inl rfl) (λb q h z=>(hs.2 b h).trans z) he f
theorem Hm{P:df}{c:Hp}{h':eA}{kvs:List (Key×V)}{vs:List (Key×aX)}(z:kvs.length<=sizeLine)(hd:(a==g9)=false)(b:KV kvs vs)(e:h'.DictOf (bj P w) a vs):bJ P w c h' a (.dK kvs):=⟨z,hd,vs,b,e⟩
theorem Fv{x:Hp}{Q:Unit->a_->Prop}(M:A.units+1<fT)(I:Inv X pins σ H s)(g:Z0 H a y v x)(B:RelV y u)(C:RelV v r)(h:∀G,Inv X pins σ x G->Q () G):cy (cS X.prog X.w) A (nh (.ref a) u r) Q E s:=by
 rcases g with⟨kvs,k,e,m,l,n⟩|⟨kvs,k,b,e,m,J,l,n⟩
 . subst m n;obtain⟨z,hd,vs,f,p⟩:=Pu I.hok e;have hz:vs.length<=sizeLine:=by rw[<-f.length];exact z
   have t:(putK kvs k v).length<=sizeLine:=by have:=jU kvs k v;omega
   refine wpAny_setItem_pairs (hsz:=hz) (rE B) p λh' i hs=>h _ ?_;have he:∃q,h'.get? a=some q:=let⟨q,_,_,j,_⟩:=i;⟨q,j⟩;exact vO I (by rw[e];exact kl) hs he (Hm t hd (f.put k C) i)
 . subst m n;cases(show u=dY b from B);obtain⟨z,hd,xs,f,p⟩:=Yb I.hok e;have hz:xs.length<=sizeLine:=by rw[<-Paired.length f];exact z
   have t:(putK kvs k v).length<=sizeLine:=by have:=jU kvs k v;omega
   refine wpAny_setItem_heap (hsz:=hz) (iA M) (nW I.hok J) p λh' i hs=>h _ ?_;obtain⟨q,es,ep,j,N,O,U,_,W⟩:=i;refine vO I (by rw[e];exact kl) hs ⟨q,j⟩ ⟨t,hd,_,(f.put k J C).keeps λc ys L=>?_,q,es,ep,j,N,O,U,W⟩;rw[aC (XJ L e (λz=>nomatch z))];exact L
end
noncomputable def Lr(i:dr):Prop:=∀a iv,mP i false a iv=operate [a,iv] (jS a iv)
theorem Bv{prog:df}{A:ez}{E:aX->a_->Prop}{s:a_}{env:Env}{a slice:dr}{T id:String}(l:nq (.type T) "__getitem__"=eT (some (.builtin id)))(hs:Lr slice)(h:cy (cS prog w) A (eu a env) (λo e=>cy (cS prog w) A (eu slice env) (λi b=>b.TypeIs o T/\cy (cS prog w) A (jS o i) Q E b) E e) E s):cy (cS prog w) A (eu (.Subscript a slice pos) env) Q E s:=by
 refine Subscript_ (et h (λo e g=>et g (λi b c=>?_) λ_ _ x=>x) λ_ _ x=>x);obtain⟨k,c⟩:=c;unfold oq;refine av ?_;rw[getitemInPython_of_ne k.not_modules];refine av (m4 k l ?_);have fin:cy (cS prog w) A (mP slice false o i) (λr f=>cy (cS prog w) A (letTemporaryGo a o r>>=λ_=>eT r) Q E f) E b:=by rw[hs o i];exact wpAny_operating (et c (λr f j=>av (wpAny_letTemporaryGo (cr j))) λ_ _ x=>x)
 first|exact cr (av fin)|exact av (cr (av fin))|exact av fin
theorem ju{c:List (bd×Obj)}{σ:St}{s:a_}{a:bd}{o:Option V}(I:Inv X c σ H s)(g:nR H a y o):s.TypeIs (.ref a) "dict":=by
 rcases g with⟨kvs,k,e,_,_⟩|⟨kvs,k,b,e,_,_,_⟩;.obtain⟨_,_,vs,_,f⟩:=rJ I.hok e;exact f.typeIs
 .obtain⟨_,_,xs,_,f⟩:=rR I.hok e;exact f.typeIs
noncomputable def Zo(c ty:TE):TE:=λσ H Q=>c σ H λx e=>ty σ e λy b=>∃a v,x=.ref a/\nR b a y (some v)/\Q v b
noncomputable def ad7(ty c:TE):TE:=λσ H Q=>ty σ H λy e=>c σ e λx b=>∃a o,x=.ref a/\nR b a y o/\Q (.bl o.isSome) b
noncomputable def Oo(ty c:TE):TE:=λσ H Q=>ty σ H λy e=>c σ e λx b=>∃a o,x=.ref a/\nR b a y o/\Q (.bl (!o.isSome)) b
noncomputable def Y8(c ty e:TE):TS:=λD σ H=>e σ H λv f=>c σ f λx g=>ty σ g λy h=>∃a b,x=.ref a/\Z0 h a y v b/\D.nx σ b
section
variable{X:Cx}{o i e value:dr}{pos pos' tpos:Pos}{td ty tv:TE}
theorem K6(c:X.A.units+1<fT)(ho:PE X o td)(hi:PE X i ty)(hs:Lr i):PE X (.Subscript o i pos) (Zo td ty):=by intro b s σ H Q I h;refine Bv PySem.F.slot_dict_getitem.lookup hs (bY (ho b s σ H _ I h) λu s1⟨x,H1,I1,rx,q1⟩=>bY (hi b s1 σ H1 _ I1 q1) λiv s2⟨y,H2,I2,ry,a,v,ex,g,q2⟩=>?_);subst ex;obtain rfl:u=dY a:=rx;exact⟨ju I2 g,nP c I2 g ry λk s3 f j=>⟨v,H2,f,j,q2⟩⟩
theorem TV(c:X.A.units+1<fT)(hi:PE X i ty)(ho:PE X o td):PC X .In i o (ad7 ty td):=by intro b s σ H Q I h;refine bY (hi b s σ H _ I h) λiv s1⟨y,H1,I1,ry,q1⟩=>bY (ho b s1 σ H1 _ I1 q1) λu s2⟨x,H2,I2,rx,a,ov,ex,g,q2⟩=>?_;subst ex;obtain rfl:u=dY a:=rx;exact YQ c I2 g ry λs3 f=>⟨.bl ov.isSome,H2,f,rfl,q2⟩
theorem Ez(c:X.A.units+1<fT)(hi:PE X i ty)(ho:PE X o td):PC X .NotIn i o (Oo ty td):=by intro b s σ H Q I h;refine bY (hi b s σ H _ I h) λiv s1⟨y,H1,I1,ry,q1⟩=>bY (ho b s1 σ H1 _ I1 q1) λu s2⟨x,H2,I2,rx,a,ov,ex,g,q2⟩=>?_;subst ex;obtain rfl:u=dY a:=rx;exact BX c I2 g ry λs3 f=>⟨.bl (!ov.isSome),H2,f,rfl,q2⟩
theorem BZ(c:X.A.units+1<fT)(ho:PE X o td)(hi:PE X i ty)(f:PE X value tv)(hs:fx value (some (.Subscript o i pos')) pos.line X.env=eT false):PS X (.Assign [.Subscript o i pos'] value pos) (Y8 td ty tv):=by intro b s σ H D I h;refine wpAny_Assign_Subscript (bY (f b s σ H _ I h) λr s1⟨v,H1,I1,rv,q1⟩=>bY (ho b s1 σ H1 _ I1 q1) λu s2⟨x,H2,I2,rx,q2⟩=>bY (hi b s2 σ H2 _ I2 q2) λiv s3⟨y,H3,I3,ry,a,H4,ex,g,q3⟩=>?_) hs;subst ex;obtain rfl:u=dY a:=rx;exact Fv c I3 g ry rv λs4 j=>⟨σ,H4,j,q3⟩
end
theorem xN{P:df}(h:eA)(a:g9<h.objs.size):bJ P w H (h.push {cls:=.type "dict",data:=.dict #[]}) h.objs.size (.dK []):=⟨vU,beq_eq_false_iff_ne.mpr (gu (dS a)),[],.nil,Heap.DictOf.new h⟩
noncomputable def Vb:TE:=λ_ H Q=>∀p,H p=none->Q (.ref p) (upd H p (.dK []))
section
variable{X:Cx}{pos:Pos}
theorem yc:PE X (.Dict [] [] pos) Vb:=λb s σ H Q I h=>wpAny_Dict_empty ⟨.ref s.heap.objs.size,_,I.laid (a:=s.heap.objs.size) (o:=.dK []) (t':=s.toks) (λ_ _ q=>dM q) (dw) (xN s.heap I.big),rfl,h _ (I.hok.fresh (dw))⟩
end
noncomputable def zq:List (TE×TE)->St->Hp->(List (V×V)->Hp->Prop)->Prop|[],_,H,Q=>Q [] H|(a,b)::r,σ,H,Q=>a σ H λx c=>b σ c λy e=>zq r σ e λps f=>Q ((x,y)::ps) f
noncomputable abbrev VV:List (V×V)->List (aX×aX)->Prop:=Paired λp q=>RelV p.1 q.1/\RelV p.2 q.2
noncomputable def PPs(X:Cx)(pos:Pos)(keys:List (Option dr))(a:List dr)(e:List (TE×TE)):Prop:=∀(b:List (bd × Obj))(s:a_)(σ:St)(H:Hp)(Q:List (V × V)->Hp->Prop),Inv X b σ H s->zq e σ H Q->cy (cS X.prog X.w) X.A (evalPairs (pairTrees keys a X.env pos)) (λvs f=>∃ps c,Inv X b σ c f/\VV ps vs/\Q ps c) X.xe s
theorem Df:PPs X pos [] [] []:=λa s σ H Q I h=>pairTrees_nil_walk ⟨[],H,I,.nil,h⟩
theorem wO{k v:dr}{ks:List (Option dr)}{vs:List dr}{b c:TE}{e:List (TE×TE)}(f:PE X k b)(g:PE X v c)(hr:PPs X pos ks vs e):PPs X pos (some k::ks) (v::vs) ((b,c)::e):=λa s σ H Q I h=>pairTrees_cons_walk (bY (f a s σ H _ I h) λu s1⟨x,H1,I1,rx,q1⟩=>bY (g a s1 σ H1 _ I1 q1) λi s2⟨y,H2,I2,ry,q2⟩=>bY (hr a s2 σ H2 _ I2 q2) λws s3⟨ps,H3,I3,rel,q3⟩=>⟨(x,y)::ps,H3,I3,.cons ⟨rx,ry⟩ rel,q3⟩)
noncomputable def n6(kvs more:List (Key×V)):List (Key×V):=more.foldl (λa b=>putK a b.1 b.2) kvs
theorem KV.merge:∀{more:List (Key×V)}{a:List (Key×aX)}{kvs:List (Key×V)}{vs:List (Key×aX)},KV more a->KV kvs vs->KV (n6 kvs more) (merged vs a):=by intro more a kvs vs r;unfold KV at r;induction r generalizing kvs vs with|nil=>intro q;exact q|@cons p q ps c h t b=>
   intro r0;have e:KV (putK kvs p.1 p.2) (stored vs q.1 q.2):=by have:=r0.put p.1 h.2;rw[<-h.1];exact this
   exact b e
theorem lg:∀(more kvs:List (Key×V)),(n6 kvs more).length<=kvs.length+more.length|[],kvs=>by show kvs.length<=kvs.length+0;omega|p::r,kvs=>by have h1:=lg r (putK kvs p.1 p.2);have a:=jU kvs p.1 p.2;show(n6 (putK kvs p.1 p.2) r).length<=_;rw[ea];omega
theorem qT{P:df}{w:ek}:∀{kvs:List (Key×V)}{ws:List (aX×aX)},VV (kvs.map λf=>(kV f.1,f.2)) ws->∃e,Carries (bj P w) ws e/\KV kvs e|[],_,r=>by rw[lm]at r;cases r;exact⟨[],kl,.nil⟩|p::kvs,_,r=>by rw[c_]at r;cases r with|@cons a b as bs h t=>obtain⟨e,c,q⟩:=qT (P:=P) (w:=w) t;obtain⟨b1,b2⟩:=b;exact⟨(p.1,b2)::e,⟨rE h.1,rfl,c⟩,.cons ⟨rfl,h.2⟩ q⟩
noncomputable def YS(c:List (TE×TE)):TE:=λσ H Q=>∀p,H p=none->zq c σ (upd H p (.dK [])) λps a=>a p=some (.dK [])/\∃kvs:List (Key×V),ps=kvs.map (λb=>(kV b.1,b.2))/\kvs.length<=15/\Q (.ref p) (upd a p (.dK (n6 [] kvs)))
theorem CW{keys:List (Option dr)}{b:List dr}{j:List (TE×TE)}(h:PPs X pos keys b j)(f:keys.all (·.isSome)=true)(l:keys.length=b.length)(h0:keys≠[])(i:keys.length<=15):PE X (.Dict keys b pos) (YS j):=by
 intro g s σ H Q I q;have m:=I.hok.fresh (le_refl s.heap.objs.size);have n:=I.laid (a:=s.heap.objs.size) (o:=.dK []) (h':=s.heap.push {cls:=.type "dict",data:=.dict #[]}) (t':=s.toks) (λ_ _ q=>dM q) (dw) (xN s.heap I.big);refine wpAny_Dict_walk (knd:=bj X.prog X.w) f l h0 i (bY (h g _ σ _ _ n (q _ m)) λws s2⟨ps,H2,I2,rel,e,kvs,ep,lk,q2⟩=>?_);subst ep;obtain⟨p,c,r⟩:=qT (P:=X.prog) (w:=X.w) rel;obtain⟨z,hd,t,r0,u⟩:=Pu I2.hok e;cases r0;refine⟨p,c,u,λh' k hs=>⟨.ref s.heap.objs.size,_,?_,rfl,q2⟩⟩;have hz:(n6 [] kvs).length<=sizeLine:=by have h1:=lg kvs [];rw[length_nil]at h1;rw[fe];omega
 have he:∃q,h'.get? s.heap.objs.size=some q:=let⟨q,_,_,hq,_⟩:=k;⟨q,hq⟩;exact vO I2 (by rw[e];exact kl) hs he (Hm hz hd (r.merge .nil) k)
structure M2(X:Cx)(o:dr)(m:Str)(apos:Pos)(e f:dr)(cpos:Pos):Prop where
 base:ix o m X.env (eu o X.env)=eu o X.env
 few:((iF cpos (cv [e,f] X.env)).all (λx=>!x.1)&&(nI cpos (k9 [] X.env)).all (λx=>x.1.isSome)&&decide (([e,f]:List dr).length+([]:List kn).length+(if([]:List kn).isEmpty then 0 else 1)<30))=true
 line:(apos.endLine==cpos.line)=true
 trees:iF cpos (cv [e,f] X.env)=[(false,eu e X.env),(false,eu f X.env)]
noncomputable def IsD(H:Hp)(a:bd):Prop:=(∃kvs,Rd H a (.dK kvs))\/∃kvs,Rd H a (.dT kvs)
theorem U7{f:List (bd×Obj)}{σ:St}{s:a_}{a:bd}(I:Inv X f σ H s)(d:IsD H a):s.TypeIs (.ref a) "dict"/\(∀b,dY a=.ref b->∃c,s.heap.get? b=some c/\c.dict=none)/\(a==g9)=false:=by
 rcases d with⟨kvs,e⟩|⟨kvs,e⟩;.obtain⟨_,hd,vs,_,g⟩:=rJ I.hok e;refine⟨g.typeIs,λb q=>?_,hd⟩;cases q;obtain⟨c,_,_,h1,h,_⟩:=g;exact⟨c,h1,h.2.1⟩
 .obtain⟨_,hd,xs,_,g⟩:=rR I.hok e;refine⟨g.typeIs,λb q=>?_,hd⟩;cases q;obtain⟨c,_,_,h1,h,_⟩:=g;exact⟨c,h1,h.2.1⟩
section
variable{X:Cx}{pins:List (bd×Obj)}{σ:St}{H:Hp}{s:a_}{a:bd}{y d:V}{u r:aX}{o:Option V}{A:ez}{E:aX->a_->Prop}
theorem T6(q:A.units+1<fT)(I:Inv X pins σ H s)(g:nR H a y o)(j:RelV y u)(m:RelV d r)(h:∀n p,Inv X pins σ H p->RelV (o.getD d) n->Q n p):cy (cS X.prog X.w) A (call (.builtin "dict.get") [.ref a,u,r]) Q E s:=by
 rcases g with⟨kvs,k,e,i,l⟩|⟨kvs,k,b,e,i,t,l⟩;.subst i;obtain⟨z,hd,vs,c,f⟩:=rJ I.hok e;refine pE slot_dict_get f.typeIs PySem.F.entry_dict_get (PySem.F.args_dict_get_3 _ _ _) (meets_dict_get_default (bj X.prog X.w) a (rE j) hd r) ⟨_,f.mapOf,h _ _ (I.tok _) ?_⟩;rw[l];exact(c.val k).getD m
 .subst i;cases(show u=dY b from j);obtain⟨z,hd,xs,c,f⟩:=rR I.hok e;refine pE slot_dict_get f.typeIs PySem.F.entry_dict_get (PySem.F.args_dict_get_3 _ _ _) (meetsH_dict_get_default (ll (bj X.prog X.w)) a b hd r) ⟨iA q,k,xs,nW I.hok t,f,h _ _ (I.tok _) ?_⟩;rw[l];exact(c.val k).getD m
end
noncomputable def Uj(e ty f:TE):TE:=λσ H Q=>e σ H λx b=>∃a,x=.ref a/\IsD b a/\ty σ b λy g=>f σ g λz c=>∃o,nR c a y o/\Q (o.getD z) c
section
variable{X:Cx}{o e f:dr}{apos cpos:Pos}{td ty tx:TE}
theorem Hk(c:X.A.units+1<fT)(ho:PE X o td)(he:PE X e ty)(i:PE X f tx)(m:M2 X o "get" apos e f cpos):PE X (.Call (.Attribute o "get" apos) [e,f] [] cpos) (Uj td ty tx):=by intro b s σ H Q I h;refine wpAny_Call_method m.base m.few m.line PySem.F.plainAttrs_dict slot_dict_get PySem.F.type_dict_get (bY (ho b s σ H _ I h) λu s1⟨x,H1,I1,rx,a,ex,d,q1⟩=>?_);subst ex;obtain rfl:u=dY a:=rx;obtain⟨t1,t2,_⟩:=U7 I1 d;refine⟨t1,t2,?_⟩;rw[m.trees];refine kg rfl (oe (jx (bY (he b s1 σ H1 _ I1 q1) λiv s2⟨y,H2,I2,ry,q2⟩=>jx (bY (i b s2 σ H2 _ I2 q2) λl s3⟨z,H3,I3,rz,ov,g,q3⟩=>lj ?_))));exact T6 c I3 g ry rz λn s4 j k=>⟨_,H3,j,k,q3⟩
end
end L2
namespace Att
open PySem PySem.W PySem.Calls PyProof.Rows
end Att
namespace L2
open PySem PySem.Spec PyProof.Rows
end L2
end
section
namespace HH
open PySem L2 PySem.Spec PyProof.Rows
variable{kvs:List (Int×D)}{es:List (Key×V)}{k:Int}{i:Nat}
inductive KR(K:PySem.W.Frag)(F:Hp):List (Int×D)->List (Key×V)->Prop where|nil:KR K F [] []|cons{k:Int}{d:D}{v:V}{kvs:List (Int×D)}{es:List (Key×V)}(h:Rep K F v d)(t:KR K F kvs es):KR K F ((k,d)::kvs) ((dL k,v)::es)
section
variable{K:PySem.W.Frag}{F F':Hp}
noncomputable def ent(ks:List Int)(vs:List V):List (Key×V):=(ks.zip vs).map λp=>(dL p.1,p.2)
theorem KR.of:∀{kvs:List (Int×D)}{vs:List V},aH K F vs (kvs.map (·.2))->KR K F kvs (ent (kvs.map (·.1)) vs)|[],vs,h=>by rw[lm]at h;rw[h.fV];exact .nil|(k,d)::kvs,vs,h=>by obtain⟨v,r,rfl,h1,a⟩:=h.cL;exact .cons h1 (KR.of a)
theorem KR.to(h:KR K F kvs es):∃vs,es=ent (kvs.map (·.1)) vs/\aH K F vs (kvs.map (·.2)):=by induction h with|nil=>exact⟨[],rfl,.nil⟩|@cons k d v kvs es h t a=>obtain⟨vs,rfl,r⟩:=a;exact⟨v::vs,rfl,.cons h r⟩
theorem KR.oc(h:KR K F kvs es):kZ K F (.dK es) (.v kvs):=by obtain⟨vs,rfl,r⟩:=h.to;exact⟨vs,rfl,r⟩
theorem KR.SN{o:HO}(h:kZ K F o (.v kvs)):∃es,o=.dK es/\KR K F kvs es:=by obtain⟨vs,rfl,r⟩:=h;exact⟨_,rfl,.of r⟩
theorem KR.len(h:KR K F kvs es):es.length=kvs.length:=by induction h with|nil=>rfl|cons h t a=>simp[a]
theorem KR.get{d:D}(h:KR K F kvs es)(e:lL kvs k=some d):∃v,jm es (dL k:Key)=some v/\Rep K F v d:=by induction h with|nil=>cases e|@cons j d' v kvs es h t a=>
   unfold lL at e a;rw[gl]at e;by_cases c:j=k;.simp[c]at e;subst e;exact⟨v,mQ (by rw[c]),h⟩
   .simp[c]at e;obtain⟨b,h1,f⟩:=a (by simpa using e);exact⟨b,by rw[m5 (by simpa using c)];exact h1,f⟩
theorem KR.any{kvs:List (Int×D)}{es:List (Key×V)}(k:Int)(h:KR K F kvs es):(es.any λa=>decide (a.1=(dL k:Key)))=kvs.any λp=>decide (p.1=k):=by induction h with|nil=>rfl|cons h t b=>simp[b]
theorem KR.has(k:Int)(h:KR K F kvs es):(jm es (dL k:Key)).isSome=(kvs.map (·.1)).contains k:=by rw[<-qu,h.any k];induction h with|nil=>rfl|@cons j d v kvs es h t a=>rw[lc,a,c_,List.contains_cons];congr 1;exact me.mpr ⟨λz=>by simp at z ⊢;exact z.symm,λz=>by simp at z ⊢;exact z.symm⟩
theorem KR.repl{d:D}{v:V}(r:Rep K F v d)(h:KR K F kvs es):KR K F (kvs.map λp=>if p.1=k then(p.1,d)else p) (es.map λa=>if a.1=(dL k:Key)then(a.1,v)else a):=by induction h with|nil=>exact .nil|@cons j d' e kvs es h t b=>
   by_cases c:j=k;.subst c;simp;exact .cons r b
   . have:¬(dL j:Key)=dL k:=by simpa using c
     simp[c,this];exact .cons h b
theorem KR.snoc{d:D}{v:V}(r:Rep K F v d)(h:KR K F kvs es):KR K F (kvs++[(k,d)]) (es++[(dL k,v)]):=by induction h with|nil=>exact .cons r .nil|cons h t a=>exact .cons h a
theorem KR.put{d:D}{v:V}(r:Rep K F v d)(h:KR K F kvs es):KR K F (fZ kvs k d) (putK es (dL k:Key) v):=by
 unfold fZ putK;rw[h.any k];split;.exact h.repl r
 .exact h.snoc r
theorem KR.zip{ks:List Int}{a:List D}{vs:List V}(h:aH K F vs a)(b:ks.length=a.length):KR K F (ks.zip a) (ent ks vs):=by induction a generalizing ks vs with
 |nil=>rw[h.fV];cases ks with|nil=>exact .nil|cons _ _=>simp at b
 |cons d a c=>obtain⟨v,r,rfl,h1,e⟩:=h.cL;cases ks with|nil=>simp at b|cons k ks=>exact .cons h1 (c e (by simpa using b))
end
section
variable{K:PySem.W.Frag}{F F1 H H1:Hp}{ρ ρ1 ρ2:List Sl}{σ σ1:L2.St}
theorem GS.aeL{x:Nat}{m p:Dc}{a:bd}(g:GS K F ρ σ H)(e:ρ[x]?=some (.gO m))(r:σ[x]?=some (some (.ref a))):aB K F ρ σ H F (ρ.set x (.gO p)) σ (upd H a p.ho):=by
 have hi:x<ρ.length:=(dJ e).1;have v:bf ρ σ x a:=⟨⟨_,_,e,rfl⟩,r⟩;obtain⟨I,J,h1,L,w,M⟩:=g.own x _ _ e rfl;rw[r]at h1;cases h1;have f:∀{j:Nat}{c:bd},bf (ρ.set x (.gO p)) σ j c->bf ρ σ j c:=λ{j c}⟨⟨t,dt,h,s⟩,q3⟩=>by
  by_cases b:j=x;.subst b;exact⟨⟨_,_,e,rfl⟩,q3⟩
  .rw[fG b]at h;exact⟨⟨t,dt,h,s⟩,q3⟩
 refine⟨⟨λc o q=>?_,by simp[g.len],λj z d q=>?_,λj t dt q u=>?_,λj k c h s=>g.dis j k c (f h) (f s)⟩,.refl _,λc n A=>absurd n A,λc o q n=>?_,λc⟨j,q⟩=>.inl ⟨j,f q⟩,by simp,λj t q l=>⟨rfl,?_⟩⟩
 . have:c≠a:=by rintro rfl;rw[w]at q;cases q
   rw[aC this];exact g.sub c o q
 . by_cases b:j=x;.subst b;rw[bx hi]at q;cases q
   .rw[fG b]at q;exact g.val j z d q
 . by_cases b:j=x;.subst b;rw[bx hi]at q;cases q;cases u;exact⟨a,_,r,aP,w,rfl⟩
   . rw[fG b]at q;obtain⟨c,B,y,C,E,G⟩:=g.own j t dt q u;have:c≠a:=by rintro rfl;exact b (g.dis j x c ⟨⟨t,dt,q,u⟩,y⟩ v)
     exact⟨c,B,y,by rw[aC this];exact C,E,G⟩
 . have:c≠a:=by rintro rfl;exact n ⟨x,v⟩
   rw[aC this];exact q
 . by_cases b:j=x;.subst b;rw[e]at q;cases q;cases l
   .exact⟨t,by rw[fG b];exact q,.refl t⟩
theorem GS.newD{m:Dc}{a:bd}(g:GS K F ρ σ H)(e:ρ[i]?=some .aQ)(s:H a=none):aB K F ρ σ H F (ρ.set i (.gO m)) (σ.set i (some (.ref a))) (upd H a m.ho):=by
 have hi:i<ρ.length:=(dJ e).1;have u:i<σ.length:=by rw[<-g.len];exact hi
 have x:F a=none:=by cases q:F a with|none=>rfl|some o=>rw[g.sub a o q]at s;cases s
 have f:∀{j:Nat}{c:bd},j≠i->bf (ρ.set i (.gO m)) (σ.set i (some (.ref a))) j c->bf ρ σ j c:=λ{j c}b⟨⟨t,ds,e1,e2⟩,e3⟩=>by rw[fG b]at e1 e3;exact⟨⟨t,ds,e1,e2⟩,e3⟩
 have h:∀{c:bd},bf (ρ.set i (.gO m)) (σ.set i (some (.ref a))) i c->c=a:=λ{c}⟨_,e3⟩=>by rw[bx u]at e3;cases e3;rfl
 have no:∀{j:Nat},¬ bf ρ σ j a:=λ{j}⟨⟨t,ds,e1,e2⟩,e3⟩=>by obtain⟨c,o,p,r,_⟩:=g.own j t ds e1 e2;rw[e3]at p;cases p;rw[s]at r;cases r
 refine⟨⟨λc o q=>?_,by simp[g.len],λj z d q=>?_,λj t dt q y=>?_,λj k c p r=>?_⟩,.refl _,λc n A=>absurd n A,λc o q n=>?_,λc⟨j,q⟩=>?_,by simp,λj t q l=>?_⟩
 . have:c≠a:=by rintro rfl;rw[x]at q;cases q
   rw[aC this];exact g.sub c o q
 . by_cases b:j=i;.subst b;rw[bx hi]at q;cases q
   .rw[fG b]at q ⊢;exact g.val j z d q
 . by_cases b:j=i;.subst b;rw[bx hi]at q;cases q;cases y;exact⟨a,_,bx u,aP,x,rfl⟩
   . rw[fG b]at q ⊢;obtain⟨c,o,B,w,C,E⟩:=g.own j t dt q y;have:c≠a:=by rintro rfl;rw[s]at w;cases w
     exact⟨c,o,B,by rw[aC this];exact w,C,E⟩
 . by_cases b:j=i
   . by_cases v:k=i;.rw[b,v]
     .subst b;rw[h p]at r;exact absurd (f v r) no
   . by_cases v:k=i;.subst v;rw[h r]at p;exact absurd (f b p) no
     .exact g.dis j k c (f b p) (f v r)
 . have:c≠a:=by rintro rfl;rw[s]at q;cases q
   rw[aC this];exact q
 . by_cases b:j=i;.subst b;rw[h q];exact .inr s
   .exact .inl ⟨j,f b q⟩
 . have b:j≠i:=by rintro rfl;rw[e]at q;cases q;cases l
   exact⟨by rw[fG b],t,by rw[fG b];exact q,.refl t⟩
end
noncomputable def sS(p:Int×Int):Key×V:=(dL p.1,V.int p.2)
theorem GZ(i:Int):∀kvs:List (Int×Int),jm (kvs.map sS) (dL i:Key)=((kvs.find? λb=>decide (b.1=i)).map (·.2)).map V.int
 |[]=>rfl|p::kvs=>by
   have a:=GZ i kvs;unfold jm at a ⊢;rw[c_,gl,gl];by_cases h:p.1=i
   . have e:decide ((sS p).1=(dL i:Key))=true:=by simp[sS,h]
     rw[e];simp[h,sS]
   . have e:decide ((sS p).1=(dL i:Key))=false:=by simp[sS,h]
     rw[e];simp only[h,decide_false];exact a
theorem T3(i v:Int)(kvs:List (Int×Int)):putK (kvs.map sS) (dL i:Key) (V.int v)=(putD kvs i v).map sS:=by
 have e:((kvs.map sS).any λa=>decide (a.1=(dL i:Key)))=kvs.any λa=>decide (a.1=i):=by rw[List.any_map];congr 1;funext p;simp[sS]
 unfold putK putD;rw[e];split
 . rw[ec,ec];refine fF λp _=>?_;by_cases h:p.1=i;.simp[sS,h]
   .simp[sS,h]
 .rw[fy];rfl
section
variable{X:Cx}{c:Call}{n:Nat}{a b e:dr}{pa pb p:P}{pos:Pos}
theorem J7{H:Hp}{q:bd}{m:Dc}{i:Int}{o:Option Int}(h:Rd H q m.ho)(e:m.get (.int i)=some o):nR H q (.int i) (o.map V.int):=by cases m with|k kvs=>cases e;exact .inl ⟨kvs.map sS,dL i,h,rfl,(GZ i kvs).symm⟩|t kvs=>cases e
theorem pX(hu:X.A.units+8<fT)(M:SX X c a pa)(N:SX X c b pb)(hs:Lr b):SX X c (.Subscript a b pos) (.bin .Am pa pb):=by refine vM (f:=CT) (λh1 O=>?_) M N (λρ=>rfl) rfl;intro l s σ H Q I h;refine Bv PySem.F.slot_dict_getitem.lookup hs (bY (h1 l s σ H _ I h) λu s1⟨x,H1,I1,rx,q1⟩=>bY (O l s1 σ H1 _ I1 q1) λiv s2⟨y,H2,I2,ry,q2⟩=>?_);obtain⟨F,d,e,r,sm,G,J,he,k⟩:=q2;cases d with
 |eG m=>have U:=cJ (show(m.get e).bind (λo=>o.map λv=>R.val (.int v))=some r from he);clear he;obtain⟨o,w,he⟩:=U;cases o with|none=>cases he|some v=>
     cases he;obtain⟨i,rfl⟩:∃i,e=.int i:=by cases m with|t kvs=>cases e<;>cases w|k kvs=>cases e<;>first|exact⟨_,rfl⟩|cases w
     obtain⟨q,z,rfl,B⟩:=G.eG sm;rw[J.int]at ry;obtain rfl:u=dY q:=rx;have g:=J7 (.inr ⟨z,B⟩) w;exact⟨ju I2 g,nP (by omega) I2 g ry λW s3 C E=>⟨.int v,H2,C,E,cF.dm sm (bO _) k⟩⟩
 |dv ks Y=>cases e with|int j=>obtain⟨d',Z,he⟩:=map_some (show(lL (ks.zip Y) j).map R.val=some r from he);subst he;obtain⟨q,z,vs,rfl,B,rs,hl⟩:=G.dv sm;obtain⟨L,g1,g2⟩:=(KR.zip rs hl).get Z;rw[J.int]at ry;obtain rfl:u=dY q:=rx;have g:nR H2 q (.int j) (some L):=.inl ⟨_,dL j,.inr ⟨z,B⟩,rfl,g1.symm⟩;exact⟨ju I2 g,nP (by omega) I2 g ry λW s3 C E=>⟨L,H2,C,E,cF.dm sm g2 k⟩⟩|_=>cases he
 |_=>cases he
theorem Om{x:Str}{f p2:Pos}(h:X.N.Nodup)(hi:X.N[i]?=some x)(j:Loc X.env.scope x)(hs:fx (.Dict [] [] p2) (some (.Name x f)) pos.line X.env=eT false:=by rfl)(l:X.fn x=true\/X.env.scope.names.lookup x=some .local:=by first|exact .inl rfl|exact .inr rfl|assumption):SS X c n (.Assign [.Name x f] (.Dict [] [] p2) pos) (.Kh i false):=by
 refine dB (vI h hi j yc hs l) ?_;rintro D σ H⟨F,ρ,fl,o,g,e,k⟩;rw[HH.X19]at e;split at e;.rename_i q;cases e;exact λa r=>k F _ _ (g.newD (m:=.k []) q r)
 .cases e
theorem Ro{x:Str}{C f l:Pos}{pk E:P}(hu:X.A.units+8<fT)(Y:X.N[i]?=some x)(Z:v9 X.env.scope x)(ha:SX X c a pk)(hb:SX X c b E)(m:M2 X (.Name x C) "get" f a b l)(hd:(x==("__debug__":Str))=false:=by decide)(u:(x==("__classdict__":Str))=false:=by decide):SX X c (.Call (.Attribute (.Name x C) "get" f) [a,b] [] l) (.Xp i pk E):=by
 obtain⟨ta,h1,h2⟩:=ha.cP;obtain⟨tb,h3,h4⟩:=hb.cP;refine⟨dR (Hk (by omega) (fC Y Z hd u) h1 h3 m) ?_,λi h=>by cases h⟩;rintro σ H Q⟨F,ρ,r,ac,g,e,k⟩;rw[HH.E24]at e;split at e
 . rename_i m0 q;obtain⟨y,ae,e1,G⟩:=aj e;clear e;obtain⟨dd,af,e2,s⟩:=aj G;clear G;obtain⟨I,o0,J,L,w3,w4⟩:=g.own i _ _ q rfl;refine⟨.ref I,J,I,rfl,?_,?_⟩;.cases(show o0=m0.ho from w4);cases m0 with|k kvs=>exact .inl ⟨_,.inl L⟩|t kvs=>exact .inr ⟨_,.inl L⟩
   . refine h2 g e1 λv F1 H1 s1 pv=>h4 s1.gs e2 λz M H2 s2 O=>?_;split at s
     . rename_i m1 q1;obtain⟨U,e3⟩:=aD s;clear s;subst e3;obtain⟨o,B,eD⟩:=cJ U;clear U;obtain⟨w,e5,e6⟩:=map_some eD;subst e6;obtain⟨a1,o1,W,y2,y3,y4⟩:=s2.gs.own i _ _ q1 rfl;rw[J]at W;cases W;cases(show o1=m1.ho from y4);obtain⟨j,rfl⟩:∃j,y=.int j:=by cases m1 with|t kvs=>cases y<;>cases B|k kvs=>cases y<;>first|exact⟨_,rfl⟩|cases B
       rw[cZ e5]at O;rw[pv.int,O.int];refine⟨o.map V.int,J7 (.inl y2) B,?_⟩;have:(o.map V.int).getD (V.int w)=V.int (o.getD w):=by cases o<;>rfl
       rw[this];exact k _ M H2 (s1.trans s2) (show Rep X.K M _ _ from bO _)
     .cases s
 .cases e
theorem Ow{x:Str}{C f:Pos}{pk:P}(hu:X.A.units+8<fT)(J:X.N[i]?=some x)(L:v9 X.env.scope x)(M:SX X c a pk)(he:SX X c e p)(hs:fx e (some (.Subscript (.Name x C) a f)) pos.line X.env=eT false:=by rfl)(hd:(x==("__debug__":Str))=false:=by decide)(s:(x==("__classdict__":Str))=false:=by decide):SS X c n (.Assign [.Subscript (.Name x C) a f] e pos) (.dput i pk p):=by
 obtain⟨ta,h1,O⟩:=M.cP;refine dB (BZ (by omega) (fC J L hd s) h1 he.ev hs) ?_;rintro D σ H⟨F,ρ,fl,Q,g,e,k⟩;rw[HH.X20]at e;obtain⟨r,u,U,o⟩:=aj e;clear e;refine⟨F,ρ,r,u,g,U,λv F1 H1 s1 W=>?_⟩;split at o
 . rename_i m0 Y;obtain⟨E,Z,e2,h⟩:=aj o;clear o;obtain⟨z,o0,B,w2,w3,w4⟩:=s1.gs.own i _ _ Y rfl;refine⟨.ref z,B,O s1.gs e2 λy F2 H2 s2 py=>?_⟩;split at h
   . rename_i m w q;split at h;.rename_i G l;cases h;obtain⟨a1,o1,I,y2,y3,y4⟩:=s2.gs.own i _ _ q rfl;rw[B]at I;cases I;cases(show o1=m.ho from y4);cases(show v=.int w by have:Rep X.K F1 v (.int w):=W;rwa[Rep]at this);refine⟨z,upd H2 z G.ho,rfl,?_,k F2 σ _ ((s1.trans s2).trans (s2.gs.aeL q B))⟩;cases m with|t kvs=>cases E<;>cases l|k kvs=>cases E with|int j=>obtain⟨hl,l⟩:=bC (show(if kvs.length<lim then some (Dc.k (putD kvs j w))else none)=some G from l);subst l;rw[py.int];refine .inl ⟨kvs.map sS,dL j,y2,rfl,by rw[dy,fe];exact hl,?_⟩;rw[T3];rfl|_=>cases l
     .cases h
   .cases h
 .cases o
end
end HH
end
section
namespace L2
open PySem PySem.Spec PyProof.Rows
noncomputable def Itk(a:bd)(b:Obj)(kvs:List (Key×V)):It:=⟨λi H=>H a=some (.dz b (.dK kvs))/\i<kvs.length,λi H x c=>c=H/\∃p,kvs[i]?=some p/\x=kV p.1,λi H=>H a=some (.dz b (.dK kvs))/\kvs.length<=i⟩
theorem KV.get:∀{κ:Type}{kvs:List (κ×V)}{vs:List (κ×aX)}{i:Nat}{p:κ×V},KV kvs vs->kvs[i]?=some p->∃v,vs[i]?=some (p.1,v)|_,_,_,_,_,.nil,e=>by simp at e|_,_,_,0,_,.cons r _,e=>by simp at e;subst e;exact⟨_,by rw[m_,r.1]⟩|_,_,_,i+1,p,.cons _ t,e=>by obtain⟨v,h⟩:=KV.get (i:=i) (p:=p) t (by simpa using e);exact⟨v,by simpa using h⟩
theorem uc{X:Cx}{b:List (bd×Obj)}{σ:St}{H:Hp}{s:a_}{a:bd}{c:Obj}{kvs:List (Key×V)}{es:Array DictEntry}{ep:Nat}(I:Inv X b σ H s)(h:H a=some (.dz c (.dK kvs)))(hd:c.data=.dict es ep):(a==g9)=false/\∃vs,KV kvs vs/\s.heap.DictAt (bj X.prog X.w) a vs ep:=by obtain⟨ho,hz,f,vs,r,g⟩:=(show bJ X.prog X.w H s.heap a (.dz c (.dK kvs))from I.hok a _ h);obtain⟨o,i,j,h1,k,e,l⟩:=g;rw[ho]at h1;cases h1;rw[hd]at e;cases e;exact⟨f,vs,r,⟨c,es,ho,k,hd,l⟩⟩
theorem Vx{P:df}{w:ek}{k:Key}{u:aX}(h:(bj P w).is k u=true):RelV (kV k) u:=by
 rcases bK h with⟨i,t,rfl,rfl⟩|⟨x,t,rfl,rfl⟩;.exact⟨t,rfl⟩
 .exact⟨t,rfl⟩
theorem Gb{P:df}{w:ek}{K:PySem.W.Frag}{C:dr}(a it:bd)(B:Obj)(kvs:List (Key×V))(es:Array DictEntry)(ep:Nat)(hd:B.data=.dict es ep):Turn P w K C (Itk a B kvs) [it] it (λi h=>h.IsKeyIter it a i kvs.length ep)where
 mem:=by simp
 obj:=λi h st b g=>by
  have e:b=it:=by simpa using g
  subst e;obtain⟨o,e,c,d⟩:=st;exact⟨o,e,λv z=>by rw[d]at z;cases z⟩
 keep:=λi h h' st k=>st.at λo e=>k it (by simp) o e;item:=by intro X n p q hc i f s σ H E I m st t;subst n p q;obtain⟨x,hi⟩:=t;obtain⟨G,vs,r,y⟩:=uc I x hd;have l:vs.length=kvs.length:=(Paired.length r).symm;obtain⟨v,J⟩:=KV.get r (show kvs[i]?=some kvs[i]by simp[hi]);obtain⟨f0,f1,f2,f3,f4,f5⟩:=m it (by simp);refine wpAny_pyNext_dict_item (by rw[l];exact st) y J λu h' L j M=>?_;have N:Inv X f σ H {s with heap:=h'}:=I.turned (t':=s.toks) (λb o g e=>(M.2 b g).trans e) f0 f1 f3 f4 f5;rw[l]at j;obtain⟨o,e,c,d⟩:=id j;exact⟨u,rfl,Bo (s:={s with heap:=h'}) e c d (by decide) ⟨_,H,N,Vx L,⟨rfl,_,by simp[hi],rfl⟩,j,λb g=>(m b g).1⟩⟩
 done:=by intro X n p q hc i f s σ H E I m st t;subst n p q;obtain⟨x,hi⟩:=t;obtain⟨G,vs,r,y⟩:=uc I x hd;have l:vs.length=kvs.length:=(Paired.length r).symm;obtain⟨f0,f1,f2,f3,f4,f5⟩:=m it (by simp);refine wpAny_pyNext_dict_end (I.ok.hd hc) (by rw[l];exact st) y (by simp[l,hi]) λh' he=>⟨rfl,?_⟩;exact I.turned (t':=s.toks) (λb o g e=>he b o g e) f0 f1 f3 f4 f5
 self:=λA i s Q E st O=>wpAny_pyIter_keyiter st O
section
variable{X:Cx}{tg:dr}
theorem LC{l:dr}{k:TE}(n:PE X l k):PI X tg l (λσ H R=>k σ H λx f=>∃a c kvs,x=.ref a/\f a=some (.dz c (.dK kvs))/\R (Itk a c kvs) f):=by
 intro g s σ H R I h;refine bY (n g s σ H _ I h) ?_;rintro v s1⟨x,f,j,r1,a,c,kvs,e,p,q⟩;subst e;cases r1;obtain⟨ho,hz,t,vs,r,u⟩:=(show bJ X.prog X.w f s1.heap a (.dz c (.dK kvs))from j.hok a _ p);obtain⟨o,es,ep,h1,y,m,z⟩:=id u;rw[ho]at h1;cases h1;have i:vs.length=kvs.length:=(Paired.length r).symm;refine wpAny_pyIter_dict (knd:=bj X.prog X.w) (kvs:=vs) (ep:=ep) t ⟨c,es,ho,y,m,z⟩ ?_;refine⟨s1.heap.objs.size,[s1.heap.objs.size],_,_,f,rfl,j.kept (t':=s1.toks) λb o e=>dM e,Gb a _ c kvs es ep m,⟨_,cw _ rfl,rfl,by rw[i];rfl⟩,λb A=>?_,q⟩;have e:b=s1.heap.objs.size:=by simpa using A
 subst e;exact j.zQ (dw) (j.hok.fresh (dw))
end
end L2
namespace HH
open PySem L2 PySem.Spec PyProof.Rows
section
variable{X:Cx}{c:Call}{tg e:dr}{p:P}
theorem Nr{ks:List Int}{es:List (Key×V)}{j:Nat}{p:Key×V}{i:Int}(h:es.map (·.1)=ks.map (dL:Int->Key))(a:es[j]?=some p)(b:ks[j]?=some i):p.1=dL i:=by
 have:(es.map (·.1))[j]?=(ks.map (dL:Int->Key))[j]?:=by rw[h]
 rw[eR,eR,a,b]at this;exact eF this
theorem qg:∀{ks:List Int}{vs:List V},ks.length=vs.length->(ent ks vs).map (·.1)=ks.map (dL:Int->Key)|[],[],_=>rfl|k::ks,v::vs,h=>by have:=qg (ks:=ks) (vs:=vs) (by simpa using h);unfold ent at this ⊢;simpa using this|[],_::_,h=>by simp at h|_::_,[],h=>by simp at h
theorem Ov(h:SX X c e p):SI X c tg e (.blt .keys [p]):=by
 unfold SI;obtain⟨ta,h1,W⟩:=h.cP;refine lu (LC h1) ?_;rintro σ H R⟨F,ρ,A,B,g,Y,k⟩;obtain⟨r,o,I,Z⟩:=aj (show((HH.ev c (.blt .keys [p]) ρ).bind λr ρ=>lift (items r.d) ρ)=.ok A B from Y);obtain⟨J,e3⟩:=aD Z;subst e3;rw[HH.E17]at I;obtain⟨d,ac,e1,eE⟩:=aj I;obtain⟨y,e4⟩:=aD eE;subst e4;refine W g e1 λv F' L s M=>?_;have hd:∃(ks:List Int)(es:List (Key×V))(a:bd)(b:Obj),A=ks.map D.int/\v=.ref a/\L a=some (.dz b (.dK es))/\es.map (·.1)=ks.map (dL:Int->Key):=by cases d with
  |eG m=>cases m with|k kvs=>cases y;cases J;obtain⟨a,b,rfl,f⟩:=M.eG s.gs.sub;exact⟨kvs.map (·.1),kvs.map sS,a,b,by rw[ec];rfl,rfl,f,by rw[ec,ec];rfl⟩|t kvs=>cases y
  |dv ks ae=>cases y;cases J;obtain⟨a,b,vs,rfl,f,rs,hl⟩:=M.dv s.gs.sub;exact⟨ks,ent ks vs,a,b,rfl,rfl,f,qg (by rw[rs.length];exact hl)⟩|_=>cases y
 obtain⟨ks,es,a,b,rfl,rfl,f,u⟩:=hd;have C:es.length=ks.length:=by have:=congrArg kF u;simpa using this
 refine⟨a,b,es,rfl,f,k _ F' L ⟨s.gs,λn j N o E H2 s2=>?_,λN o E H2 s2=>⟨s.trans s2,λv r rr=>rr.later s⟩⟩⟩;have gm:=s.gs.more (n:=n) (τ:=b_ n none) (by simp);have w:=s2.keep a _ f λ⟨j,⟨t,dt,q1,q2⟩,q3⟩=>by obtain⟨a',o',O,Q,z3,G⟩:=gm.own j t dt q1 q2;rw[q3]at O;cases O;rw[f]at Q;cases Q;cases dt with|l A=>obtain⟨xs,z,_⟩:=G;cases z|d m=>cases m<;>cases G|v kvs=>obtain⟨xs,z,_⟩:=G;cases z
 refine⟨λd hd=>?_,λU=>⟨w,by rw[C];simpa using U⟩⟩;have U:j<ks.length:=by have:=(dJ hd).1;simpa using this
 refine⟨⟨w,by omega⟩,λx kO⟨e5,q,e6,e7⟩=>?_⟩;subst e5;refine⟨N,.refl s2.gs.sub,?_⟩;rw[eR]at hd;obtain⟨i,e8,e9⟩:=map_some hd;rw[e7,Nr u e6 e8,<-e9];exact bO _
end
end HH
end
section
namespace HH
open PySem L2 PySem.Spec PyProof.Rows PySem.Calls PySem.W
section
variable{X:Cx}{c:Call}{a:dr}{pa:P}{pos:Pos}
theorem lZ:∀{ns:List Int}{b:List aX},gI b ns->Vals (ns.map V.int) b|_,_,.nil=>.nil|_,_,.cons n t r=>.cons ⟨t,rfl⟩ (lZ r)
theorem uA{K:PySem.W.Frag}{F:Hp}:∀ns:List Int,aH K F (ns.map V.int) (ns.map D.int)|[]=>.nil|n::ns=>.cons (bO n) (uA ns)
end
end HH
end
section
namespace HH
open PySem L2 PySem.Spec PyProof.Rows
theorem Inv.adg{X:Cx}{c:List (bd×Obj)}{σ:L2.St}{H:Hp}{s:a_}{a:bd}{kvs:List (List Key×V)}(I:L2.Inv X c σ H s)(h:H a=some (.dT kvs)):∃o,L2.Inv X c σ (upd H a (.dz o (.dT kvs))) s:=by obtain⟨z,y,xs,r,o,es,ep,h1,f,g,i,j⟩:=(show bJ X.prog X.w H s.heap a (.dT kvs)from I.hok a _ h);refine⟨o,I.write (h':=s.heap) (t':=s.toks) (by rw[h];exact trivial) (.inl rfl) (λb u _ e=>e) ⟨o,h1⟩ ⟨h1,z,y,xs,KT.keeps r λb ys q=>?_,o,es,ep,h1,f,g,i,j⟩⟩;rw[aC (by rintro rfl;rw[h]at q;cases q)];exact q
section
variable{X:Cx}{c:Call}{n:Nat}{a b e:dr}{p pa pb:P}{pos:Pos}{es:List dr}{ps:List P}{x1:Nat}{tpos:Pos}
theorem qe{i:Nat}{x:Str}{A:Pos}(B:X.N[i]?=some x)(C:v9 X.env.scope x)(hd:(x==("__debug__":Str))=false:=by decide)(w:(x==("__classdict__":Str))=false:=by decide):SX X c (.Name x A) (.vw i):=by
 have h:=fC (X:=X) (pos:=A) B C hd w;refine⟨?_,λi h=>by cases h⟩;rintro f s σ H Q I⟨F,ρ,r,E,g,e,k⟩;rw[HH.E25]at e;split at e
 . rename_i m q;cases e;obtain⟨a,h1,j,l⟩:=g.BV q;refine bY (h f s σ H (λv y=>v=.ref a/\y=H) I ⟨.ref a,h1,rfl,rfl⟩) λu s1⟨v,H1,I1,r1,e1,e2⟩=>?_;subst e1 e2;have G:∃o,L2.Inv X f σ (upd H1 a (.dz o m.ho)) s1:=by cases m with|k kvs=>exact Inv.HY I1 j|t kvs=>exact Inv.adg I1 j
   obtain⟨o,z⟩:=G;exact⟨.ref a,_,z,r1,k _ _ _ (l o).1 (l o).2⟩
 .rename_i kvs q;cases e;obtain⟨a,vs,h1,j,l⟩:=g.Dl q;refine bY (h f s σ H (λv y=>v=.ref a/\y=H) I ⟨.ref a,h1,rfl,rfl⟩) λu s1⟨v,H1,I1,r1,e1,e2⟩=>?_;subst e1 e2;obtain⟨o,z⟩:=Inv.HY I1 j;exact⟨.ref a,_,z,r1,k _ _ _ (l o).1 (l o).2⟩
 .rename_i b L q;cases e;obtain⟨v,J,h1,j,l⟩:=g.freeze q;exact h f s σ H Q I ⟨v,h1,k v J H j l⟩
 .rename_i b d q;cases e;obtain⟨v,h1,j⟩:=g.val i b d q;exact h f s σ H Q I ⟨v,h1,k v F H (.refl g) j⟩
 .cases e
end
end HH
end
section
namespace HH
open PySem L2 PySem.Spec PyProof.Rows
section
variable{K:PySem.W.Frag}{F H F' H':Hp}{ρ ρ':List Sl}{σ σ':L2.St}
noncomputable def Kp(ρ:List Sl)(σ:L2.St)(H:Hp)(a:bd)(o:HO):Prop:=H a=some o/\¬ Own ρ σ a
theorem Kp.stp{a:bd}{o:HO}(h:Kp ρ σ H a o)(s:aB K F ρ σ H F' ρ' σ' H'):Kp ρ' σ' H' a o:=⟨s.keep a o h.1 h.2,λz=>(s.wg a z).elim h.2 λe=>by rw[h.1]at e;cases e⟩
structure Wt(K:PySem.W.Frag)(F:Hp)(ρ:List Sl)(σ:L2.St)(H:Hp)(a:bd)(ds:List D):Prop where
 ex:∃xs,Kp ρ σ H a (.lst xs)/\aH K F xs ds
 fr:F a=none
theorem Wt.stp{a:bd}{b:List D}(h:Wt K F ρ σ H a b)(s:aB K F ρ σ H F' ρ' σ' H'):Wt K F' ρ' σ' H' a b:=by obtain⟨⟨xs,h1,c⟩,e⟩:=h;refine⟨⟨xs,h1.stp s,c.mono s.bQ⟩,?_⟩;cases q:F' a with|none=>rfl|some o=>
   rcases s.yt a e (by rw[q];simp)with z|z;.exact absurd z h1.2
   .rw[h1.1]at z;cases z
end
end HH
end
section
namespace HH
open PySem L2 PySem.Spec PyProof.Rows
section
variable{X:Cx}{c:Call}{n:Nat}{e a b d elt tg:dr}{p pa pb pe:P}{pos:Pos}{elts:List dr}{x1:Nat}{tp:Pos}
noncomputable def Uz(K:PySem.W.Frag)(i:Nat)(f:Ev):TI:=λσ H R=>∃F ρ j g h,GS K F ρ σ H/\Il i f ρ=.ok (j,g) h/\∀J F1 k,Walk K F ρ σ H (aY g (some i)) J j F1 h k->R J k
theorem pU{x:Str}{p':Pos}{i:Nat}(hx:x="zip")(hg:Gl X x)(hm:X.mg x=none)(hv:isVar pb=some i)(ha:SX X c a pa)(hb:SX X c b pb)(hs:cv [a,b] X.env=[(false,eu a X.env),(false,eu b X.env)]:=by rfl)(j:cv [b] X.env=[(false,eu b X.env)]:=by rfl):PI X (.Tuple elts x1 tp) (.Call (.Name x p') [a,b] [] pos) (Uz X.K i (HH.ev c pa)):=by
 subst hx;refine lu (Hy hg hm (bF ha.ev (bF (hb.var i hv) dD j) (by rw[hs,j])) hs j) ?_;rintro σ H R⟨F,ρ,ds,l,ac,g,e,k⟩;obtain⟨r,M,e1,e⟩:=aj e;obtain⟨es,m,J,e⟩:=aj e;have N:=aD J;clear J;obtain⟨J,e3⟩:=N;subst e3;refine⟨F,ρ,r,M,g,e1,λu O A s o=>?_⟩;obtain⟨F2,s2,_,ru⟩:=s.dz o;obtain⟨t2,Q,ys,rfl,z,U⟩:=uO ru J;split at e;.rename_i bb d' q;obtain⟨f,ae,L,e⟩:=aj e;have N:=aD L;clear L;obtain⟨L,e5⟩:=N;subst e5;cases e;obtain⟨v',h1,rv⟩:=s2.gs.val i bb d' q;obtain⟨t1,w,xs,rfl,q1,r1⟩:=uO rv L;refine⟨_,h1,t2,t1,Q,w,rfl,⟨ys,aG.sq s2.gs.sub z⟩,⟨xs,aG.sq s2.gs.sub q1⟩,k _ _ _ ⟨s2.gs,λn k O B C A h=>p8 (aG.sq h.gs.sub (aG.sq h.bQ z)) (aG.sq h.gs.sub (aG.sq h.bQ q1)) (U.mono h.bQ) (r1.mono h.bQ) h.gs.sub k,λF3 m E H3 s3=>?_⟩⟩;unfold aY;dsimp only;rw[q];exact⟨s2.trans s3,λv r o=>o.later s2⟩
 . rename_i bb f q;cases e;have hi:i<l.length:=(dJ q).1;have W:=s2.gs.lend q;have ql:(l.set i (.lent f))[i]?=some (.lent f):=bx hi;obtain⟨w,xs,h1,Y,w3,w4⟩:=W.lK i _ f ql rfl;refine⟨_,h1,t2,false,Q,w,rfl,⟨ys,aG.sq s2.gs.sub z⟩,⟨xs,eO.of Y⟩,k _ _ _ ⟨W,λn k O B C A h=>?_,λF3 m E H3 s3=>?_⟩⟩;.obtain⟨G,t,Z,z3⟩:=h.lk i _ (by rw[cK (by simpa using hi)];exact ql) rfl;cases(show t=.lent f from z3);rw[cK (by rw[<-W.len];simpa using hi),h1]at G;obtain⟨a',y,I,u2,u3,u4⟩:=h.gs.lK i _ f Z rfl;rw[G]at I;cases I;exact p8 (aG.sq h.gs.sub (aG.sq h.bQ z)) (show Sq false X.K A w y from eO.of u2) (U.mono h.bQ) u4 h.gs.sub k
   .unfold aY;dsimp only;rw[q];obtain⟨y1,y2⟩:=aB.aY s2.gs q s3;exact⟨s2.trans y1,λv r o=>(y2 v r o).later s2⟩
 . rename_i f q;cases e;have hi:i<l.length:=(dJ q).1;obtain⟨w,xs,h1,Y,w3,w4⟩:=s2.gs.lK i _ f q rfl;refine⟨_,h1,t2,false,Q,w,rfl,⟨ys,aG.sq s2.gs.sub z⟩,⟨xs,eO.of Y⟩,k _ _ _ ⟨s2.gs,λn k O B C A h=>?_,λF3 m E H3 s3=>?_⟩⟩;.obtain⟨G,t,Z,z3⟩:=h.lk i _ (by rw[cK hi];exact q) rfl;cases(show t=.lent f from z3);rw[cK (by rw[<-s2.gs.len];exact hi),h1]at G;obtain⟨a',y,I,u2,u3,u4⟩:=h.gs.lK i _ f Z rfl;rw[G]at I;cases I;exact p8 (aG.sq h.gs.sub (aG.sq h.bQ z)) (show Sq false X.K A w y from eO.of u2) (U.mono h.bQ) u4 h.gs.sub k
   .unfold aY;dsimp only;rw[q];exact⟨s2.trans s3,λv r o=>o.later s2⟩
 .cases e
variable{scope:jp}{N':List Str}{ifs:List dr}{iter:dr}
theorem xK{g:TG}{i:Nat}{is:List Nat}{one:Bool}{t:Option P}(hc:X.calm=true)(ok:eY X scope N' n)(hi:PI X tg iter (Uz X.K i (HH.ev c pb)))(o:∀cl C s₀ H₀ ex,PG (oW X scope N' cl C s₀ H₀ ex) tg g)(j:lq X.K X.N.length is one g)(ht:∀cl C s₀ H₀ ex,SQ (oW X scope N' cl C s₀ H₀ ex) c ifs t)(he:∀cl C s₀ H₀ ex,SX (oW X scope N' cl C s₀ H₀ ex) c elt pe)(hs:∀x,eS iter X.env x=eT x:=by intro _;rfl):SX X c (.ListComp elt [⟨tg,iter,ifs,0⟩] scope pos) (.lA i pb n is one t pe):=by
 refine⟨JF (Bq (tt:=DP X.K (oR c t)) (te:=vK X.K (HH.ev c pe)) hc ok hi o ht (λcl C s₀ H₀ ex=>(he cl C s₀ H₀ ex).ev) hs) ?_,λi h=>by cases h⟩;rintro σ H Q q⟨F,ρ,r,s,u,e,k⟩;rw[HH.E29]at e;obtain⟨⟨v,l⟩,m,w,e⟩:=aj e;dsimp only at e;split at e;.rename_i f;obtain⟨xs,y,z,e⟩:=aj e;cases e;exact qQ q j (λR h=>⟨F,ρ,v,l,m,u,w,h⟩) f z k
 .cases e
theorem Bh{i j:Nat}{x:Str}{f l:Pos}{nn:Nat}{g:TG}{is:List Nat}{one:Bool}{t:Option P}(hc:X.calm=true)(A:X.N.Nodup)(q:X.N[i]?=some x)(B:Loc X.env.scope x)(ok:eY X scope N' n)(hi:PI X tg iter (Uz X.K j (HH.ev c pb)))(E:∀cl C s₀ H₀ ex,PG (oW X scope N' cl C s₀ H₀ ex) tg g)(s:lq X.K X.N.length is one g)(ht:∀cl C s₀ H₀ ex,SQ (oW X scope N' cl C s₀ H₀ ex) c ifs t)(he:∀cl C s₀ H₀ ex,SX (oW X scope N' cl C s₀ H₀ ex) c elt pe)(u:fx (.ListComp elt [⟨tg,iter,ifs,0⟩] scope pos) (some (.Name x f)) l.line X.env=eT true:=by rfl)(hs:∀x,eS iter X.env x=eT x:=by intro _;rfl)(G:X.fn x=true\/X.env.scope.names.lookup x=some .local:=by first|exact .inl rfl|exact .inr rfl|assumption):SS X c nn (.Assign [.Name x f] (.ListComp elt [⟨tg,iter,ifs,0⟩] scope pos) l) (.asg i (.lA j pb n is one t pe)):=by
 refine Gx (vG (tt:=DP X.K (oR c t)) (te:=vK X.K (HH.ev c pe)) hc A q B ok hi E ht (λcl C s₀ H₀ ex=>(he cl C s₀ H₀ ex).ev) u hs G) ?_;rintro D σ H I⟨F,ρ,fl,J,L,e,k⟩;rw[HH.X6]at e;obtain⟨r,M,z,e⟩:=aj e;obtain⟨O,Q,o,e⟩:=aj e;cases e;have U:=aD o;clear o;obtain⟨o,e3⟩:=U;rw[HH.E29]at z;obtain⟨⟨W,w⟩,y,Y,e⟩:=aj z;dsimp only at e;split at e;.rename_i m;obtain⟨xs,Z,e4,e⟩:=aj e;cases e;exact qQ I s (λR h=>⟨F,ρ,W,w,y,L,Y,h⟩) m e4 λv F1 H1 s1 rr=>k F1 _ H1 (s1.put rr o)
 .cases e
end
end HH
end
section
namespace HH
open PySem PyProof.Rows
section
variable{M:qB}{A:ez}{E:aX->a_->Prop}{s:a_}{κ:i3}{ok:gd->Prop}{K:gd->Int}
theorem DX(R:Rk M A E s κ ok K){st b:iN}{xs:Array gd}{lo n:Nat}{Q:Option Nat->iN->Prop}(h:Sx κ ok st xs b)(f:lo+n<=xs.size)(h1:1<=n)(sg:Seg K xs lo (lo+n))(q:Q (some n) b):wpS M A E s (countRun' lo n) Q b:=by
 have one:∀ys:Array gd,Seg K ys lo (lo+1):=λys i j k l o=>by rw[show i=j by omega];exact eM _
 show wpS M A E s (_>>=_) Q b;refine hB (Tz (a:=1) (n:=n) R h f (le_refl 1) h1 (one xs) λm m1 p sm e=>?_);dsimp only;have c1:m=n:=by
  by_cases c:m=n;.exact c
  .have g:=e.resolve_left c;have:=sg (lo+m-1) (lo+m) (by omega) (by omega) (by omega);omega
 subst c1;rw[if_pos (by simp)];exact ka q
theorem SR.Za{x0 ys:Array gd}{l:List Rn}{lo n:Nat}{st:iN}(h:SR κ ok K x0 ys l lo st)(h1:1<=n)(a:lo+n<=ys.size)(hs:Seg K ys lo (lo+n)):SR κ ok K x0 ys (l++[(lo,n,0)]) (lo+n) (setPending st ((jZ st).push (lo,n,0))):=⟨h.kind,h.arr,h.fail,by show((jZ st).push (lo,n,0)).toList=_;rw[Array.toList_push,h.pend],h.perm,h.ok,vd.mpr ⟨lo,h.rns,rfl,h1,hs,rfl⟩,a⟩
theorem uw:∀(f n r:Nat),r<=1->n<64\/n<=f->pp f n r<=n+r/\(64<=n->pp f n r<=n)
 |0,n,r,hr,h=>by have e:pp 0 n r=n+r:=rfl;rw[e];exact⟨dw,λz=>by omega⟩|f+1,n,r,hr,h=>by
   rw[minRun'_succ];by_cases c:n<64;.rw[if_pos c];exact⟨dw,λz=>by omega⟩
   .rw[if_neg c];have a:=uw f (n/2) (max r (n%2)) (by omega) (by omega);exact⟨by omega,λ_=>by omega⟩
theorem JD(R:Rk M A E s κ ok K){x0:Array gd}{Q:Unit->iN->Prop}{st:iN}(h:SR κ ok K x0 x0 [] 0 st)(sg:Seg K x0 0 x0.size)(h1:1<=x0.size)(q:∀a,qv a=x0->qo a=none->Q () a):wpS M A E s sortRuns' Q st:=by
 rw[sortRuns'_eq];refine hB (oN ?_);dsimp only;simp only[h.arr];have j:pp x0.size x0.size 0<=x0.size:=(uw x0.size x0.size 0 (by omega) (.inr (dw))).1;generalize pp x0.size x0.size 0=o at j;refine hB (wpS_mono (oP (I:=λx c a=>(c=(none,0)/\SR κ ok K x0 x0 [] 0 a/\x=0)\/(c=(none,x0.size)/\SR κ ok K x0 x0 [(0,x0.size,0)] x0.size a)) (Q:=λc a=>c=(none,x0.size)/\SR κ ok K x0 x0 [(0,x0.size,0)] x0.size a) ?_ ?_ (.inl ⟨rfl,h,rfl⟩)) ?_)
 . rintro x c f _ k(⟨rfl,b,rfl⟩|⟨rfl,b⟩)
   . dsimp only;rw[if_neg (by omega)];refine hB (DX R b.sx (lo:=0) (n:=x0.size-0) (by omega) (by omega) (by simpa using sg) ?_);dsimp only;rw[if_neg (by omega)];refine hB (oN ?_);have l:(jZ f).back?=none:=by have:jZ f=#[]:=lI.mp b.pend;rw[this];rfl
     rw[l];dsimp only;refine hB (wpS_modify (ka (.inr ⟨by simp,?_⟩)));have:=b.Za (n:=x0.size-0) (by omega) (by omega) (by simpa using sg);simpa using this
   .dsimp only;rw[if_pos (dw)];exact ka ⟨rfl,b⟩
 . rintro c f(⟨rfl,b,e⟩|⟨rfl,b⟩);.omega
   .exact⟨rfl,b⟩
 . rintro c f⟨rfl,b⟩;dsimp only;refine hB (wpS_mono (oP (I:=λx c a=>c=(none,())/\SR κ ok K x0 x0 [(0,x0.size,0)] x0.size a) (Q:=λc a=>c=(none,())/\SR κ ok K x0 x0 [(0,x0.size,0)] x0.size a) ?_ (λ_ _ h=>h) ⟨rfl,b⟩) ?_)
   . rintro x c g _ k⟨rfl,i⟩;refine hB (oN ?_);try dsimp only
     have m:(jZ g).size<=1:=by rw[<-i_,i.pend];simp
     rw[if_pos m];exact ka ⟨rfl,i⟩
   .rintro c g⟨rfl,i⟩;dsimp only;exact ka (q g i.arr i.fail)
end
end HH
end
section
namespace HH
open PySem PySem.W PyProof.Rows PySem.Calls L2 PySem.Spec
section
variable{prog:df}{w:ek}{A:ez}{E:aX->a_->Prop}{s:a_}{vs:List aX}{κ:i3}{P:aX->D->Prop}{ds:List D}
theorem Hw{a:bd}{n:Nat}{O:PySem.Fin->a_->Prop}(ho:s.heap.get? a=some (pc "list" vs.toArray n))(so:sortable ds=true)(hz:vs.length<=16777216)(L:Paired P vs ds)(fn:∀u d e,P u d->P u e->dg d=dg e)(z:ds.Pairwise λa b=>mq a b=true)(N:∀h',(∀b o,b≠a->s.heap.get? b=some o->h'.get? b=some o)->∀C:i3->a_->Prop,C κ {s with heap:=h'}->2<=vs.length->cy (cS prog w) A (keyKind' vs.toArray) C (λ_ _=>False) {s with heap:=h'})(hl:∀h',(∀b o,b≠a->s.heap.get? b=some o->h'.get? b=some o)->∀u v d e,P u d->P v e->∀C:Bool->a_->Prop,C (bB (dg d) (dg e)) {s with heap:=h'}->cy (cS prog w) A (keyLt' κ u v) C (λ_ _=>False) {s with heap:=h'})(h:∀h' c p,(∀b o,b≠a->s.heap.get? b=some o->h'.get? b=some o)->p.Perm (dP vs.length)->pick .non p ds=PK ds->h'.get? a=some (pc "list" (pick .none p vs).toArray c)->O (.done (.ret .none)) {s with heap:=h'}):cy (cS prog w) A (im.«list.sort» ⟨[.ref a],[]⟩) O E s:=by
 have ha:a<s.heap.objs.size:=dl ho;have B:vs.length=ds.length:=Paired.length L;obtain⟨l,G⟩:∃l,(s.heap.update a (ga λ_=>(#[]:Array aX))).get? a=some (pc "list" #[] l):=⟨_,get?_update_seq ho λ_=>#[]⟩;rw[list_sort_plain];refine av (listItems_at ho rfl ?_);refine av (ow ho rfl ?_ (by rw[cx,fe];omega) (vU));refine av (qc G rfl ?_);refine av (wpAny_newTuple ?_ (by show vs.length<=_;rw[fe];omega));refine av (wpAny_newList ?_ (vU));refine hQ ?_;generalize hH:(((s.heap.update a (ga λ_=>(#[]:Array aX))).push {cls:=.type "tuple",data:=.seq vs.toArray}).push {cls:=.type "list",data:=.seq #[]}:eA)=m;have g:m.get? a=some (pc "list" #[] l):=by rw[<-hH];exact dM (dM G)
 have keep:∀b o,b≠a->s.heap.get? b=some o->m.get? b=some o:=λb o M e=>by rw[<-hH];exact dM (dM ((hY _ _ (gu M)).trans e))
 have fin:∀p:List Nat,p.Perm (dP vs.length)->pick .non p ds=PK ds->O (.done (.ret .none)) {s with heap:=m.update a (ga λ_=>o4 (pick .none p vs))}:=by intro p h1 f;obtain⟨c2,U⟩:∃c2,(m.update a (ga λ_=>o4 (pick eL p vs))).get? a=some (pc "list" (pick eL p vs).toArray c2):=⟨_,get?_update_seq g λ_=>o4 (pick eL p vs)⟩;exact h _ c2 p (λb o M e=>(hY _ _ (gu M)).trans (keep b o M e)) h1 f U
 show cy (cS prog w) A _ O E {s with heap:=m};dsimp only;by_cases f:vs.toArray.size<2
 . rw[if_pos f,if_pos f];refine av (cr ?_);rw[StateT.run_pure];refine av (cr ?_);dsimp only;have eo:(qv (SortSt.mk' general' (vs.toArray.zip vs.toArray) #[] 7 none)).map (·.2)=o4 (pick eL (dP vs.length) vs):=by rw[mH];apply lI.mp;show((vs.toArray.zip vs.toArray).map (·.2)).toList=vs;simp[List.map_snd_zip]
   rw[eo];refine av (qc g rfl ?_);refine av (ow g rfl ?_ (vU) (by rw[cx,qy (.refl _),fe];omega));simp only[bne_self_eq_false,iq,if_false];refine cr (fin _ (.refl _) ?_);rw[B,mH];refine qF so (.refl _) ?_;match ds,(show ds.length<2 by simp at f;omega)with|[],_=>exact .nil|[_],_=>exact List.pairwise_singleton ..|_::_::_,f=>simp at f;omega
 . rw[if_neg f,if_neg f];have W:2<=vs.length:=by simpa using f
   refine av (N m keep _ ?_ W|>λq=>et q (λ_ _ x=>x) λ_ _ x=>x.elim);have H:(vs.toArray.zip vs.toArray).toList=(dP vs.length).map λi=>(vs.getD i eL,vs.getD i eL):=by
    refine k_ (by simp) λi h1 f=>?_;have:i<vs.length:=by simpa using f
    simp[this]
   have X:∀x∈(vs.toArray.zip vs.toArray).toList,∃d,d∈ds/\P x.1 d:=λx hx=>by rw[H]at hx;obtain⟨i,hi,rfl⟩:=cU.mp hx;have:=kj L i (j4.mp hi);exact⟨_,this.2,this.1⟩
   have R:Rk (cS prog w) A E {s with heap:=m} κ (λx=>∃d,d∈ds/\P x.1 d) (rkK P ds):=⟨by rintro x y Q st⟨d,d1,d2⟩⟨e,l,t⟩Y hq;rw[Cq fn d1 d2,Cq fn l t,Hc d1]at hq;rw[lt'_eq];refine hB (oN ?_);rw[Y];refine hB (wpS_lift (oo (et (hl m keep x.1 y.1 d e d2 t (λb Z=>Z={s with heap:=m}/\b=bB (dg d) (dg e)) ⟨rfl,rfl⟩) ?_ λ_ _ h=>h.elim)));rintro b Z⟨rfl,rfl⟩;exact⟨rfl,ka hq⟩⟩;have at':∀k,k<vs.length->it (vs.toArray.zip vs.toArray) k=(vs.getD k .none,vs.getD k .none):=λk N=>by rw[Mv,H];simp[N]
   have hsz:(vs.toArray.zip vs.toArray).size=vs.length:=by simp
   have sg:Seg (rkK P ds) (vs.toArray.zip vs.toArray) 0 (vs.toArray.zip vs.toArray).size:=λi j _ ij jn=>by
    rw[hsz]at jn;rw[at' i (by omega),at' j jn];have a1:=kj L i (by omega);have a2:=kj L j jn;rw[Cq fn a1.2 a1.1,Cq fn a2.2 a2.1];by_cases e:i=j;.rw[e];exact eM _
    . have I:=List.pairwise_iff_getElem.mp z i j (by omega) (by omega) (by omega);simp only[mq,mn]at I;have l:ds.getD i .non=ds[i]'(by omega):=by simp[show i<ds.length by omega]
      have t:ds.getD j .non=ds[j]'(by omega):=by simp[show j<ds.length by omega]
      rw[<-l,<-t,<-Hc a2.2,decide_eq_false_iff_not]at I;omega
   have run:=JD R (x0:=vs.toArray.zip vs.toArray) (st:=SortSt.mk' κ (vs.toArray.zip vs.toArray) #[] 7 none) (Q:=λ_ r=>∃p:List Nat,p.Perm (dP vs.length)/\pick .non p ds=PK ds/\(qv r).map (·.2)=(pick eL p vs).toArray/\qo r=none) ⟨rfl,rfl,rfl,rfl,.refl _,X,rfl,vU⟩ sg (by rw[hsz];omega) λr l t=>by
     refine⟨dP vs.length,.refl _,?_,?_,t⟩;.rw[B,mH];exact qF so (.refl _) z
     .rw[l,mH];apply lI.mp;simp[List.map_snd_zip]
   refine av (et run ?_ λ_ _ e=>e);rintro⟨⟨⟩,r⟩Z⟨rfl,p,p1,p2,J,hf⟩;dsimp only;rw[J];refine av (qc g rfl ?_);refine av (ow g rfl ?_ (vU) (by rw[cx,qy p1,fe];omega));rw[hf];simp only[bne_self_eq_false,iq,if_false];exact cr (fin _ p1 p2)
end
end HH
end
section
namespace HH
open PySem L2 PySem.Spec PyProof.Rows PySem.Calls PySem.W
noncomputable def yE(nw:bd->Option HO)(H:Hp):Hp:=λa=>match nw a with|some o=>some o|none=>H a
theorem vV{nw:bd->Option HO}{H:Hp}{a:bd}{o:HO}(h:nw a=some o):yE nw H a=some o:=by unfold yE;rw[h]
theorem gW{nw:bd->Option HO}{H:Hp}{a:bd}(h:nw a=none):yE nw H a=H a:=by unfold yE;rw[h]
theorem ZX{X:Cx}{g:List (bd×Obj)}{σ:L2.St}{H:Hp}{s:a_}{h':eA}{t':Nat}{nw:bd->Option HO}(I:L2.Inv X g σ H s)(k:∀b u,s.heap.get? b=some u->h'.get? b=some u)(i:∀a o,nw a=some o->s.heap.objs.size<=a)(h:∀a o,nw a=some o->bJ X.prog X.w (yE nw H) h' a o):L2.Inv X g σ (yE nw H) {s with heap:=h',toks:=t'}:=by
 have no:∀a,a<s.heap.objs.size->nw a=none:=λa j=>by cases q:nw a with|none=>rfl|some o=>exact absurd (i a o q) (Nat.not_le_of_lt j)
 have f:∀a o,H a=some o->yE nw H a=some o:=λa o e=>by rw[gW (no a (I.hok.lt e))];exact e
 refine I.un ⟨λb u q _ _ _=>k b u q,λb u q _ _ _=>⟨u.slots,k b u q⟩,λb u q n _=>?_,λb u q _=>⟨u,k b u q⟩,λb xs q=>f b _ q,λb u xs q=>f b _ q,λb ps q=>⟨#[],by rw[f b _ q];simp⟩⟩ λb u e=>?_;.rw[gW (no b (dl q))];exact n
 .cases q:nw b with|some o=>rw[vV q]at e;cases e;exact h b _ q|none=>rw[gW q]at e;exact(I.hok b u e).stay (λc v _ z=>k c v z) (λc z=>f c _ z) λc xs z=>f c _ z
noncomputable def iv(l d:bd):eA->Prop:=λh=>h.IsItemsView l d
noncomputable def J6:V->List V->Hp->VK->Prop:=λx xs H Q=>∃q a kvs,x=.ref q/\xs=[]/\H q=some (.dz a (.dK (map sS kvs)))/\∀l,H l=none->Q (.ref l) (upd H l (.ext (iv l q)))
noncomputable def rIt(X:Cx):List V->Hp->VK->Prop:=λxs H Q=>∃l q f kvs,xs=[.ref l]/\H l=some (.ext (iv l q))/\H q=some (.dz f (.dK (map sS kvs)))/\(kvs.length<=16777216/\kvs.Pairwise (λa b=>a.1<b.1))/\∃F,aG F H/\∀v e c,Ext F H e c->cF X.K e c H v (.own (kvs.map jC))->Q v c
theorem xZ{P:df}{w:ek}{h:eA}:∀{kvs:List (Int×Int)}{vs:List (Key×aX)}{as:List bd},KV (kvs.map sS) vs->as.length=vs.length->(∀(j:Nat)(a:bd),as[j]?=some a->∃key k x,vs[j]?=some (k,x)/\(bj P w).is k key=true/\h.get? a=some {cls:=.type "tuple",data:=.seq #[key,x]})->∀(j:Nat)(a:bd),as[j]?=some a->∃p,kvs[j]?=some p/\∃t u,h.get? a=some {cls:=.type "tuple",data:=.seq #[eh p.1 t,eh p.2 u]}
 |[],_,as,.nil,f,_,j,a,e=>by cases as with|nil=>cases e|cons _ _=>simp at f
 |p::kvs,_,as,.cons (b:=q) r t,f,hk,j,a,e=>by cases as with|nil=>cases e|cons b as=>cases j with
     |zero=>
       obtain⟨key,k,x,g,m,n⟩:=hk 0 a e;simp at g;have o:k=dL p.1:=by have z:=r.1;rw[g]at z;exact z.symm
       have s:∃u,x=eh p.2 u:=by have z:=r.2;rw[g]at z;exact z
       subst o;obtain⟨u,rfl⟩:=s;obtain⟨i,v,l,rfl⟩|⟨_,_,l,_⟩:=bK (show oH (dL p.1) key=true from m);.cases l;exact⟨p,rfl,v,u,n⟩
       .cases l|succ j=>exact xZ t (by simpa using f) (λi c z=>by simpa using hk (i+1) c (by simpa using z)) j a (by simpa using e)
noncomputable def tpV(p:Int×Int):HO:=.tup [.int p.1,.int p.2]
noncomputable def pL:List bd->List (Int×Int)->bd->Option HO|a::as,p::ps,b=>if b=a then some (tpV p)else pL as ps b|_,_,_=>none
theorem pW:∀{as:List bd}{ps:List (Int×Int)}{b:bd}{o:HO},pL as ps b=some o->∃(j:Nat)(p:Int×Int),as[j]?=some b/\ps[j]?=some p/\o=tpV p
 |a::as,p::ps,b,o,h=>by
   unfold pL at h;split at h;.rename_i e;cases h;subst e;exact⟨0,p,rfl,rfl,rfl⟩
   .obtain⟨j,q,h1,c,f⟩:=pW h;exact⟨j+1,q,by simpa using h1,by simpa using c,f⟩|[],_,_,_,h=>by simp[pL]at h|_::_,[],_,_,h=>by simp[pL]at h
theorem CV:∀{as:List bd}{ps:List (Int×Int)},as.Pairwise (·<·)->∀{j:Nat}{b:bd}{p:Int×Int},as[j]?=some b->ps[j]?=some p->pL as ps b=some (tpV p)|[],_,_,_,_,_,h,_=>by simp at h|_::_,[],_,_,_,_,_,h=>by simp at h|a::as,q::ps,c,j,b,p,h1,f=>by unfold pL;cases j with|zero=>cases h1;cases f;rw[if_pos rfl]|succ j=>
     have h1:as[j]?=some b:=by simpa using h1
     have:=(kU.mp c).1 b (da h1);rw[if_neg (λe=>by rw[e]at this;exact hV _ this)];exact CV (kU.mp c).2 h1 (by simpa using f)
theorem qO:∀as:List bd,Vals (as.map V.ref) (as.map dY)|[]=>.nil|_::as=>.cons rfl (qO as)
theorem Ca{K:PySem.W.Frag}{F:Hp}:∀{as:List bd}{ps:List (Int×Int)},as.length=ps.length->(∀(j:Nat)(b:bd)(p:Int×Int),as[j]?=some b->ps[j]?=some p->F b=some (tpV p))->aH K F (as.map V.ref) (ps.map jC)|[],[],_,_=>.nil|a::as,p::ps,c,h=>.cons (by have:=h 0 a p rfl rfl;rw[show jC p=.tup [.int p.1,.int p.2]from rfl,Rep];refine⟨a,_,rfl,.inl (.inl this),.cons (by rw[Rep]) (.cons (by rw[Rep]) .nil)⟩) (Ca (by simpa using c) λj b q h1 e=>h (j+1) b q (by simpa using h1) (by simpa using e))|[],_::_,c,_=>by simp at c|_::_,[],c,_=>by simp at c
theorem Dw{h:eA}:∀{as:List bd}{ps:List (Int×Int)},as.length=ps.length->(∀(j:Nat)(b:bd),as[j]?=some b->∃p,ps[j]?=some p/\∃t u,h.get? b=some {cls:=.type "tuple",data:=.seq #[eh p.1 t,eh p.2 u]})->Paired (pC h) (as.map dY) (ps.map jC)|[],[],_,_=>.nil|a::as,p::ps,c,h=>.cons (by obtain⟨q,e,t,u,g⟩:=h 0 a rfl;cases e;exact⟨a,[eh p.1 t,eh p.2 u],[p.1,p.2],rfl,⟨_,g,rfl,0,rfl⟩,.cons _ _ (.cons _ _ .nil),by simp,rfl⟩) (Dw (by simpa using c) λj b h1=>by simpa using h (j+1) b (by simpa using h1))|[],_::_,c,_=>by simp at c|_::_,[],c,_=>by simp at c
theorem xP{prog:df}{w:ek}{A:ez}{E:aX->a_->Prop}{s:a_}{v d:bd}{kvs:List (Key×aX)}{ep:Nat}{Q:List aX->a_->Prop}(n:A.handled=none)(i:s.heap.IsItemsView v d)(j:s.heap.DictAt (bj prog w) d kvs ep)(p:kvs.length<=sizeLine)(t:∀(h':eA)(f:Nat)(as:List bd),(∀b o,s.heap.get? b=some o->h'.get? b=some o)->s.heap.objs.size<h'.objs.size->as.length=kvs.length->KdxG (bj prog w) kvs s.heap.objs.size h' as->Q (as.map dY) {s with heap:=h',toks:=f}):cy (cS prog w) A (collect (.ref v)) Q E s:=by
 have g:v<s.heap.objs.size:=let⟨_,h1,_⟩:=i;dl h1;have h:d<s.heap.objs.size:=j.lt_size;unfold collect;refine av (wpAny_runValue (kS F.entry_proto_collect ?_));rw[iX F.plain_proto_collect _];show cy _ A.in1 (newList []>>=λl=>again (.builtin "list.__iadd__" ⟨[l,.ref v],[]⟩)) _ _ s;refine av (ew (cr ⟨lT F.plain_list_iadd _,kS F.entry_list_iadd ?_⟩));rw[iX F.plain_list_iadd _];show cy _ A.in1 (k6 (.ref s.heap.objs.size) (.ref v) (.ref s.heap.objs.size)) _ _ _;refine kdx_extend (A:=A) (R:=λr k=>match r with
  |.ok (.ret v)=>cy (cS prog w) A (match v with
   |.ref a=>do let o<-load a match o.data with|.seq xs _=>eT xs.toList|_=>mN "internal:collect"
   |_=>mN "internal:collect") Q E k|.ok _=>False|.error e=>E e k) (s:={s with heap:=s.heap.push {cls:=.type "list",data:=.seq #[]}}) n (let⟨o,h1,q⟩:=i;⟨o,dM h1,q⟩) (j.at' λo e=>dM e) s.heap.objs.size (qf g) (dS h) _ 0 (cw _ rfl) (λh' f u B as x m y z c=>?_) p;refine av (wpAny_load m (cr ?_));rw[c];exact t h' f as (λb o e=>x b o (dS (dl e)) (dM e)) (dl m) y (z.low (by rw[size_push'];exact le_succ _))
section
variable{X:Cx}{c:Call}{a:dr}{pa:P}{pos:Pos}
theorem HQ:MtR X "dict.items" J6:=by rintro f s σ H x xs v u Q I h i⟨q,j,kvs,rfl,rfl,l,k⟩;cases h;cases i;obtain⟨ho,hz,m,vs,r,g⟩:=(show bJ X.prog X.w H s.heap q (.dz j (.dK (kvs.map sS)))from I.hok q _ l);refine pE PySem.F.slot_dict_items g.typeIs PySem.F.entry_dict_items (PySem.F.args_dict_items_1 _) (meets_dict_items _ q m) ⟨⟨vs,g⟩,?_⟩;have n:(s.heap.push {cls:=.type "dict_items",data:=.fields #[.ref q]}).IsItemsView s.heap.objs.size q:=⟨_,cw _ rfl,rfl,rfl⟩;refine⟨.ref s.heap.objs.size,_,I.laid (t':=s.toks) (o:=.ext (iv s.heap.objs.size q)) (λb o e=>dM e) (dw) ⟨n,⟨_,cw _ rfl⟩,λh1 y z k=>?_⟩,rfl,k _ (I.hok.fresh (dw))⟩;obtain⟨o,p,t⟩:=z;exact⟨o,k o p,t⟩
theorem Vl(hc:X.calm=true):dN X (.builtin "sorted") (rIt X):=by
 rintro al s σ H xs us Q I r⟨l,q,ob,kvs,hx,hl,hq,⟨am,ac⟩,F,sm,k⟩;subst hx;have so:sortable (kvs.map jC)=true:=by
  have:(kvs.map jC).all wK=true:=by rw[fP];intro x hx;obtain⟨p,_,rfl⟩:=cU.mp hx;rfl
  simp only[sortable,dy,this,Bool.or_true,Bool.and_true,decide_eq_true_eq];omega
 have J:(kvs.map jC).Pairwise λa b=>mq a b=true:=by rw[List.pairwise_map];refine ac.imp λ{a b}h=>?_;show(!bB [b.1,b.2] [a.1,a.2])=true;simp[bB];omega
 have ae:PK (kvs.map jC)=kvs.map jC:=(qF so (.refl _) J).symm;rw[<-ae]at k;obtain⟨u,rfl,rx⟩:=r.one;cases rx;obtain⟨af,_,_⟩:=(show bJ X.prog X.w H s.heap l (.ext (iv l q))from I.hok l _ hl);obtain⟨ho,hz,hS,vs,rv,dd⟩:=(show bJ X.prog X.w H s.heap q (.dz ob (.dK (kvs.map sS)))from I.hok q _ hq);have L:vs.length=kvs.length:=by rw[<-Paired.length rv,dy]
 obtain⟨f,es,ep,d1,d2,d3,d4⟩:=dd;have dat:s.heap.DictAt (bj X.prog X.w) q vs ep:=⟨f,es,d1,d2,d3,d4⟩;refine Calls.call_function_entry kind_sorted plain_sorted entry_sorted (args_sorted1 _) ?_;unfold im.«sorted»;refine av (m:=checkCount "sorted" 1 1 _) (cr ?_);refine av (xP (A:=X.A.in1) (I.ok.hd hc) af dat (by rw[L,fe];omega) λh1 M as kp hsz N hG=>?_);have hsz:=k8 hsz;have g:as.length=kvs.length:=N.trans L;have pr:=xZ rv N hG.pairs;have tt:Paired (pC h1) (as.map dY) (kvs.map jC):=Dw g pr;have O:∀a o,pL as kvs a=some o->s.heap.objs.size<=a:=λa o e=>by obtain⟨j,p,U,_,_⟩:=pW e;exact k8 (hG.above a (da U))
 have i:∀a o,pL as kvs a=some o->H a=none:=λa o e=>I.hok.fresh (O a o e);have B:aG H (yE (pL as kvs) H):=λb o e=>by cases z:pL as kvs b with|none=>rw[gW z];exact e|some f=>rw[i b f z]at e;cases e
 have e0:Ext F H (yE (pL as kvs) F) (yE (pL as kvs) H):=by
  refine⟨B,λb o e=>?_,λb o e=>?_,λb n n'=>?_⟩;.cases z:pL as kvs b with|none=>rw[gW z];exact e|some f=>have n0:=i b f z;rw[sm b o e]at n0;cases n0
  .cases z:pL as kvs b with|none=>rw[gW z]at e ⊢;exact sm b o e|some f=>rw[vV z]at e ⊢;exact e
  .cases z:pL as kvs b with|none=>rw[gW z]at n';exact absurd n n'|some f=>rw[i b f z];rfl
 have rs:aH X.K (yE (pL as kvs) F) (as.map V.ref) (kvs.map jC):=Ca g λj b p h1 h2=>vV (CV hG.rise h1 h2);have vv:=qO as;have ag:∀b∈as,b<h1.objs.size:=λb hb=>hG.there hb;have W:(as.map dY).length=kvs.length:=by rw[dy];exact g
 refine av (wpAny_newList ?_ (by rw[W,fe];omega));generalize Y:(h1.push {cls:=.type "list",data:=.seq (as.map dY).toArray}:eA)=G;have Z:G.get? h1.objs.size=some (pc "list" (as.map dY).toArray 0):=by rw[<-Y];exact cw _ rfl
 have Kr:∀b o,h1.get? b=some o->G.get? b=some o:=λb o e=>by rw[<-Y];exact dM e
 have E:∀b o,h1.get? b=some o->b≠h1.objs.size:=λb o e=>dS (dl e);show cy _ _ _ _ _ {s with heap:=G,toks:=M};refine av (hQ (gN slot_list_sort ⟨_,Z,rfl⟩ entry_list_sort ?body (args_list_sort _)));case body=>
  refine Hw (s:={s with heap:=G,toks:=M}) (κ:=tuples' (e_ "int"!=e_ "tuple")) Z so (by omega) tt Ma J (λh' k' C hC h2=>?_) (λh' k' u v d e hd he C hC=>?_) λh' cc p k' p1 p2 e=>?_;.exact Fb (s:={s with heap:=h',toks:=M}) (uf (λb o z=>k' b o (E b o z) (Kr b o z)) tt) h2 hC
  .have kk:∀b o,h1.get? b=some o->h'.get? b=some o:=λb o z=>k' b o (E b o z) (Kr b o z);exact Oa (s:={s with heap:=h',toks:=M}) (nY kk hd) (nY kk he) hC
  . refine⟨_,rfl,cr ⟨_,rfl,?_⟩⟩;have kk:∀b o,h1.get? b=some o->h'.get? b=some o:=λb o z=>k' b o (E b o z) (Kr b o z);have hL:pL as kvs h1.objs.size=none:=by cases z:pL as kvs h1.objs.size with|none=>rfl|some o=>obtain⟨j,p,U,_,_⟩:=pW z;exact absurd (ag _ (da U)) (hV _)
    have ah:upd (yE (pL as kvs) H) h1.objs.size (.lst (pick .non p (as.map V.ref)))=yE (λb=>if b=h1.objs.size then some (.lst (pick .non p (as.map V.ref)))else pL as kvs b) H:=by
     funext b;unfold upd yE;by_cases z:b=h1.objs.size;.rw[if_pos z];simp only[if_pos z]
     .rw[if_neg z];simp only[if_neg z]
    have I':=ZX (t':=M) (h':=h') (nw:=λb=>if b=h1.objs.size then some (.lst (pick .non p (as.map V.ref)))else pL as kvs b) I (λb o z=>kk b o (kp b o z)) (λa o z=>by
     by_cases y:a=h1.objs.size;.rw[y];exact hsz
     .simp only[if_neg y]at z;exact O a o z) (λa o z=>by
     by_cases y:a=h1.objs.size;.simp only[if_pos y]at z;cases z;subst y;exact⟨by rw[qy p1,W,fe];omega,pick .none p (as.map dY),cc,J3 vv,e⟩
     .simp only[if_neg y]at z;obtain⟨j,p',U,e2,rfl⟩:=pW z;obtain⟨ap,e3,t,u,e4⟩:=pr j a U;rw[e2]at e3;cases e3;exact⟨by rw[fe];simp,[eh p'.1 t,eh p'.2 u],.cons ⟨t,rfl⟩ (.cons ⟨u,rfl⟩ .nil),⟨_,kk _ _ e4,rfl,0,rfl⟩⟩);rw[<-ah]at I';refine⟨.ref h1.objs.size,_,I',rfl,?_⟩;have ai:aH X.K (yE (pL as kvs) F) (pick .non p (as.map V.ref)) (PK (kvs.map jC)):=by rw[<-p2];exact GJ rs
    refine zP e0.sub ai (by rw[gW hL];exact I.hok.fresh hsz) λv F2 G x rn=>k v F2 G ⟨e0.hs.trans x.hs,e0.fs.trans x.fs,x.sub,λc n n'=>?_⟩ ?_
    . by_cases e:yE (pL as kvs) F c=none;.have:=x.gr c e n';cases z:H c with|none=>rfl|some o=>rw[B c o z]at this;exact this
      .exact e0.gr c n e
    obtain⟨b,xs,q1,q2,q3,q4,q5⟩:=rn;refine⟨b,xs,q1,q2,q3,q4,?_⟩;cases z:H b with|none=>rfl|some o=>rw[B b o z]at q5;cases q5
theorem GK{o:dr}{to:TE}{f g:Pos}(ho:PE X o to)(j:ix o "items" X.env (eu o X.env)=eu o X.env:=by rfl)(l:(f.endLine==g.line)=true:=by rfl):PE X (.Call (.Attribute o "items" f) [] [] g) (λσ H Q=>to σ H λx m=>J6 x [] m Q):=by intro i s σ H Q I h;refine wpAny_Call_method0_late j l (bY (ho i s σ H _ I h) λv s1⟨x,m,I1,r1,q1⟩=>?_);obtain⟨q,u,kvs,rfl,_,y,k⟩:=id q1;cases r1;obtain⟨ho,hz,z,vs,r,n,es,ep,p,t,A⟩:=(show bJ X.prog X.w m s1.heap q (.dz u (.dK (kvs.map sS)))from I1.hok q _ y);refine⟨"dict","dict.items",PySem.F.plainAttrs_dict,PySem.F.slot_dict_items,PySem.F.type_dict_items,⟨n,p,t.1⟩,λb e=>?_,kg rfl (PySem.evalArgs_none (HQ i s1 σ m (.ref q) [] _ [] Q I1 rfl .nil q1))⟩;cases e;exact⟨n,p,t.2.1⟩
theorem Lb{x:Str}{U f j:Pos}{o:dr}(W:x="sorted")(hc:X.calm=true)(Y:Gl X x)(Z:X.mg x=none)(p:(f.endLine==j.line)=true)(ha:SX X c o pa)(s:ix o "items" X.env (eu o X.env)=eu o X.env:=by rfl):SX X c (.Call (.Name x U) [.Call (.Attribute o "items" f) [] [] j] [] pos) (.blt .Ke [pa]):=by
 subst W;obtain⟨ta,h1,h3⟩:=ha.cP;refine⟨dR (dX (Vl hc) Y Z boot_sorted (bF (GK h1 s p) dD)) ?_,λi h=>by cases h⟩;rintro σ H Q⟨F,ρ,r,C,g,e,k⟩;have e:((cP (isVar pa) (HH.ev c pa) ρ).bind λx ρ=>lift (blt .Ke [x]) ρ)=.ok r C:=e;obtain⟨d,ac,e1,u⟩:=aj e;have zz:=aD u;clear u;obtain⟨u,e3⟩:=zz;subst e3;refine h3 g e1 λv J y st pv=>?_;obtain⟨kvs,rfl⟩:∃kvs,d=.eG (.k kvs):=by cases d with
  |eG m=>cases m with|k kvs=>exact⟨kvs,rfl⟩|t kvs=>cases u
  |_=>cases u
 obtain⟨so,he⟩:=bC (show(if kvs.length<=16777216/\kvs.Pairwise (λa b=>a.1<b.1)then some (R.own (kvs.map jC))else none)=some r from u);subst he;obtain⟨q,L,rfl,M⟩:=pv.eG st.gs.sub;refine⟨q,L,kvs,rfl,rfl,M,λl A=>⟨l,q,L,kvs,rfl,aP,aG.cG A q _ M,so,J,λb o e=>aG.cG A b o (st.gs.sub b o e),λw E G B rn=>?_⟩⟩;have sm:aG y (upd y l (.ext (iv l q))):=aG.cG A;have x3:Ext J y E G:=⟨sm.trans B.hs,B.fs,B.sub,λb n n'=>by
  have:=B.gr b n n';by_cases N:b=l;.subst N;rw[A];rfl
  .rw[aC N]at this;exact this⟩;have I:cF X.K E G y w (.own (kvs.map jC)):=by obtain⟨b,xs,q1,q2,q3,q4,O⟩:=rn;refine⟨b,xs,q1,q2,q3,q4,?_⟩;cases z:y b with|none=>rfl|some o=>rw[sm b o z]at O;cases O
 exact k w E G (st.trans (x3.stp st.gs)) (.later st (I.pG st.gs))
end
end HH
end
section
namespace HH
open PySem L2 PySem.Spec PyProof.Rows
variable{o:Option V}{rows:List (List D)}
section
variable{K:PySem.W.Frag}{F F' F1 H H' H1 F0 H0:Hp}{ρ ρ' ρ1 ρ0:List Sl}{σ σ' σ1 σ0:L2.St}{x:Nat}{q:bd}{as:List bd}{rows oZ:List (List D)}
noncomputable def HX:Sl->Bool|.aQ=>true|.hold _=>true|_=>false
theorem gq{s:Sl}{i:Nat}{b:bd}(g:HX s=true)(h:bf (ρ.set x s) (σ.set x o) i b):bf ρ σ i b/\i≠x:=by
 obtain⟨⟨t,j,e,a⟩,f⟩:=h;by_cases c:x=i
 . subst c;rw[mr]at e;rw[if_pos rfl]at e;split at e;.cases e;cases s<;>first|(cases a;done)|(cases g;done)
   .cases e
 .rw[eP c]at e f;exact⟨⟨⟨t,j,e,a⟩,f⟩,λz=>c z.symm⟩
theorem GS.Dy{s:Sl}(f:HX s=true)(g:GS K F ρ σ H):GS K F (ρ.set x s) (σ.set x o) H:=by
 refine⟨g.sub,by simp[g.len],λi b d e=>?_,λi t k e h=>?_,λi j a h1 l=>g.dis i j a (gq f h1).1 (gq f l).1⟩
 . by_cases c:x=i
   . subst c;rw[mr,if_pos rfl]at e;split at e;.cases e;cases f
     .cases e
   .rw[eP c]at e ⊢;exact g.val i b d e
 . by_cases c:x=i
   . subst c;rw[mr,if_pos rfl]at e;split at e;.cases e;cases s<;>first|(cases h;done)|(cases f;done)
     .cases e
   .rw[eP c]at e ⊢;exact g.own i t k e h
theorem aB.Dy{s:Sl}{o:Option V}(a:HX s=true)(t:aB K F ρ σ H F1 ρ1 σ1 H1)(f:∀s0,ρ[x]?=some s0->tL s0=false):aB K F ρ σ H F1 (ρ1.set x s) (σ1.set x o) H1:=by
 refine⟨t.gs.Dy a,t.bQ,t.yt,t.keep,λb⟨i,h⟩=>t.wg b ⟨i,(gq a h).1⟩,by simp[t.len],λi g e l=>?_⟩;have c:x≠i:=by rintro rfl;rw[f _ e]at l;cases l
 obtain⟨j,s2,k,m⟩:=t.lk i g e l;exact⟨by rw[eP c];exact j,s2,by rw[eP c];exact k,m⟩
theorem aB.free{i:Nat}{s1:Sl}(t:aB K F ρ σ H F1 ρ1 σ1 H1)(h:ρ1[i]?=some s1)(a:tL s1=false):∀s0,ρ[i]?=some s0->tL s0=false:=λs0 e=>by cases z:tL s0 with|false=>rfl|true=>obtain⟨_,s2,b,c⟩:=t.lk i s0 e z;rw[h]at b;cases b;rw[c.tL z]at a;cases a
structure Rp(F:Hp)(ρ:List Sl)(σ:L2.St)(H:Hp)(a:bd)(xs:List V):Prop where kp:Kp ρ σ H a (.lst xs)fr:F a=none
theorem Rp.stp{a:bd}{xs:List V}(h:Rp F ρ σ H a xs)(s:aB K F ρ σ H F' ρ' σ' H'):Rp F' ρ' σ' H' a xs:=by refine⟨h.kp.stp s,?_⟩;cases z:F' a with|none=>rfl|some o=>
   rcases s.yt a h.fr (by rw[z];simp)with y|y;.exact absurd y h.kp.2
   .rw[h.kp.1]at y;cases y
structure Nw(K:PySem.W.Frag)(x:Nat)(q:bd)(as:List bd)(F:Hp)(ρ:List Sl)(σ:L2.St)(H:Hp)(rows:List (List D)):Prop where
 slot:ρ[x]?=some (.hold rows)val:σ[x]?=some (some (.ref q))out:Rp F ρ σ H q (as.map V.ref)nd:(q::as).Nodup
 len:as.length=rows.length
 row:∀(k:Nat)(a:bd)(ds:List D),as[k]?=some a->rows[k]?=some ds->Wt K F ρ σ H a ds
theorem Nw.stp(w:Nw K x q as F ρ σ H rows)(s:aB K F ρ σ H F' ρ' σ' H'):Nw K x q as F' ρ' σ' H' rows:=by obtain⟨b,s2,c,e⟩:=s.lk x _ w.slot rfl;cases(show s2=.hold rows from e);exact⟨c,b.trans w.val,w.out.stp s,w.nd,w.len,λk a f h1 g=>(w.row k a f h1 g).stp s⟩
structure NB(K:PySem.W.Frag)(x:Nat)(q:bd)(as:List bd)(F0:Hp)(ρ0:List Sl)(σ0:L2.St)(H0:Hp)(F:Hp)(ρ:List Sl)(σ:L2.St)(H:Hp)(rows:List (List D)):Prop where
 stp:aB K F0 ρ0 σ0 H0 F ρ σ H
 fresh:∀b,b∈q::as->Own ρ0 σ0 b\/H0 b=none
 free:∀s0,ρ0[x]?=some s0->tL s0=false
 nw:Nw K x q as F ρ σ H rows
theorem NB.step(b:NB K x q as F0 ρ0 σ0 H0 F ρ σ H rows)(s:aB K F ρ σ H F' ρ' σ' H'):NB K x q as F0 ρ0 σ0 H0 F' ρ' σ' H' rows:=⟨b.stp.trans s,b.fresh,b.free,b.nw.stp s⟩
theorem Bl{s:Sl}{a:bd}{b:HO}(c:HX s=true)(h:Kp ρ σ H a b):Kp (ρ.set x s) (σ.set x o) H a b:=⟨h.1,λ⟨i,z⟩=>h.2 ⟨i,(gq c z).1⟩⟩
theorem My{s:Sl}{a:bd}{b:List D}(c:HX s=true)(h:Wt K F ρ σ H a b):Wt K F (ρ.set x s) (σ.set x o) H a b:=by obtain⟨⟨xs,h1,e⟩,f⟩:=h;exact⟨⟨xs,Bl c h1,e⟩,f⟩
theorem aB.adH{Da:bd}{o:HO}(s:aB K F ρ σ H F1 ρ1 σ1 H1)(h:Own ρ σ Da\/H Da=none)(j:F1 Da=none)(ho:¬ Own ρ1 σ1 Da):aB K F ρ σ H F1 ρ1 σ1 (upd H1 Da o):=by
 refine⟨⟨λb u e=>?_,s.gs.len,s.gs.val,λi t c e f=>?_,s.gs.dis⟩,s.bQ,s.yt,λb u e n=>?_,s.wg,s.len,s.lk⟩
 . have:b≠Da:=by rintro rfl;rw[j]at e;cases e
   rw[aC this];exact s.gs.sub b u e
 . obtain⟨a,xs,g,k,l,m⟩:=s.gs.own i t c e f;have:a≠Da:=by rintro rfl;exact ho ⟨i,⟨t,c,e,f⟩,g⟩
   exact⟨a,xs,g,by rw[aC this];exact k,l,m⟩
 . have:b≠Da:=by
    rintro rfl;rcases h with h|h;.exact n h
    .rw[h]at e;cases e
   rw[aC this];exact s.keep b u e n
theorem NB.mut{r:Nat}{a:bd}{row e:List D}{ys:List V}(b:NB K x q as F0 ρ0 σ0 H0 F ρ σ H rows)(g:as[r]?=some a)(hr:rows[r]?=some row)(n:aH K F ys e):NB K x q as F0 ρ0 σ0 H0 F (ρ.set x (.hold (rows.set r e))) σ (upd H a (.lst ys)) (rows.set r e):=by
 have w:=b.nw.row r a row g hr;obtain⟨⟨xs,l,r1⟩,f1⟩:=w;have p:x<ρ.length:=(dJ b.nw.slot).1;have sx:σ.set x (some (.ref q))=σ:=by have:=b.nw.val;obtain⟨h1,f⟩:=dJ this;rw[<-f];simp
 have mem:a∈q::as:=dE _ (da g);have s1:=(b.stp.adH (o:=.lst ys) (b.fresh a mem) f1 l.2).Dy (x:=x) (s:=.hold (rows.set r e)) (o:=some (.ref q)) rfl b.free;rw[sx]at s1;have t:q≠a:=by have:=(eK.mp b.nw.nd).1;rintro rfl;exact this (da g)
 have own:∀{c:bd},¬ Own ρ σ c->¬ Own (ρ.set x (.hold (rows.set r e))) σ c:=λ{c}h⟨i,z⟩=>h ⟨i,by have:=gq (x:=x) (s:=.hold (rows.set r e)) (o:=some (.ref q)) (σ:=σ) (ρ:=ρ) rfl (b:=c) (i:=i) (by rw[sx];exact z);exact this.1⟩;refine⟨s1,b.fresh,b.free,⟨bx p,b.nw.val,⟨⟨by rw[aC t];exact b.nw.out.kp.1,own b.nw.out.kp.2⟩,b.nw.out.fr⟩,b.nw.nd,by simp[b.nw.len],λk c u h1 f=>?_⟩⟩;by_cases j:k=r;.subst j;rw[g]at h1;cases h1;have v:k<rows.length:=(dJ hr).1;rw[bx v]at f;cases f;exact⟨⟨ys,⟨aP,own l.2⟩,n⟩,f1⟩
 . rw[eP (λz=>j z.symm)]at f;obtain⟨⟨y,m,A⟩,f2⟩:=b.nw.row k c u h1 f;have nc:c≠a:=by rintro rfl;have nd:=(eK.mp b.nw.nd).2;obtain⟨l1,B⟩:=dJ h1;obtain⟨l2,C⟩:=dJ g;exact j ((List.getElem_inj nd).mp (B.trans C.symm))
   exact⟨⟨y,⟨by rw[aC nc];exact m.1,own m.2⟩,A⟩,f2⟩
noncomputable def Fz(F H:Hp)(bs:List bd):Hp:=λb=>if b∈bs then H b else F b
theorem tY{G:Hp}:∀{as:List bd}{rows:List (List D)},as.length=rows.length->(∀(k:Nat)(a:bd)(c:List D),as[k]?=some a->rows[k]?=some c->Rep K G (.ref a) (.lst c))->aH K G (as.map V.ref) (rows.map D.lst)|[],[],_,_=>.nil|a::as,c::rows,h,k=>.cons (k 0 a c rfl rfl) (tY (by simpa using h) λj b es h1 e=>k (j+1) b es (by simpa using h1) (by simpa using e))|[],_::_,h,_=>by simp at h|_::_,[],h,_=>by simp at h
theorem Nw.Qy(w:Nw K x q as F ρ σ H rows){b:bd}(hb:b∈q::as):F b=none/\¬ Own ρ σ b:=by
 rcases de.mp hb with rfl|hb;.exact⟨w.out.fr,w.out.kp.2⟩
 . obtain⟨k,a⟩:=iy hb;have c:k<rows.length:=by rw[<-w.len];exact(dJ a).1
   obtain⟨⟨xs,e,_⟩,f1⟩:=w.row k b rows[k] a (by simp[c]);exact⟨f1,e.2⟩
theorem Nw.fz(w:Nw K x q as F ρ σ H rows)(sm:aG F H):aG F (Fz F H (q::as))/\aG (Fz F H (q::as)) H/\Rep K (Fz F H (q::as)) (.ref q) (.lst (rows.map D.lst)):=by
 have s1:aG F (Fz F H (q::as)):=λb o e=>by unfold Fz;rw[if_neg λc=>by rw[(w.Qy c).1]at e;cases e];exact e
 refine⟨s1,λb o e=>?_,?_⟩
 . unfold Fz at e;split at e;.exact e
   .exact sm b o e
 .rw[Rep];refine⟨q,as.map V.ref,rfl,eO.of (by unfold Fz;rw[if_pos hU];exact w.out.kp.1),tY w.len λk a f h1 g=>?_⟩;obtain⟨⟨xs,h,r1⟩,f1⟩:=w.row k a f h1 g;rw[Rep];exact⟨a,xs,rfl,eO.of (by unfold Fz;rw[if_pos (dE _ (da h1))];exact h.1),r1.mono s1⟩
theorem NB.dz(b:NB K x q as F0 ρ0 σ0 H0 F ρ σ H rows):aB K F0 ρ0 σ0 H0 (Fz F H (q::as)) (ρ.set x (.val false (.lst (rows.map D.lst)))) σ H:=by
 obtain⟨s1,s2,w⟩:=b.nw.fz b.stp.gs.sub;have g:=b.stp.gs;have s:x<ρ.length:=(dJ b.nw.slot).1;have k:∀{j:Nat}{c:bd},bf (ρ.set x (.val false (.lst (rows.map D.lst)))) σ j c->bf ρ σ j c/\x≠j:=λ{j c}⟨⟨t,r,e,m⟩,e1⟩=>by
  by_cases f:x=j;.subst f;rw[bx s]at e;cases e;cases m
  .rw[eP f]at e;exact⟨⟨⟨t,r,e,m⟩,e1⟩,f⟩
 refine⟨⟨s2,by simp[g.len],λi y d e=>?_,λi t r e m=>?_,λi j c h1 p=>g.dis i j c (k h1).1 (k p).1⟩,b.stp.bQ.trans s1,λc n u=>?_,b.stp.keep,λc⟨j,h⟩=>b.stp.wg c ⟨j,(k h).1⟩,by simp[b.stp.len],λi t e l=>?_⟩
 . by_cases f:x=i;.subst f;rw[bx s]at e;cases e;exact⟨_,b.nw.val,w⟩
   .rw[eP f]at e;obtain⟨v,h1,p⟩:=g.val i y d e;exact⟨v,h1,p.mono s1⟩
 . by_cases f:x=i;.subst f;rw[bx s]at e;cases e;cases m
   .rw[eP f]at e;obtain⟨a,o,h1,p,z,A⟩:=g.own i t r e m;refine⟨a,o,h1,p,?_,A.mono s1⟩;unfold Fz;rw[if_neg λB=>(b.nw.Qy B).2 ⟨i,⟨t,r,e,m⟩,h1⟩];exact z
 . by_cases hc:c∈q::as;.exact(b.fresh c hc).imp id kh
   . have:Fz F H (q::as) c=F c:=by unfold Fz;rw[if_neg hc]
     rw[this]at u;exact b.stp.yt c n u
 . have c:x≠i:=by rintro rfl;rw[b.free _ e]at l;cases l
   obtain⟨C,s3,E,G⟩:=b.stp.lk i t e l;exact⟨C,s3,by rw[eP c];exact E,G⟩
end
inductive Rq(K:PySem.W.Frag)(x:Nat)(f:List Sl->Res Fl)(E:Ends)(σ:L2.St)(H:Hp):Prop where|mk(F0:Hp)(ρ0:List Sl)(σ0:L2.St)(H0 F:Hp)(ρ:List Sl)(q:bd)(as:List bd)(rows:List (List D))(fl:Fl)(ρ':List Sl)(b:NB K x q as F0 ρ0 σ0 H0 F ρ σ H rows)(e:f ρ=.ok fl ρ')(k:∀F' σ' H',aB K F0 ρ0 σ0 H0 F' ρ' σ' H'->aG F F'->((∀r,fl≠.ret r)->∃oZ,NB K x q as F0 ρ0 σ0 H0 F' ρ' σ' H' oZ)->JQ K E F' ρ' σ' H' ρ0 σ0 H0 fl)
inductive YF(K:PySem.W.Frag)(x:Nat)(f:List Sl->Res Fl)(E:Ends)(σ:L2.St)(H:Hp):Prop where|mk(F0:Hp)(ρ0:List Sl)(σ0:L2.St)(H0 F:Hp)(ρ:List Sl)(q:bd)(as:List bd)(rows:List (List D))(fl:Fl)(ρ':List Sl)(b:NB K x q as F0 ρ0 σ0 H0 F ρ σ H rows)(e:f ρ=.ok fl ρ')(k:∀F' σ' H',aB K F0 ρ0 σ0 H0 F' ρ' σ' H'->JQ K E F' ρ' σ' H' ρ0 σ0 H0 fl)
structure Yz(X:Cx)(c:Call)(n x:Nat)(st:eJ)(s:S):Prop where p:PS X st (Rq X.K x (ex c n s))
structure Wi(X:Cx)(c:Call)(n x:Nat)(st:List eJ)(s:List S):Prop where p:wj X st (Rq X.K x (iB c n s))
structure SBT(X:Cx)(c:Call)(n x:Nat)(st:List eJ)(s:List S):Prop where p:wj X st (YF X.K x (iB c n s))
section
variable{X:Cx}{c:Call}{n x:Nat}{e a b d tg iter:dr}{p pa pb pd:P}{pos:Pos}{body:List eJ}{ss:List S}{st:eJ}{s:S}{sts:List eJ}
theorem pK:Wi X c n x [] []:=⟨nM Cv λD σ H⟨f,ρ0,σ0,H0,F,ρ,q,as,rows,fl,ρ',nb,e,k⟩=>by rw[xs0]at e;cases e;exact k F σ H nb.stp (.refl _) λ_=>⟨rows,nb⟩⟩
theorem rC(h1:Yz X c n x st s)(w:Wi X c n x sts ss):Wi X c n x (st::sts) (s::ss):=by refine⟨nM (mF h1.p w.p) ?_⟩;rintro D σ H⟨h,f,g,i,F,ρ,q,as,rows,fl,t,l,e,k⟩;rw[RN]at e;obtain⟨f1,j,m,e⟩:=aj e;cases f1 with|next=>refine⟨h,f,g,i,F,ρ,q,as,rows,.next,j,l,m,λF1 y I s1 sm nn=>?_⟩;obtain⟨A,B⟩:=nn (λr z=>by cases z);exact⟨h,f,g,i,F1,j,q,as,A,fl,t,B,e,λC u E s2 G v=>k C u E s2 (sm.trans G) v⟩|brk=>cases e;exact⟨h,f,g,i,F,ρ,q,as,rows,.brk,_,l,m,k⟩|cont=>cases e;exact⟨h,f,g,i,F,ρ,q,as,rows,.cont,_,l,m,k⟩|ret r=>cases e;exact⟨h,f,g,i,F,ρ,q,as,rows,.ret r,_,l,m,k⟩
theorem Jm(h1:Yz X c n x st s)(w:SBT X c n x sts ss):SBT X c n x (st::sts) (s::ss):=by refine⟨nM (mF h1.p w.p) ?_⟩;rintro D σ H⟨j,g,h,l,F,ρ,q,as,rows,fl,v,t,e,k⟩;rw[RN]at e;obtain⟨f1,m,u,e⟩:=aj e;cases f1 with|next=>refine⟨j,g,h,l,F,ρ,q,as,rows,.next,m,t,u,λF1 f i s1 sm nn=>?_⟩;obtain⟨y,A⟩:=nn (λr z=>by cases z);exact⟨j,g,h,l,F1,m,q,as,y,fl,v,A,e,k⟩|brk=>cases e;exact⟨j,g,h,l,F,ρ,q,as,rows,.brk,_,t,u,λF1 f i s1 _ _=>k F1 f i s1⟩|cont=>cases e;exact⟨j,g,h,l,F,ρ,q,as,rows,.cont,_,t,u,λF1 f i s1 _ _=>k F1 f i s1⟩|ret r=>cases e;exact⟨j,g,h,l,F,ρ,q,as,rows,.ret r,_,t,u,λF1 f i s1 _ _=>k F1 f i s1⟩
theorem Ob(h:SB X c n sts ss):SBT X c n x sts (.dz x::ss):=by refine⟨nM h ?_⟩;rintro D σ H⟨B,l,m,C,F,ρ,q,as,rows,fl,f,i,e,k⟩;rw[RN]at e;obtain⟨f1,u,j,e⟩:=aj e;rw[HH.X24,i.nw.slot]at j;cases j;have t:=i.dz;refine⟨_,_,fl,f,t.gs,e,λw g y s=>?_⟩;have z:=k w g y (t.trans s);cases fl with|next=>exact z|brk=>exact z|cont=>exact z|ret r=>exact λv A=>z v (A.later t)
theorem RT{r u:List eJ}{v w:List S}(hc:ST X c e p)(z:Wi X c n x r v)(A:Wi X c n x u w):Yz X c n x (.If e r u pos) (.ifs p v w):=by refine⟨dB (Qw hc z.p A.p) ?_⟩;rintro D σ H⟨B,j,l,C,F,ρ,q,as,rows,fl,i,y,e,k⟩;rw[HH.X13]at e;obtain⟨t,g,E,e⟩:=aj e;refine⟨F,ρ,t,g,y.stp.gs,E,λF1 G s1=>?_⟩;have go:∀{f:List Sl->Res Fl},f g=.ok fl i->Rq X.K x f D σ G:=λ{f}h=>⟨B,j,l,C,F1,g,q,as,rows,fl,i,y.step s1,h,λI m J s2 sm nn=>k I m J s2 (s1.bQ.trans sm) nn⟩;cases t with|true=>rw[if_pos rfl]at e;exact go e|false=>rw[if_neg dQ]at e;exact go e
theorem J9{ρ:List Sl}(h:jj ρ x=some rows):ρ[x]?=some (.hold rows):=by
 unfold jj at h;split at h;.rename_i z;cases h;exact z
 .cases h
noncomputable def WalkN(K:PySem.W.Frag)(J:It)(i:List D)(F1:Hp):Prop:=∀(k:Nat)(h f:Hp),aG F1 h->aG h f->(∀d,i[k]?=some d->J.go k f/\∀x j,J.Kd k f x j->∃g,Ext h f g j/\Rep K g x d)/\(i.length<=k->J.stop k f)
inductive ad3(K:PySem.W.Frag)(f:Ev)(σ:L2.St)(H:Hp)(R:It->Hp->Prop):Prop where|mk(F:Hp)(ρ:List Sl)(r:HH.R)(ρ1:List Sl)(ds:List D)(g:GS K F ρ σ H)(e:f ρ=.ok r ρ1)(e2:items r.d=some ds)(k:∀J F1 H1,aB K F ρ σ H F1 ρ1 σ H1->WalkN K J ds F1->R J H1)
structure SIN(X:Cx)(c:Call)(tg e:dr)(p:P):Prop where p:PI X tg e (ad3 X.K (HH.ev c p))
theorem M8(h:SX X c e p):SIN X c tg e p:=by refine⟨lu (yL h.ev) ?_⟩;rintro σ H R⟨F,ρ,r,m,y,g,e,i,k⟩;refine⟨F,ρ,r,m,g,e,λv z A s t=>?_⟩;obtain⟨B,s2,_,j⟩:=s.dz t;cases hd:r.d with|tup es=>rw[hd]at j i;cases i;rw[Rep]at j;obtain⟨a,xs,rfl,h1,q⟩:=j;exact⟨a,rfl,.inr ⟨⟨xs,aG.gD s2.gs.sub h1⟩,k _ _ _ s2 λk u w f l=>Bk (aG.gD l (aG.gD f h1)) (q.mono f) l k⟩⟩|lst es=>rw[hd]at j i;cases i;rw[Rep]at j;obtain⟨a,xs,rfl,h1,q⟩:=j;exact⟨a,rfl,.inl ⟨⟨xs,s2.gs.sub.seq h1⟩,k _ _ _ s2 λk u w f l=>qJ (l.seq (f.seq h1)) (q.mono f) l k⟩⟩|_=>rw[hd]at i;cases i
theorem FJ{K:PySem.W.Frag}{F1:Hp}(i j:Int):WalkN K (Xf i (j-i).toNat) ((dP (j-i).toNat).map λ(k:Nat)=>D.int (i+(k:Int))) F1:=by
 refine λk g u _ sm=>⟨λd hd=>?_,λh=>?_⟩;.rw[eR]at hd;obtain⟨m,l,q⟩:=map_some hd;obtain⟨h1,f⟩:=dJ l;rw[List.getElem_range]at f;subst f;subst q;rw[jI]at h1;refine⟨h1,?_⟩;rintro x v⟨r,t⟩;subst r;subst t;exact⟨g,.refl sm,bO _⟩
 .rw[dy,jI]at h;exact h
theorem Ha{x:Str}{q:Pos}(t:x="range")(u:Gl X x)(w:X.mg x=none)(y:SX X c a pa)(hs:cv [a] X.env=[(false,eu a X.env)]:=by rfl):SIN X c tg (.Call (.Name x q) [a] [] pos) (.rY (.con (.int 0)) pa):=by
 subst t;obtain⟨O,h1,z⟩:=y.cP;refine⟨lu (ur u w (bF h1 dD hs) hs) ?_⟩;rintro σ H R⟨F,ρ,r,A,Q,g,l,B,k⟩;rw[HH.E21]at l;obtain⟨U,C,E,f⟩:=aj l;have G:=aD f;clear f;obtain⟨f,I⟩:=G;subst I;obtain⟨W,J,L,h⟩:=aj E;cases h;obtain⟨i,f1,f⟩:=cJ f;obtain⟨j,f2,f⟩:=cJ f;obtain⟨⟨b1,b2,b3,b4⟩,f⟩:=bC f;have f1:i=0:=by cases f1;rfl
 subst f1;subst f;cases B;cases cZ f2;refine z g L λv m M s N=>⟨j,by rw[N.int],by omega,by omega,?_⟩;have:=FJ (K:=X.K) (F1:=m) 0 j;rw[qa]at this;refine k _ m M s ?_;rw[qa];exact this
theorem Di{g:TG}{is:List Nat}{one:Bool}(hp:lp (cS X.prog X.w) X.A X.env X.xe)(hc:X.calm=true)(hi:SIN X c tg iter p)(hg:PG X tg g)(ag:GF X.K (λρ d=>cT ρ is one d) g)(hb:Wi X c n x body ss)(hs:∀x,eS iter X.env x=eT x:=by intro _;rfl):Yz X c n x (.For tg iter body [] pos) (.Gh p is one ss):=by
 refine⟨dB (HS hp hc hi.p hg hb.p hs) ?_⟩;rintro D σ H⟨F0,G,I,H0,F,ρ,q,as,rows,fl,U,nb,e,k⟩;rw[HH.X23]at e;obtain⟨r,W,e1,e⟩:=aj e;obtain⟨j,am,e9,e2⟩:=aj e;have zz:=aD e9;clear e9;obtain⟨e9,ah⟩:=zz;subst ah;refine⟨F,ρ,r,W,j,nb.stp.gs,e1,e9,λJ F1 H1 s1 w=>?_⟩;refine⟨λi m u Hi=>∃E f Q,NB X.K x q as F0 G I H0 E f u Hi Q/\aG F1 E/\m=j.length-i/\i<=j.length/\iK is one (iB c n ss) (j.drop i) f=.ok fl U,⟨_,F1,W,rows,nb.step s1,.refl _,rfl,vU,e2⟩,?_⟩;rintro i m u Hi⟨E,f,Q,t,L,rfl,ap,l⟩;obtain⟨w1,w2⟩:=w i E Hi L t.stp.gs.sub;by_cases B:i<j.length
 . right;have hd:j[i]?=some j[i]:=by simp[B]
   obtain⟨go,step⟩:=w1 _ hd;refine⟨go,λY Z=>∃m',m'<j.length-i/\∃E f Q,NB X.K x q as F0 G I H0 E f Y Z Q/\aG F1 E/\m'=j.length-(i+1)/\i+1<=j.length/\iK is one (iB c n ss) (j.drop (i+1)) f=.ok fl U,λY Z z=>z,λy Z yy=>?_⟩;obtain⟨F2,ext,rx⟩:=step y Z yy;have t2:=ext.stp t.stp.gs;rw[ib B,iK]at l;cases hbd:cT f is one j[i]with|none=>rw[hbd]at l;cases l|some ac=>rw[hbd]at l;obtain⟨ae,M,eb,l⟩:=aj l;refine ag y _ F2 f ac u Z _ t2.gs rx hbd λar sb=>?_;have t3:=t2.trans sb;refine⟨F0,G,I,H0,F2,ac,q,as,Q,ae,M,t.step t3,eb,λF4 af H4 s4 ai N=>?_⟩;have C:aG F1 F4:=L.trans (ext.fs.trans ai);cases ae with|next=>obtain⟨Ku,O⟩:=N (λr z=>by cases z);exact⟨_,by omega,F4,M,Ku,O,C,rfl,B,l⟩|cont=>obtain⟨Ku,O⟩:=N (λr z=>by cases z);exact⟨_,by omega,F4,M,Ku,O,C,rfl,B,l⟩|brk=>cases l;exact k F4 af H4 s4 (s1.bQ.trans C) λ_=>N (λr z=>by cases z)|ret r=>cases l;exact λv rr=>k F4 af H4 s4 (s1.bQ.trans C) (λh=>(h r rfl).elim) v rr
 . left;have al:j.drop i=[]:=by rw[kR];omega
   rw[al,iK]at l;cases l;exact⟨w2 (by omega),k E u Hi t.stp (s1.bQ.trans L) λ_=>⟨Q,t⟩⟩
end
section
variable{X:Cx}{c:Call}{n:Nat}{e a b d i j:dr}{p pa pb pd pi pj:P}{pos:Pos}
theorem Mg{ρ f:List Sl}{x:Nat}{o:Option (List (List D))}{fl:Fl}(h:Ga ρ x o=.ok fl f):∃rows,o=some rows/\fl=.next/\f=ρ.set x (.hold rows):=by cases o with|none=>cases h|some rows=>cases h;exact⟨rows,rfl,rfl,rfl⟩
section
variable{K:PySem.W.Frag}{F H F0 H0:Hp}{ρ ρ0:List Sl}{σ σ0:L2.St}{x:Nat}{q:bd}{as:List bd}{rows oZ:List (List D)}
theorem NB.hold(f:NB K x q as F0 ρ0 σ0 H0 F ρ σ H rows)(h:jj ρ x=some oZ):oZ=rows:=by have:=J9 h;rw[f.nw.slot]at this;cases this;rfl
theorem NB.at{k:Int}{r:Nat}{row:List D}(f:NB K x q as F0 ρ0 σ0 H0 F ρ σ H rows)(h1:HH.jE rows.length k=some r)(h:rows[r]?=some row):∃a ys,as[r]?=some a/\Jl (as.map V.ref) k=some (.ref a)/\H a=some (.lst ys)/\aH K F ys row:=by
 have g:r<as.length:=by rw[f.nw.len];exact(dJ h).1
 obtain⟨⟨ys,l,r1⟩,_⟩:=f.nw.row r as[r] row (by simp[g]) h;refine⟨as[r],ys,by simp[g],?_,l.1,r1⟩;unfold Jl;rw[dy,f.nw.len];rw[show L2.jE rows.length k=some r from h1];simp[g]
theorem NB.vy{g:D}{row:List D}(l:NB K x q as F0 ρ0 σ0 H0 F ρ σ H rows)(h:HH.vy ρ x g=some row):∃k a,(∃r:Nat,as[r]?=some a)/\Jl (as.map V.ref) k=some (.ref a)/\g=.int k/\∃ys,H a=some (.lst ys)/\aH K F ys row:=by unfold HH.vy at h;obtain⟨f,h1,h⟩:=cJ h;cases l.hold h1;obtain⟨k,m,h⟩:=cJ h;obtain⟨r,s,t⟩:=cJ h;obtain⟨a,ys,u,v,w,y⟩:=l.at s t;exact⟨k,a,⟨r,u⟩,v,cZ m,ys,w,y⟩
end
theorem Ep{l:List (List D)}{k:Int}{f:List D->Option (List D)}(h:jR rows k f=some l):∃r row g,HH.jE rows.length k=some r/\rows[r]?=some row/\f row=some g/\l=rows.set r g:=by unfold jR at h;obtain⟨r,h1,h⟩:=cJ h;obtain⟨row,m,h⟩:=cJ h;obtain⟨g,q,h⟩:=map_some h;exact⟨r,row,g,h1,m,q,h.symm⟩
theorem Gz{x:Str}{k:Nat}{u f h g:Pos}(hN:X.N[k]?=some x)(hv:v9 X.env.scope x)(hi:SX X c i pi)(he:SX X c e p)(I:vH i:=by intro _ _;rfl)(l:(h.endLine==g.line)=true:=by rfl)(hs:cv [e] X.env=(false,eu e X.env)::cv [] X.env:=by rfl)(s:ix (.Subscript (.Name x u) i f) "append" X.env (eu (.Subscript (.Name x u) i f) X.env)=eu (.Subscript (.Name x u) i f) X.env:=by rfl)(w:((iF g (cv [e] X.env)).all (λx=>!x.1)&&(nI g (k9 [] X.env)).all (λx=>x.1.isSome)&&decide ([e].length+([]:List kn).length+(if([]:List kn).isEmpty then 0 else 1)<30))=true:=by rfl)(J:fx (.Call (.Attribute (.Subscript (.Name x u) i f) "append" h) [e] [] g) none pos.line X.env=eT false:=by rfl)(hd:(x==("__debug__":Str))=false:=by decide)(L:(x==("__classdict__":Str))=false:=by decide):Yz X c n k (.Expr (.Call (.Attribute (.Subscript (.Name x u) i f) "append" h) [e] [] g) pos) (.Km k pi p):=by obtain⟨ti,M,O⟩:=hi.cP;refine⟨dB (pN (J5 plainAttrs_list PySem.F.slot_list_append PySem.F.type_list_append nJ (O8 BL (fC hN hv hd L) M I) (bF he.ev dD hs) s w l hs) J) ?_⟩;rintro E σ H⟨F0,al,am,H0,F,ρ,q,as,rows,fl,ap,Q,e,kk⟩;rw[HH.X22]at e;obtain⟨dk,U,e2,e⟩:=aj e;obtain⟨ah,ai,C,e⟩:=aj e;have zz:=aD C;clear C;obtain⟨C,W⟩:=zz;subst W;obtain⟨r,Y,e3,e⟩:=aj e;obtain⟨rs,y,rfl,rfl⟩:=Mg e;refine⟨.ref q,Q.nw.val,O Q.stp.gs e2 λvi F1 H1 s1 pi=>?_⟩;have G:=Q.step s1;obtain⟨k0,a,g1,g2,g0,ys,g3,g4⟩:=G.vy C;rw[g0]at pi;refine⟨q,_,k0,_,rfl,pi.int,eO.of G.nw.out.kp.1,g2,.inl ⟨rfl,ys,eO.of g3⟩,F1,U,r,Y,G.stp.gs,e3,λv F2 H2 s2 rr=>?_⟩;obtain⟨F3,s3,_,rp⟩:=s2.dz rr;have t:=G.step s3;obtain⟨Z,e5,y⟩:=cJ y;cases t.hold e5;obtain⟨k1,e6,y⟩:=cJ y;obtain⟨m,row,jo,f1,f2,f3,rfl⟩:=Ep y;obtain⟨ac,rfl⟩:=bC f3;have:=cZ e6;rw[g0]at this;cases this;obtain⟨a',ae,af,z,ag,A⟩:=t.at f1 f2;rw[g2]at z;cases z;have B:=t.mut af f2 (A.append (.cons rp .nil));exact⟨a,ae,v,rfl,rfl,ag,by rw[A.length];exact ac,kk F3 σ _ B.stp (s1.bQ.trans s3.bQ) λ_=>⟨_,B⟩⟩
end
section
variable{K:PySem.W.Frag}{F H F1 H1:Hp}{ρ ρ1:List Sl}{σ σ1:L2.St}
theorem aB.since{b:bd}(s:aB K F ρ σ H F1 ρ1 σ1 H1)(h:H1 b=none):Own ρ σ b\/H b=none:=by
 by_cases ho:Own ρ σ b;.exact .inl ho
 .right;cases e:H b with|none=>rfl|some o=>rw[s.keep b o e ho]at h;cases h
theorem NB.mk'{x:Nat}{q:bd}{as:List bd}{s1:Sl}(s:aB K F ρ σ H F1 ρ1 σ1 H1)(e:ρ1[x]?=some s1)(g:tL s1=false)(h:Rp F1 ρ1 σ1 H1 q (as.map V.ref))(nd:(q::as).Nodup)(len:as.length=rows.length)(row:∀(k:Nat)(a:bd)(c:List D),as[k]?=some a->rows[k]?=some c->Wt K F1 ρ1 σ1 H1 a c)(fr:∀b,b∈q::as->Own ρ σ b\/H b=none):NB K x q as F ρ σ H F1 (ρ1.set x (.hold rows)) (σ1.set x (some (.ref q))) H1 rows:=by
 have hi:x<ρ1.length:=(dJ e).1;have f:x<σ1.length:=by rw[<-s.gs.len];exact hi
 exact⟨s.Dy rfl (s.free e g),fr,s.free e g,⟨bx hi,bx f,⟨Bl rfl h.kp,h.fr⟩,nd,len,λk a c h1 i=>My rfl (row k a c h1 i)⟩⟩
end
theorem Jb{K:PySem.W.Frag}{F H:Hp}{ρ e l:List Sl}{σ:L2.St}{ul:List Sl->List Sl}{ti:TI}{is:List Nat}{one:Bool}{c:Call}{el:Ev}{g:TG}{Q:VK}{f:List D}{m n:Nat}(hm:σ.length=m)(ay:lq K m is one g)(aE:∀R:It->Hp->Prop,(∀J F1 Y,Walk K F ρ σ H ul J f F1 e Y->R J Y)->ti σ H R)(bo:f.length<=lim)(e2:fO is one el f [] (e++b_ n .aQ)=.ok rows l)(k:∀ q as F' H',aB K F ρ σ H F' (ul (l.take e.length)) σ H'->Rp F' (ul (l.take e.length)) σ H' q (as.map V.ref)->(q::as).Nodup->as.length=rows.length->(∀(k:Nat)(a:bd)(f:List D),as[k]?=some a->rows[k]?=some f->Wt K F' (ul (l.take e.length)) σ H' a f)->(∀b,b∈q::as->Own ρ σ b\/H b=none)->Q (.ref q) H'):uB n ti g (DP K (oR c none)) (vK K el) σ H Q:=by
 refine aE _ λJ F1 Y w Da DK=>?_;have aI:e.length=σ.length:=w.gs.len;have gm:=w.gs.more (n:=n) (τ:=b_ n none) (by simp);have fD:F1 Da=none:=by cases q:F1 Da with|none=>rfl|some o=>rw[w.gs.sub Da o q]at DK;cases DK
 have nO:¬ Own (e++b_ n .aQ) (σ++b_ n none) Da:=λ⟨i,⟨t,dt,q1,q2⟩,q3⟩=>by obtain⟨a,ys,z1,z2,_⟩:=gm.own i t dt q1 q2;rw[q3]at z1;cases z1;rw[DK]at z2;cases z2
 refine⟨λi mm ys j N=>∃O u B as,aB K F1 (e++b_ n .aQ) (σ++b_ n none) Y O u j N/\j.take m=σ/\ys=as.map V.ref/\N Da=some (.lst ys)/\O Da=none/\¬ Own u j Da/\(Da::as).Nodup/\as.length=B.length/\(∀(k:Nat)(a:bd)(f:List D),as[k]?=some a->B[k]?=some f->Wt K O u j N a f/\(Own (e++b_ n .aQ) (σ++b_ n none) a\/Y a=none))/\B.length<=i/\mm=f.length-i/\i<=f.length/\fO is one el (f.drop i) B u=.ok rows l,⟨_,F1,_,[],[],(aB.refl gm).IW DK fD nO,by rw[md (by omega),hX (by omega)],rfl,aP,fD,nO,by simp,rfl,λk a f h=>by simp at h,vU,rfl,vU,e2⟩,?_⟩;rintro i mm ys j N⟨O,u,B,as,si,ap,ac,hD,hF,hO,ae,C,I,bp,rfl,bq,G⟩;refine⟨hD,?_⟩;have stay:∀{F2 H2:Hp}{af:List Sl}{L:L2.St},aB K O u j N F2 af L H2->H2 Da=some (.lst ys)/\F2 Da=none/\¬ Own af L Da:=λ{F2 H2 af L}s=>by have:=(Rp.stp (xs:=ys) ⟨⟨hD,hO⟩,hF⟩ s);exact⟨this.kp.1,this.fr,this.kp.2⟩
 obtain⟨s1,s2⟩:=w.src n i O u j N si;by_cases ag:i<f.length
 . right;have hd:f[i]?=some f[i]:=by simp[ag]
   obtain⟨go,step⟩:=s1 _ hd;refine⟨go,λx H2 y=>?_⟩;obtain⟨F2,ext,rx⟩:=step x H2 y;have t2:=ext.stp si.gs;rw[ib ag,fO]at G;cases hbd:cT u is one f[i]with|none=>rw[hbd]at G;cases G|some X=>rw[hbd]at G;obtain⟨re,ah,ee,G⟩:=aj G;cases re with|val _=>cases G|own ai=>
     replace G:fO is one el (f.drop (i+1)) (B++[ai]) ah=.ok rows l:=G;refine ay x _ F2 u X j H2 _ t2.gs rx hbd λL sb aS=>?_;have t3:=t2.trans sb;refine⟨F2,X,true,X,t3.gs,by rw[oR],λF4 H4 s4=>?_⟩;have t4:=t3.trans s4;refine(show vK K el L H4 _ from⟨F4,X,.own ai,ah,t4.gs,ee,λv F5 H5 s5 rr=>?_⟩);have t6:=t4.trans s5;obtain⟨y1,y2,y3⟩:=stay t6;obtain⟨z1,z2,z3⟩:=stay t4;have al:ys.length<sizeLine:=by have U:lim=sizeLine:=rfl;rw[ac,dy];omega
     obtain⟨A,xs,rfl,a1,a2,a3,a4,a5⟩:=rr;have ar:A≠Da:=by
      rintro rfl;rcases a5 with z|z;.exact z3 z
      .rw[z1]at z;cases z
     have nA:A∉as:=λhA=>by
      obtain⟨M,E⟩:=iy hA;have am:M<B.length:=by rw[<-C];exact(dJ E).1
      obtain⟨⟨zs,Z,_⟩,_⟩:=(I M A B[M] E (by simp[am])).1.stp t4;rcases a5 with z|z;.exact Z.2 z
      .rw[Z.1]at z;cases z
     have fA:Own (e++b_ n .aQ) (σ++b_ n none) A\/Y A=none:=by
      have t:=si.trans t4;rcases a5 with z|z;.exact t.wg A z
      .exact t.since z
     refine⟨y1,al,_,by omega,F5,ah,B++[ai],as++[A],(si.trans t6).IW DK y2 y3,aS.trans ap,by rw[ac];simp,aP,y2,y3,?_,by simp[C],λM a0 aT h1 U=>?_,by simp;omega,rfl,ag,G⟩
     . rw[<-gT,kM];refine⟨ae,by simp,λp hp r hr=>?_⟩;simp at hr;subst hr;rcases de.mp hp with rfl|hp;.exact λz=>ar z.symm
       .rintro rfl;exact nA hp
     . by_cases E:M<as.length
       . rw[cK E]at h1;rw[cK (by omega)]at U;obtain⟨w0,f0⟩:=I M a0 aT h1 U;obtain⟨⟨zs,Z,r1⟩,g1⟩:=w0.stp t6;have na:a0≠Da:=by rintro rfl;exact(eK.mp ae).1 (da h1)
         exact⟨⟨⟨zs,⟨by rw[aC na];exact Z.1,Z.2⟩,r1⟩,g1⟩,f0⟩
       . rw[er (by omega)]at h1;rw[er (by omega)]at U;have:M-as.length=0:=by have:=(dJ h1).1;simp at this;exact this
         rw[this]at h1;rw[<-C,this]at U;cases h1;cases U;exact⟨⟨⟨xs,⟨by rw[aC ar];exact a1,a4⟩,a3⟩,a2⟩,fA⟩
 . left;have a9:f.drop i=[]:=by rw[kR];omega
   rw[a9,fO]at G;cases G;refine⟨s2 (by omega),?_⟩;have hst:j.take e.length=σ:=by rw[aI,hm];exact ap
   obtain⟨l1,l2⟩:=aB.less (m:=e.length) rfl w.gs (by simp) si;rw[hst]at l1;obtain⟨z1,z2⟩:=w.fin _ _ _ _ l1--the outer list:with nothing in it,it is like any new one
   have bi:=si.IW (o:=.lst []) DK hF hO;obtain⟨aw,Xq⟩:=aB.less (m:=e.length) rfl w.gs (by simp) bi;rw[hst]at aw;obtain⟨br,bm⟩:=w.fin _ _ _ _ aw;have rr:cW K O l j (upd N Da (.lst [])) (e++b_ n .aQ) (σ++b_ n none) Y (.ref Da) (.own []):=⟨Da,[],rfl,aP,hF,.nil,hO,.inr DK⟩;have QT:=Xq _ _ rr;rw[hst]at QT;obtain⟨_,_,q0,_,q3,_,q5,q6⟩:=bm _ _ QT;cases q0;have ax:∀(k:Nat)(a:bd)(f:List D),as[k]?=some a->rows[k]?=some f->Wt K O (ul (l.take e.length)) σ N a f/\(Own ρ σ a\/H a=none):=λk a f h1 U=>by obtain⟨⟨⟨xs,Z,r1⟩,f1⟩,f2⟩:=I k a f h1 U;have rr:cW K O l j N (e++b_ n .aQ) (σ++b_ n none) Y (.ref a) (.own f):=⟨a,xs,rfl,Z.1,f1,r1,Z.2,f2⟩;have QT:=l2 _ _ rr;rw[hst]at QT;obtain⟨a',bn,q0,q2,q3,q4,q5,q6⟩:=z2 _ _ QT;cases q0;exact⟨⟨⟨bn,⟨q2,q5⟩,q4⟩,q3⟩,q6⟩
   refine k Da as O N z1 ⟨⟨by rw[hD,ac],q5⟩,q3⟩ ae C (λk a f h1 U=>(ax k a f h1 U).1) λb hb=>?_;rcases de.mp hb with rfl|hb;.exact q6
   . obtain⟨M,E⟩:=iy hb;have am:M<rows.length:=by rw[<-C];exact(dJ E).1
     exact(ax M b rows[M] E (by simp[am])).2
section
variable{X:Cx}{c:Call}{nn n:Nat}{tg iter elt:dr}{ps pe:P}{pos:Pos}{sts:List eJ}{ss:List S}{scope:jp}{N':List Str}
theorem Ou{i:Nat}{x:Str}{b f:Pos}{g:TG}{is:List Nat}{one:Bool}(hc:X.calm=true)(A:X.N.Nodup)(m:X.N[i]?=some x)(B:Loc X.env.scope x)(ok:eY X scope N' n)(hi:SI X c tg iter ps)(E:∀cl C s₀ H₀ ex,PG (oW X scope N' cl C s₀ H₀ ex) tg g)(r:lq X.K X.N.length is one g)(ht:∀cl C s₀ H₀ ex,SQ (oW X scope N' cl C s₀ H₀ ex) c [] none)(he:∀cl C s₀ H₀ ex,SX (oW X scope N' cl C s₀ H₀ ex) c elt pe)(G:SBT X c nn i sts ss)(t:fx (.ListComp elt [⟨tg,iter,[],0⟩] scope pos) (some (.Name x b)) f.line X.env=eT true:=by rfl)(hs:∀x,eS iter X.env x=eT x:=by intro _;rfl)(J:X.fn x=true\/X.env.scope.names.lookup x=some .local:=by first|exact .inl rfl|exact .inr rfl|assumption):SB X c nn (.Assign [.Name x b] (.ListComp elt [⟨tg,iter,[],0⟩] scope pos) f::sts) (.Kl i ps n is one pe::ss):=by
 have h0:=vG (tt:=DP X.K (oR c none)) (te:=vK X.K (HH.ev c pe)) hc A m B ok hi E ht (λcl C s₀ H₀ ex=>(he cl C s₀ H₀ ex).ev) t hs J;refine λj s σ H D I q=>mF h0 G.p j s σ H D I ?_;have L:σ.length=X.N.length:=I.len;obtain⟨F,ρ,fl,u,M,e,O⟩:=q;rw[RN]at e;obtain⟨f1,Q,a,e⟩:=aj e;rw[HH.X21]at a;obtain⟨U,w,W,a⟩:=aj a;split at a;.rename_i k;obtain⟨rows,Y,Z,a⟩:=aj a;obtain⟨ac,z,l,a⟩:=aj a;cases a;have zz:=aD l;clear l;obtain⟨l,_⟩:=zz;obtain⟨s1,h1,h2,rfl⟩:=uY l;refine(show uB n (tIt X.K (isVar ps) (HH.ev c ps)) g (DP X.K (oR c none)) (vK X.K (HH.ev c pe)) σ H (λv H1=>jH i v σ H1 (YF X.K i (iB c nn ss) D))from Jb (c:=c) (ul:=aY ρ (isVar ps)) L r (λR h=>⟨F,ρ,U,w,M,W,h⟩) k Z λq as F' H' s wq nd len row fr=>?_);exact⟨F,ρ,σ,H,F',_,q,as,rows,fl,u,NB.mk' s h1 h2 wq nd len row fr,e,λF2 y H2 s2=>O F2 y H2 s2⟩
 .cases a
end
end HH
end
section
namespace HH
open PySem L2 PySem.Spec PyProof.Rows PySem.Calls PySem.W
variable{i:Nat}{x:Str}
section
variable{K:PySem.W.Frag}{F F1 H H1:Hp}{ρ ρ1 ρ2:List Sl}{σ σ1:L2.St}
theorem GS.afC{x:Nat}{kvs f:List (Int×D)}{a:bd}{w:HO}(g:GS K F ρ σ H)(e:ρ[x]?=some (.cQ kvs))(p:σ[x]?=some (some (.ref a)))(r:kZ K F w (.v f)):aB K F ρ σ H F (ρ.set x (.cQ f)) σ (upd H a w):=by
 have hi:x<ρ.length:=(dJ e).1;have y:bf ρ σ x a:=⟨⟨_,_,e,rfl⟩,p⟩;obtain⟨L,M,h1,N,z,O⟩:=g.own x _ _ e rfl;rw[p]at h1;cases h1;have h:∀{j:Nat}{c:bd},bf (ρ.set x (.cQ f)) σ j c->bf ρ σ j c:=λ{j c}⟨⟨t,dt,m,s⟩,q3⟩=>by
  by_cases b:j=x;.subst b;exact⟨⟨_,_,e,rfl⟩,q3⟩
  .rw[fG b]at m;exact⟨⟨t,dt,m,s⟩,q3⟩
 refine⟨⟨λc o q=>?_,by simp[g.len],λj B d q=>?_,λj t dt q u=>?_,λj k c m s=>g.dis j k c (h m) (h s)⟩,.refl _,λc n C=>absurd n C,λc o q n=>?_,λc⟨j,q⟩=>.inl ⟨j,h q⟩,by simp,λj t q l=>⟨rfl,?_⟩⟩
 . have:c≠a:=by rintro rfl;rw[z]at q;cases q
   rw[aC this];exact g.sub c o q
 . by_cases b:j=x;.subst b;rw[bx hi]at q;cases q
   .rw[fG b]at q;exact g.val j B d q
 . by_cases b:j=x;.subst b;rw[bx hi]at q;cases q;cases u;exact⟨a,_,p,aP,z,r⟩
   . rw[fG b]at q;obtain⟨c,E,A,G,I,J⟩:=g.own j t dt q u;have:c≠a:=by rintro rfl;exact b (g.dis j x c ⟨⟨t,dt,q,u⟩,A⟩ y)
     exact⟨c,E,A,by rw[aC this];exact G,I,J⟩
 . have:c≠a:=by rintro rfl;exact n ⟨x,y⟩
   rw[aC this];exact q
 . by_cases b:j=x;.subst b;rw[e]at q;cases q;cases l
   .exact⟨t,by rw[fG b];exact q,.refl t⟩
theorem GS.newV{kvs:List (Int×D)}{a:bd}{A:HO}{s0:Sl}(g:GS K F ρ σ H)(e:ρ[i]?=some s0)(y:tL s0=false)(r:kZ K F A (.v kvs))(s:H a=none):aB K F ρ σ H F (ρ.set i (.cQ kvs)) (σ.set i (some (.ref a))) (upd H a A):=by
 have hi:i<ρ.length:=(dJ e).1;have u:i<σ.length:=by rw[<-g.len];exact hi
 have B:F a=none:=by cases q:F a with|none=>rfl|some o=>rw[g.sub a o q]at s;cases s
 have f:∀{j:Nat}{c:bd},j≠i->bf (ρ.set i (.cQ kvs)) (σ.set i (some (.ref a))) j c->bf ρ σ j c:=λ{j c}b⟨⟨t,ds,e1,e2⟩,e3⟩=>by rw[fG b]at e1 e3;exact⟨⟨t,ds,e1,e2⟩,e3⟩
 have h:∀{c:bd},bf (ρ.set i (.cQ kvs)) (σ.set i (some (.ref a))) i c->c=a:=λ{c}⟨_,e3⟩=>by rw[bx u]at e3;cases e3;rfl
 have no:∀{j:Nat},¬ bf ρ σ j a:=λ{j}⟨⟨t,ds,e1,e2⟩,e3⟩=>by obtain⟨c,o,m,p,_⟩:=g.own j t ds e1 e2;rw[e3]at m;cases m;rw[s]at p;cases p
 refine⟨⟨λc o q=>?_,by simp[g.len],λj E d q=>?_,λj t dt q C=>?_,λj k c m p=>?_⟩,.refl _,λc n G=>absurd n G,λc o q n=>?_,λc⟨j,q⟩=>?_,by simp,λj t q l=>?_⟩
 . have:c≠a:=by rintro rfl;rw[B]at q;cases q
   rw[aC this];exact g.sub c o q
 . by_cases b:j=i;.subst b;rw[bx hi]at q;cases q
   .rw[fG b]at q ⊢;exact g.val j E d q
 . by_cases b:j=i;.subst b;rw[bx hi]at q;cases q;cases C;exact⟨a,_,bx u,aP,B,r⟩
   . rw[fG b]at q ⊢;obtain⟨c,o,I,z,J,L⟩:=g.own j t dt q C;have:c≠a:=by rintro rfl;rw[s]at z;cases z
     exact⟨c,o,I,by rw[aC this];exact z,J,L⟩
 . by_cases b:j=i
   . by_cases w:k=i;.rw[b,w]
     .subst b;rw[h m]at p;exact absurd (f w p) no
   . by_cases w:k=i;.subst w;rw[h p]at m;exact absurd (f b m) no
     .exact g.dis j k c (f b m) (f w p)
 . have:c≠a:=by rintro rfl;rw[s]at q;cases q
   rw[aC this];exact q
 . by_cases b:j=i;.subst b;rw[h q];exact .inr s
   .exact .inl ⟨j,f b q⟩
 . have b:j≠i:=by rintro rfl;rw[e]at q;cases q;rw[y]at l;cases l
   exact⟨by rw[fG b],t,by rw[fG b];exact q,.refl t⟩
end
section
variable{X:Cx}{c:Call}{n:Nat}{a b e:dr}{pa pb p:P}{pos:Pos}
theorem Dq{f p2:Pos}(m:X.N.Nodup)(hi:X.N[i]?=some x)(o:Loc X.env.scope x)(hs:fx (.Dict [] [] p2) (some (.Name x f)) pos.line X.env=eT false:=by rfl)(r:X.fn x=true\/X.env.scope.names.lookup x=some .local:=by first|exact .inl rfl|exact .inr rfl|assumption):SS X c n (.Assign [.Name x f] (.Dict [] [] p2) pos) (.Gi i):=by
 refine dB (vI m hi o yc hs r) ?_;rintro D σ H⟨F,ρ,fl,h,g,e,k⟩;rw[HH.X25]at e;have go:∀s0,ρ[i]?=some s0->tL s0=false->fl=.next->h=ρ.set i (.cQ [])->∀a,H a=none->D.nx (σ.set i (some (.ref a))) (upd H a (.dK [])):=λs0 q s j l a t=>by subst j l;exact k F _ _ (g.newV (kvs:=[]) q s (KR.oc .nil) t)
 split at e;.rename_i q;cases e;exact go _ q rfl rfl rfl
 .rename_i q;cases e;exact go _ q rfl rfl rfl
 .rename_i q;cases e;exact go _ q rfl rfl rfl
 .cases e
theorem pI{w f:Pos}{pk:P}(hu:X.A.units+8<fT)(C:X.N[i]?=some x)(E:v9 X.env.scope x)(G:SX X c a pk)(he:SX X c e p)(hs:fx e (some (.Subscript (.Name x w) a f)) pos.line X.env=eT false:=by rfl)(hd:(x==("__debug__":Str))=false:=by decide)(m:(x==("__classdict__":Str))=false:=by decide):SS X c n (.Assign [.Subscript (.Name x w) a f] e pos) (.fZ i pk p):=by
 obtain⟨ta,h1,I⟩:=G.cP;refine dB (BZ (by omega) (fC C E hd m) h1 he.ev hs) ?_;rintro D σ H⟨F,ρ,fl,J,g,e,k⟩;rw[HH.X27]at e;obtain⟨r,o,L,l⟩:=aj e;clear e;refine⟨F,ρ,r,o,g,L,λv F1 H1 s1 M=>?_⟩;obtain⟨F2,s2,_,O⟩:=s1.dz M;split at l
 . rename_i Q U;obtain⟨kd,W,Y,h⟩:=aj l;clear l;obtain⟨s,o0,t,w2,w3,w4⟩:=s2.gs.own i _ _ U rfl;refine⟨.ref s,t,I s2.gs Y λy Z H3 s3 py=>?_⟩;split at h
   . rename_i kvs j q;split at h;.rename_i hl;cases h;obtain⟨a1,o1,z,y2,y3,y4⟩:=s3.gs.own i _ _ q rfl;rw[t]at z;cases z;obtain⟨es,rfl,B⟩:=KR.SN y4;have u:=B.put (k:=j) (O.mono s3.bQ);refine⟨s,upd H3 s (.dK (putK es (dL j:Key) v)),rfl,?_,k Z σ _ ((s2.trans s3).trans (s3.gs.afC q t u.oc))⟩;rw[py.int];exact .inl ⟨es,dL j,y2,rfl,by rw[B.len,fe];exact hl,rfl⟩
     .cases h
   .cases h
 .cases l
theorem zR{y:Pos}{pk:P}(hu:X.A.units+8<fT)(z:X.N[i]?=some x)(B:v9 X.env.scope x)(C:SX X c a pk)(hs:Lr a)(hd:(x==("__debug__":Str))=false:=by decide)(l:(x==("__classdict__":Str))=false:=by decide):SX X c (.Subscript (.Name x y) a pos) (.QM i pk):=by
 obtain⟨ta,h1,E⟩:=C.cP;refine⟨dR (K6 (by omega) (fC z B hd l) h1 hs) ?_,λi h=>by cases h⟩;rintro σ H Q⟨F,ρ,r,G,g,e,k⟩;rw[HH.E26]at e;split at e
 . rename_i I q;obtain⟨kd,J,L,f⟩:=aj e;clear e;obtain⟨m,o0,o,w2,w3,w4⟩:=g.own i _ _ q rfl;refine⟨.ref m,o,E g L λv F1 M s1 s=>?_⟩;split at f;.rename_i kvs O;obtain⟨t,U⟩:=aD f;clear f;subst U;obtain⟨j,W,Y⟩:=cJ t;clear t;obtain⟨d,Z,e6⟩:=map_some Y;subst e6;rw[cZ W]at s;obtain⟨a1,o1,u,y2,y3,y4⟩:=s1.gs.own i _ _ O rfl;rw[o]at u;cases u;obtain⟨es,rfl,kr⟩:=KR.SN y4;obtain⟨w,g1,g2⟩:=kr.get Z;rw[s.int];exact⟨m,w,rfl,.inl ⟨es,dL j,.inl y2,rfl,g1.symm⟩,k w F1 M s1 (show Rep X.K F1 _ _ from g2)⟩
   .cases f
 .cases e
theorem RL{G:Pos}{pk:P}{neg:Bool}{op:n_}(t:(op=.In/\neg=false)\/(op=.NotIn/\neg=true))(hu:X.A.units+8<fT)(w:X.N[i]?=some x)(z:v9 X.env.scope x)(J:SX X c a pk)(hd:(x==("__debug__":Str))=false:=by decide)(m:(x==("__classdict__":Str))=false:=by decide):PC X op a (.Name x G) (vK X.K (HH.ev c (.QQ i pk neg))):=by
 obtain⟨L,h1,M⟩:=J.cP;have l:∀{σ:L2.St}{H:Hp}{Q:VK},vK X.K (HH.ev c (.QQ i pk neg)) σ H Q->L σ H λy u=>Q4 i σ u λx B=>∃a o,x=.ref a/\nR B a y o/\Q (.bl (if neg then !o.isSome else o.isSome)) B:=λ{σ H Q}⟨F,ρ,r,ρ',g,e,k⟩=>by
  rw[HH.E27]at e;obtain⟨kd,O,U,q⟩:=aj e;clear e;refine M g U λv F1 u s1 C=>?_;split at q;.rename_i kvs W;obtain⟨Y,Z⟩:=aD q;clear q;subst Z;obtain⟨j,e4,e5⟩:=map_some Y;subst e5;rw[cZ e4]at C;obtain⟨E,o1,y1,y2,y3,y4⟩:=s1.gs.own i _ _ W rfl;obtain⟨es,rfl,kr⟩:=KR.SN y4;rw[C.int];refine⟨.ref E,y1,E,_,rfl,.inl ⟨es,dL j,.inl y2,rfl,rfl⟩,?_⟩;rw[kr.has j];exact k _ F1 u s1 (show Rep X.K F1 _ _ from fU _)
  .cases q
 rcases t with⟨rfl,rfl⟩|⟨rfl,rfl⟩;.exact λf s σ H Q I h=>TV (by omega) h1 (fC w z hd m) f s σ H Q I (l h)
 .exact λf s σ H Q I h=>Ez (by omega) h1 (fC w z hd m) f s σ H Q I (l h)
end
theorem oM{P:df}{w:ek}:∀{ks:List Int}{es:List (Key×V)}{vs:List (Key×aX)}{a:List aX},es.map (·.1)=ks.map (dL:Int->Key)->KV es vs->a.length=vs.length->(∀(j:Nat)(v:aX),a[j]?=some v->∃(k:Key)(x:aX),vs[j]?=some (k,x)/\(bj P w).is k v=true)->gI a ks
 |[],es,_,a,he,r,h,_=>by cases es with
   |nil=>cases r;cases a with|nil=>exact .nil|cons _ _=>simp at h
   |cons _ _=>simp at he
 |i::ks,es,_,a,he,r,h,k=>by cases es with|nil=>simp at he|cons p es=>cases r with|@cons _ q _ _ r t=>rw[c_,c_]at he;cases a with|nil=>simp at h|cons v a=>
         obtain⟨f,x,c,g⟩:=k 0 v rfl;simp at c;have l:f=dL i:=by have z:=r.1;rw[c]at z;rw[<-(List.cons.inj he).1];exact z.symm
         subst l;obtain⟨n,m,b,rfl⟩|⟨_,_,b,_⟩:=bK (show oH (dL i) v=true from g);.cases b;exact .cons _ m (oM (List.cons.inj he).2 t (by simpa using h) λj v e=>k (j+1) v (by simpa using e))
         .cases b
section
variable{X:Cx}{c:Call}{n:Nat}{a b e:dr}{pa pb p:P}{pos:Pos}
theorem Y6(hc:X.calm=true):dN X (.type "list") (Mp X.K λx=>blt .Xo [x]):=by rintro t s σ H xs us Q I r⟨x,A,F,d,B,sm,C,he,k⟩;cases d with|dv ks ds=>
   obtain⟨E,he⟩:=bC (show(if ks.length<=16777216 then some (R.own (ks.map D.int))else none)=some B from he);subst he;obtain⟨q,G,g,rfl,J,L,M⟩:=C.dv sm;subst A;obtain⟨u,rfl,N⟩:=r.one;cases N;obtain⟨ho,hz,O,vs,y,l⟩:=(show bJ X.prog X.w H s.heap q (.dz G (.dK (ent ks g)))from I.hok q _ J);obtain⟨ep,l⟩:=l.dictAt;have z:=qg (ks:=ks) (vs:=g) (by rw[L.length];exact M);have m:vs.length=ks.length:=by rw[<-Paired.length y];have:=congrArg kF z;simpa using this
   refine kdl_call (kdl_dict (knd:=bj X.prog X.w) (kvs:=vs) (ep:=ep) O) (I.ok.hd hc) l (by rw[m,fe];omega) λh' U h W kp Y f=>?_;have Z:gI h.toList ks:=oM (P:=X.prog) (w:=X.w) z y (by rw[i_];exact f.1) λj v e=>f.2 j v (by rw[<-Array.getElem?_toList];exact e);refine⟨.ref s.heap.objs.size,_,I.laid (t':=U) (o:=.lst (ks.map V.int)) (h':=h') kp (dw) ⟨by rw[dy,fe];omega,h.toList,W,lZ Z,by rw[Array.toArray_toList];exact Y⟩,rfl,?_⟩;exact zP sm (uA ks) (I.hok.fresh (dw)) k|_=>cases he
theorem Ip{f:Pos}(g:x="list")(hc:X.calm=true)(j:Gl X x)(k:X.mg x=none)(l:SX X c a pa)(hs:cv [a] X.env=(false,eu a X.env)::cv [] X.env:=by rfl):SX X c (.Call (.Name x f) [a] [] pos) (.blt .Xo [pa]):=by subst g;exact oV (λh=>nT (Y6 hc) j k (by decide+kernel) h (he:=hs)) l (λρ=>rfl) rfl hs
theorem NZ{neg:Bool}{op:n_}(f:(op=.In/\neg=false)\/(op=.NotIn/\neg=true))(L:X.A.units+8<fT):fX X (eg op) (rD X.K (yf neg)):=by rintro m s σ H x y v u Q I h t⟨F,d,e,r,sm,w,z,he,k⟩;cases d with
 |int j=>cases e with|dv ks M=>
     cases he;obtain⟨q,B,vs,rfl,C,E,G⟩:=z.dv sm;have J:=KR.zip E G;rw[w.int]at h;obtain rfl:u=dY q:=t;have g:nR H q (.int j) (jm (ent ks vs) (dL j:Key)):=.inl ⟨_,dL j,.inr ⟨B,C⟩,rfl,rfl⟩;have o:(jm (ent ks vs) (dL j:Key)).isSome=ks.contains j:=by rw[J.has j];congr 1;rw[List.map_fst_zip (by omega)]
     rcases f with⟨rfl,rfl⟩|⟨rfl,rfl⟩;.refine YQ (by omega) I g h λs3 l=>⟨.bl (jm (ent ks vs) (dL j:Key)).isSome,H,l,rfl,?_⟩;rw[o];exact cF.dm sm (fU _) k
     .refine BX (by omega) I g h λs3 l=>⟨.bl (!(jm (ent ks vs) (dL j:Key)).isSome),H,l,rfl,?_⟩;rw[o];exact cF.dm sm (fU _) k|_=>cases he
 |_=>cases he
end
end HH
end
section
namespace PySem
section
variable{prog:df}{w:ek}{A:ez}{E:aX->a_->Prop}{s:a_}
theorem vJ{Q:List aX->a_->Prop}{I l:bd}{items:Array aX}(u:A.handled=none)(f:s.heap.IsRevIter I l ((items.size:Int)-1))(p:s.heap.IsList l items)(k:l≠I)(g:items.size<=2^24)(x:∀h' m c,(∀b o,b≠I->s.heap.get? b=some o->h'.get? b=some o)->s.heap.objs.size<h'.objs.size->ItemsOf (λi v=>items[items.size-1-i]?=some v) c items.size->Q c.toList {s with heap:=h',toks:=m}):
 cy (cS prog w) A (collect (.ref I)) Q E s:=by have h:I<s.heap.objs.size:=let⟨_,ho,_⟩:=f;dl ho;have n:l<s.heap.objs.size:=let⟨_,ho,_⟩:=p;dl ho;unfold collect;refine av (wpAny_runValue (kS F.entry_proto_collect ?_));rw[iX F.plain_proto_collect _];show cy _ A.in1 (newList []>>=λl=>again (.builtin "list.__iadd__" ⟨[l,.ref I],[]⟩)) _ _ s;refine av (ew ?_);refine cr ⟨lT F.plain_list_iadd _,kS F.entry_list_iadd ?_⟩;rw[iX F.plain_list_iadd _];show cy _ A.in1 (k6 (.ref s.heap.objs.size) (.ref I) (.ref s.heap.objs.size)) _ _ _;refine mG (A:=A) (R:=λr q=>match r with
  |.ok (.ret v)=>cy (cS prog w) A (match v with
   |.ref a=>do let o<-load a match o.data with|.seq xs _=>eT xs.toList|_=>mN "internal:collect"
   |_=>mN "internal:collect") Q E q|.ok _=>False|.error e=>E e q) (s:={s with heap:=s.heap.push {cls:=.type "list",data:=.seq #[]}}) u (f.at λo e=>dM e) (p.at λo e=>dM e) k g s.heap.objs.size (gu (dS h)) (gu (dS n)) _ 0 (cw _ rfl) λh' m c B y t j=>?_;refine av (wpAny_load t ?_);exact cr (x h' m c (λb o z e=>y b o (dS (dl e)) z (dM e)) (dl t) j)
end
theorem jL(I l:bd)(items:Array aX)(i:l≠I)(hsz:items.size<=2^24):mw (im.«tuple.__new__» ⟨[.type "tuple",.ref I],[]⟩) (λA R s=>A.handled=none/\s.heap.IsRevIter I l ((items.size:Int)-1)/\s.heap.IsList l items/\∀(h':eA)(p:Nat),(∀b o,b≠I->s.heap.get? b=some o->h'.get? b=some o)->s.heap.objs.size<h'.objs.size->∀a:Array aX,a=items.reverse->R (.ok (.ret (.ref h'.objs.size))) {s with heap:=h'.push {cls:=.type "tuple",data:=.seq a},toks:=p}):=.of_wp λprog w A R s h=>by
  obtain⟨r,f,t,h⟩:=h;have q:=sub_tuple_self;have k:=init_tuple_lookup;have u:=madeHere_tuple;have x:Shared.TypeIs s (.ref I) "list_reverseiterator":=f.typeIs;obtain⟨o,ho,hc,hd⟩:=id f;obtain⟨C,g,d,p,os⟩:=s;wp_walk using AutoSeq1.wpAny_loadPart' ho,kL x,vJ (A:=A.in1) r f t i hsz;intro h' m a y n c;show cy _ _ (i6 a.toList.toArray>>=λv=>ret v) _ _ _;have e:a.toList.toArray=a:=by simp
  have z:a=items.reverse:=by refine Array.ext (by rw[c.1,Array.size_reverse]) λj h1 E=>?_;have:=c.2 j _ (Array.getElem?_eq_getElem h1);rw[Array.getElem_reverse];have B:=Array.getElem?_eq_some_iff.mp this;exact B.2.symm
  rw[e];unfold i6;refine av (ew ?_ (by show a.size<=sizeLine;rw[c.1,fe];omega));exact cr ⟨_,rfl,h h' m y n a z⟩
section
variable{prog:df}{w:ek}{A:ez}{E:aX->a_->Prop}{s:a_}
theorem pF{I l:bd}{items:Array aX}{Q:aX->a_->Prop}(i:A.handled=none)(a:s.heap.IsRevIter I l ((items.size:Int)-1))(j:s.heap.IsList l items)(c:l≠I)(hsz:items.size<=2^24)(h:∀(h':eA)(f:Nat),(∀b o,b≠I->s.heap.get? b=some o->h'.get? b=some o)->s.heap.objs.size<h'.objs.size->Q (.ref h'.objs.size) {s with heap:=h'.push {cls:=.type "tuple",data:=.seq items.reverse},toks:=f}):cy (cS prog w) A (call (.type "tuple") [.ref I]) Q E s:=jV F.called_tuple (by decide) (F.typeCall_tuple_1 _) (F.newCall_tuple_1 _) (λobj=>F.args_object_init_2 obj _) F.entry_tuple_new (jL I l items c hsz) ⟨i,a,j,λh' f k g m e=>by subst e;exact⟨⟨_,cw _ rfl,rfl⟩,h h' f k g⟩⟩
end
end PySem
namespace L2
open PySem PySem.Spec PyProof.Rows
section
variable{X:Cx}{pins:List (bd×Obj)}{σ:St}{H:Hp}{s:a_}{E:aX->a_->Prop}
theorem Ac{a:dr}{B:TE}{p pos p2 g:Pos}(hc:X.calm=true)(n:Gl X "tuple")(t:X.mg "tuple"=none)(J:Gl X "reversed")(L:X.mg "reversed"=none)(M:PE X a B)(hs:cv [a] X.env=[(false,eu a X.env)]:=by rfl)(i:cv [.Call (.Name "reversed" p) [a] [] pos] X.env=[(false,eu (.Call (.Name "reversed" p) [a] [] pos) X.env)]:=by rfl):PE X (.Call (.Name "tuple" p2) [.Call (.Name "reversed" p) [a] [] pos] [] g) (λσ H Q=>B σ H λx f=>∃ad xs,x=.ref ad/\eO X.K f ad xs/\∀l,f l=none->Q (.ref l) (upd f l (.tup xs.reverse))):=by
 intro pins s σ H Q I h;refine Call_ (iT I n t wM (eH ?_ i rfl));rw[i];show cy _ _ (spliced ((false,eu (.Call (.Name "reversed" p) [a] [] pos) X.env)::[])) _ _ _;refine jx (Call_ (iT I J L rF (eH (bY ((bF M dD hs) pos pins s σ H (λvs f=>match vs with|[x]=>∃ad xs,x=.ref ad/\eO X.K f ad xs/\∀l,f l=none->Q (.ref l) (upd f l (.tup xs.reverse))|_=>False) I h) ?_) hs rfl)));rintro Z s1⟨vs,f,m,r1,v⟩;obtain⟨ad,xs,N,q,w⟩:∃ad xs,eO X.K f ad xs/\(∀l,f l=none->Q (.ref l) (upd f l (.tup xs.reverse)))/\vs=[.ref ad]:=by cases vs with|nil=>cases v|cons x r=>cases r with|nil=>obtain⟨ad,xs,rfl,q,O⟩:=v;exact⟨ad,xs,q,O,rfl⟩|cons _ _=>cases v
 subst w;obtain⟨u,rfl,U⟩:=r1.one;cases U;obtain⟨c,C,y,hz⟩:=m.list N;have hsz:c.toArray.size=xs.length:=by rw[cx,<-C.length]
 refine call_reversed_list y.isList (lj ?_);have z:ad≠s1.heap.objs.size:=dS (let⟨_,ho,_⟩:=y.isList;dl ho);have A:(s1.heap.push (revObj ad ((c.toArray.size:Int)-1))).IsList ad c.toArray:=y.isList.at λo e=>dM e;refine pF (m.ok.hd hc) (I:=s1.heap.objs.size) (l:=ad) (items:=c.toArray) ⟨_,cw _ rfl,rfl,rfl⟩ A z (by rw[hsz];exact h_ hz (by decide)) λh' W G j=>?_;have k:(s1.heap.push (revObj ad ((c.toArray.size:Int)-1))).objs.size=s1.heap.objs.size+1:=ei ..;dsimp only at G j ⊢;rw[k]at j;have Y:c.toArray.reverse=c.reverse.toArray:=by simp
 rw[Y];refine⟨.ref h'.objs.size,_,m.laid (t':=W) (o:=.tup xs.reverse) (h':=h'.push {cls:=.type "tuple",data:=.seq c.reverse.toArray}) (λb o e=>dM (G b o (dS (dl e)) (dM e))) (by omega) ?_,rfl,q _ (m.hok.fresh (by omega))⟩;exact⟨by rw[List.length_reverse];exact hz,_,C.reverse,kG _ _⟩
end
end L2
namespace HH
open PySem L2 PySem.Spec PyProof.Rows
section
variable{X:Cx}{c:Call}{a:dr}{pa:P}{pos:Pos}
theorem yR{x y:Str}{j p b:Pos}(q:y="tuple")(t:x="reversed")(hc:X.calm=true)(m:Gl X y)(n:X.mg y=none)(u:Gl X x)(w:X.mg x=none)(z:SX X c a pa)(hs:cv [a] X.env=[(false,eu a X.env)]:=by rfl)(o:cv [.Call (.Name x j) [a] [] pos] X.env=[(false,eu (.Call (.Name x j) [a] [] pos) X.env)]:=by rfl):SX X c (.Call (.Name y p) [.Call (.Name x j) [a] [] pos] [] b) (.blt .rvT [pa]):=by subst t q;obtain⟨Z,h1,A⟩:=z.cP;refine⟨dR (Ac hc m n u w h1 hs o) ?_,λi h=>by cases h⟩;rintro σ H Q⟨F,ρ,r,B,g,e,k⟩;rw[HH.E17]at e;obtain⟨d,C,E,f⟩:=aj e;have G:=aD f;clear f;obtain⟨f,I⟩:=G;subst I;cases d with|lst ds=>cases f;refine A g E ?_;rintro v F' H' s J;obtain⟨ad,xs,rfl,L,M⟩:=J.lst s.gs.sub;exact⟨ad,xs,rfl,L,λl N=>zu s.gs.sub (aH.rev M) N λv O U W Y=>k v O U (s.trans (W.stp s.gs)) (.later s (Y.pG s.gs))⟩|_=>cases f
end
end HH
end
section
namespace L2
open PySem PySem.Spec PyProof.Rows PySem.Calls
section
variable{X:Cx}
theorem Hh:Zq X (Z6 X.K):=by
 intro a s σ H x y v u Q I g k h;obtain⟨p,xs,i,z,rfl,rfl,l,he,q⟩:=h;cases g;obtain⟨t,rfl⟩:=k;obtain⟨b,r,e,hz⟩:=I.list l;obtain⟨j,h1,m,C,n,o⟩:=vg he;obtain⟨w,f,A⟩:=r.get m;have B:=r.length;have E:=qx;have fin:EP X a σ Q w s:=⟨z,H,I,A,q⟩;by_cases h0:0<=i
 . have c:i.toNat=j:=by rw[mT h0 o]at h1;exact eF h1
   exact wpAny_getItem_list e.isList h0 (by omega) (by rw[c];simpa using f) fin
 . have c:(i+(b.toArray.size:Int)).toNat=j:=by rw[mi (by omega) n]at h1;rw[cx,<-B];exact eF h1
   exact o3 e.isList (by omega) (by rw[cx]<;>omega) (by omega) (by rw[c];simpa using f) fin
end
end L2
namespace HH
open PySem L2 PySem.Spec PyProof.Rows PySem.Calls PySem.W
section
variable{X:Cx}{c:Call}{n:Nat}{a b e:dr}{pa pb p:P}{pos:Pos}
set_option maxHeartbeats 800000 in
theorem BJ{k e:Int}{t1 t2 p1 p2 p3}:SX X c (.Dict [some (.Constant (.int k) t1 p1)] [.Constant (.int e) t2 p2] p3) (.An k e):=by
 refine⟨?_,λi h=>by cases h⟩;intro f s σ H Q I h;obtain⟨F,ρ,r,x,g,m,y⟩:=h;rw[HH.E28]at m;cases m;have A:n6 [] [((dL k:Key),V.int e)]=ent [k] [.int e]:=rfl;have B:=CW (X:=X) (pos:=p3) (wO (qW (i:=k) (j:=t1) (pos:=p1)) (qW (i:=e) (j:=t2) (pos:=p2)) Df) rfl rfl (by simp) (by simp);refine bY (B f s σ H (λv C=>∃q,v=.ref q/\H q=none/\C=upd H q (Cd [k] [.int e])) I ?_) λu s1⟨v,H1,I1,r1,q,e1,hn,e2⟩=>?_;.intro q E;refine⟨aP,[(dL k,.int e)],rfl,by simp,q,rfl,E,?_⟩;rw[vA,A];rfl
 subst e1 e2;obtain⟨o,t⟩:=Inv.HY I1 (a:=q) (kvs:=ent [k] [.int e]) aP;rw[vA]at t;have G:F q=none:=by cases z:F q with|none=>rfl|some o=>rw[g.sub q o z]at hn;cases hn
 have sm:aG F (upd F q (.dz o (Cd [k] [.int e]))):=aG.cG G;refine⟨.ref q,_,t,r1,y _ (upd F q (.dz o (Cd [k] [.int e]))) _ (Ext.stp g ⟨aG.cG hn,sm,λb o e=>?_,λb n w=>?_⟩) ?_⟩
 . by_cases l:b=q;.subst l;rw[aP]at e ⊢;exact e
   .rw[aC l]at e ⊢;exact g.sub b o e
 . by_cases l:b=q;.subst l;exact kh hn
   .rw[aC l]at w;exact absurd n w
 .show Rep X.K _ _ (.dv [k] [.int e]);rw[Rep];exact⟨q,o,[.int e],rfl,aP,.cons (bO _) .nil,rfl⟩
theorem Oq{x:Str}{k:Nat}{px o:Pos}{op:lh}{sub:Bool}(ho:Qs X op (Wo λi j=>if sub then i-j else i+j))(hN:X.N[k]?=some x)(hv:v9 X.env.scope x)(hi:SX X c b pb)(he:SX X c e p)(ha:∀A iv f,augStore b A iv f=(do ki [f,A,iv] (nh A iv f);release [f,A,iv] [];eT .next):=by intros;rfl)(hd:(x==("__debug__":Str))=false:=by decide)(E:(x==("__classdict__":Str))=false:=by decide):SS X c n (.AugAssign (.Subscript (.Name x px) b o) op e pos) (.Kf k pb sub p):=by
 obtain⟨ti,G,I⟩:=hi.cP;obtain⟨te,J,L⟩:=he.cP;refine dB (Lh (fC hN hv hd E) G Hh J ho set_list ha) ?_;rintro D σ H⟨F,ρ,fl,ac,g,e,kk⟩;rw[HH.X17]at e;obtain⟨x0,ae,r,Z⟩:=aj e;clear e;obtain⟨e0,Ao⟩:=aD r;clear r;subst Ao;obtain⟨dk,M,e1,eB⟩:=aj Z;clear Z;obtain⟨l,af,h,eC⟩:=aj eB;clear eB;obtain⟨B,O⟩:=aD h;clear h;subst O;obtain⟨ra,ag,s,eD⟩:=aj eC;clear eC;obtain⟨e3,Q⟩:=aD s;clear s;subst Q;obtain⟨db,ah,e4,t⟩:=aj eD;clear eD;obtain⟨U,RN,m,_⟩:=uQ g e0;refine⟨.ref U,m,I g e1 λvi F1 H1 s1 pi=>?_⟩;split at t
 . rename_i u v bb ds kz q;split at t
   . rename_i j hj;cases t;obtain⟨C,f3,f5⟩:=cJ e3;have W:C=kz:=by cases f3;rfl
     subst W;have h:pk M k=some (.lst l):=by
      unfold zJ at B;split at B;.rename_i z;cases B;exact z
      .cases B
     obtain⟨o',y,po⟩:=s1.gs.pk h;rw[m]at y;cases y;obtain⟨ad,xs,hr,hL,rs⟩:=po.lst s1.gs.sub;cases hr;obtain⟨j0,h1,h2⟩:=Ii f5;obtain⟨w,h3,h4⟩:=rs.get h2;have Y:Jl xs C=some w:=by unfold Jl;rw[rs.length,h1];exact h3
     have hw:w=.int u:=by rw[Rep]at h4;exact h4
     subst hw;refine⟨U,xs,C,.int u,rfl,pi.int,hL,Y,L s1.gs e4 λvb F2 H2 s2 pb=>⟨u,v,rfl,pb.int,?_⟩⟩;obtain⟨ai,zs,z1,z2,z3,z4⟩:=s2.gs.lK k _ ds q rfl;rw[m]at z1;cases z1;refine⟨U,zs,C,j,rfl,pi.int,z2,by rw[z4.length];exact hj,?_⟩;exact kk F2 σ _ ((s1.trans s2).trans (s2.gs.mut q m (z4.set (bO _) j)))
   .cases t
 .cases t
end
section
variable{X:Cx}{c:Call}{n:Nat}{a b e:dr}{pa pb p:P}{pos:Pos}
theorem Nm{neg:Bool}{o:Op}{op:n_}(h:(op=.In/\neg=false)\/(op=.NotIn/\neg=true))(j:sX o=yf neg)(l:X.A.units+8<fT)(m:SX X c a pa)(y:SX X c b pb)(B:gc op b=false):ST X c (.Compare a [op] [b] pos) (.bin o pa pb):=by obtain⟨C,E,h1,G,I⟩:=m.iD y;refine wu (CQ (NZ h l) h1 G B) λσ H Q q=>oF (t:=Sv (rD X.K (yf neg)) C E) (λQ z=>?_) q;obtain⟨F,ρ,r,J,g,e,k⟩:=z;rw[HH.E4]at e;obtain⟨i,L,M,f⟩:=aj e;have N:=aD f;clear f;obtain⟨f,O⟩:=N;subst O;rw[j]at f;refine I g M λv u U H' s W Y=>⟨U,i.1,i.2,r,s.gs.sub,W,Y,f,λw Z H2 x rn=>?_⟩;exact k w Z H2 (s.trans (x.stp s.gs)) (.later s (rn.pG s.gs))
theorem U0(f:X.A.units+8<fT)(g:SX X c a pa)(h:SX X c b pb)(i:gc .In b=false):ST X c (.Compare a [.In] [b] pos) (.bin .din pa pb):=Nm (.inl ⟨rfl,rfl⟩) rfl f g h i
theorem R1{i:Nat}{x:Str}{h:Pos}{pk:P}{neg:Bool}{op:n_}(f:(op=.In/\neg=false)\/(op=.NotIn/\neg=true))(j:X.A.units+8<fT)(k:X.N[i]?=some x)(l:v9 X.env.scope x)(m:SX X c a pk)(o:gc op (.Name x h)=false)(hd:(x==("__debug__":Str))=false:=by decide)(g:(x==("__classdict__":Str))=false:=by decide):ST X c (.Compare a [op] [.Name x h] pos) (.QQ i pk neg):=wu (Q6 (RL f j k l m hd g) o) λσ H Q q=>oF (λ_ z=>z) q
end
end HH
end
section
namespace HH
open PySem L2 PySem.Spec PyProof.Rows
section
variable{X:Cx}{c:Call}{n:Nat}{pos:Pos}
noncomputable def aeV(k e:Int):TE:=λ_ H Q=>∀p,H p=none->Q (.ref p) (upd H p (.dK [(dL k,.int e)]))
theorem Vf{k e:Int}{t1 t2 p1 p2 p3}:PE X (.Dict [some (.Constant (.int k) t1 p1)] [.Constant (.int e) t2 p2] p3) (aeV k e):=by refine dR (CW (X:=X) (pos:=p3) (wO (qW (i:=k) (j:=t1) (pos:=p1)) (qW (i:=e) (j:=t2) (pos:=p2)) Df) rfl rfl (by simp) (by simp)) ?_;intro σ H Q h q a;refine⟨aP,[(dL k,.int e)],rfl,by simp,?_⟩;rw[vA];exact h q a
set_option maxHeartbeats 1000000 in
theorem Mj{i:Nat}{x:Str}{k e:Int}{t1 t2 p1 p2 p3}{b:Pos}(m:X.N.Nodup)(hi:X.N[i]?=some x)(o:Loc X.env.scope x)(hs:fx (.Dict [some (.Constant (.int k) t1 p1)] [.Constant (.int e) t2 p2] p3) (some (.Name x b)) pos.line X.env=eT false:=by rfl)(p:X.fn x=true\/X.env.scope.names.lookup x=some .local:=by first|exact .inl rfl|exact .inr rfl|assumption):SS X c n (.Assign [.Name x b] (.Dict [some (.Constant (.int k) t1 p1)] [.Constant (.int e) t2 p2] p3) pos) (.Ko i k e):=by
 have h0:=vI m hi o (Vf (X:=X) (k:=k) (e:=e) (t1:=t1) (t2:=t2) (p1:=p1) (p2:=p2) (p3:=p3)) hs p;show PS X _ _;refine dB h0 ?_;rintro D σ H⟨F,ρ,fl,h,g,f,r⟩;rw[HH.X26]at f;have go:∀s0,ρ[i]?=some s0->tL s0=false->fl=.next->h=ρ.set i (.cQ [(k,.int e)])->∀a,H a=none->D.nx (σ.set i (some (.ref a))) (upd H a (.dK [(dL k,.int e)])):=λs0 q s j l a t=>by subst j l;exact r F _ _ (g.newV (kvs:=[(k,.int e)]) q s (KR.oc (.cons (bO _) .nil)) t)
 split at f;.rename_i q;cases f;exact go _ q rfl rfl rfl
 .rename_i q;cases f;exact go _ q rfl rfl rfl
 .rename_i q;cases f;exact go _ q rfl rfl rfl
 .cases f
end
end HH
end
noncomputable section
set_option maxHeartbeats 4000000
namespace T
open PySem L2 PySem.Spec PyProof.Rows HH
local macro_rules|`(term|↑$n)=>`(P.var $n)
set_option hygiene false
set_option hygiene true
local macro_rules|`(tactic|lia)=>`(tactic|with_reducible refine aM ?_ ?_)
set_option hygiene false
set_option hygiene true
local macro_rules|`(term|‹$l›)=>`((show(($l):List Str).Nodup by decide+kernel))
theorem hc:true=true:=rfl
theorem oi{b:Type}{a:b}{p:Prop}:a=a\/p:=.inl rfl
theorem aU{X:Cx}{c:Call}{a:dr}{es:List dr}{b:P}{ps:List P}(e:SX X c a b)(hr:SG X c es ps)(h:nst a=true):SG X c (a::es) (b::ps):=Nj e hr (iQ h)
theorem cV{X:Cx}{c:Call}{a:dr}{es:List dr}{b:P}{ps:List P}(e:SX X c a b)(hr:SA X c es ps)(h:nst a=true):SA X c (a::es) (b::ps):=pP e hr (iQ h)
variable{Pg:df}{w:ek}{K:PySem.W.Frag}{mg:Str->Option aX}{base:eA}{f:bd}{fd:hJ}{k n:Nat}{c:Call}{cl:Nat->bd}
noncomputable def top(i:Nat):eJ:=PySem.Challenge.pw_hourhaul_k87_forth_judged.main.body.getD i (.Pass ⟨0,0,0,0⟩)
noncomputable abbrev s0:eJ:=top 6
noncomputable def b0:List S:=[.asg 2 (.idx (.idx ↑0 (P.con (.int 1))) (.idx ↑1 (P.con (.int 0)))),.ret (.QL (.idx ↑1 (P.con (.int 1))) (.tup [.idx ↑2 (P.con (.int 0)),.idx ↑2 (P.con (.int 1))]) (.tup [.idx ↑2 (P.con (.int 1)),.idx ↑2 (P.con (.int 0))]))]
noncomputable def f0:Fd:=⟨2,3,b0⟩
theorem sc0:aK ["net","step","way"] ["net","step"] (az s0):=(⟨rfl,rfl,rfl,by decide+kernel,rfl,by decide+kernel,by decide+kernel⟩)
include cl in
theorem d0(a:gb K "step_places" "step_places" s0 f fd):(ou Pg w K mg base Gs (k+1) f fd ["net","step"] (M5 K 2 (λargs=>enter c n f0 args))):=by
 (refine XC a sc0 rfl rfl λcdv A outer s H E hr=>?_;have nd:=(sc0).nd);refine aM ?_ ?_;. ((with_reducible refine oE (i:=2) ?_ ?_ ?_ ?_ ?_ ?_);exact nd;exact rfl;exact oi;rotate_left;rfl;exact oi;exact aq (aq (sv 0) aa) (aq (sv 1) aa))
 lia;. ((with_reducible refine S8 ?_);exact vq (iu (aq (sv 1) aa)) (cM (cV (aq (sv 2) aa) (cV (aq (sv 2) aa) aO rfl) rfl)) (cM (cV (aq (sv 2) aa) (cV (aq (sv 2) aa) aO rfl) rfl)))
 exact au
noncomputable abbrev s1:eJ:=top 7
noncomputable def b1:List S:=[.asg 2 (.idx (.idx (.idx ↑0 (P.con (.int 1))) (.idx ↑1 (P.con (.int 0)))) (P.con (.int 3))),.ret (.QL (.idx ↑1 (P.con (.int 1))) ↑2 (.neg ↑2))]
noncomputable def f1:Fd:=⟨2,3,b1⟩
theorem sc1:aK ["net","step","hours"] ["net","step"] (az s1):=(⟨rfl,rfl,rfl,by decide+kernel,rfl,by decide+kernel,by decide+kernel⟩)
include cl in
theorem d1(a:gb K "step_hours" "step_hours" s1 f fd):(ou Pg w K mg base Gs (k+1) f fd ["net","step"] (M5 K 2 (λargs=>enter c n f1 args))):=by
 (refine XC a sc1 rfl rfl λcdv A outer s H E hr=>?_;have nd:=(sc1).nd);refine aM ?_ ?_;. ((with_reducible refine oE (i:=2) ?_ ?_ ?_ ?_ ?_ ?_);exact nd;exact rfl;exact oi;rotate_left;rfl;exact oi;exact aq (aq (aq (sv 0) aa) (aq (sv 1) aa)) aa)
 lia;. ((with_reducible refine S8 ?_);exact vq (iu (aq (sv 1) aa)) (sv 2) (Af (sv 2)))
 exact au
noncomputable abbrev s2:eJ:=top 8
noncomputable def b2:List S:=[.asg 3 (.idx ↑1 (.idx ↑2 (P.con (.int 0)))),.ret (.QL (.idx ↑2 (P.con (.int 1))) (.bin .sub (.idx (.idx (.idx ↑0 (P.con (.int 1))) (.idx ↑2 (P.con (.int 0)))) (P.con (.int 2))) ↑3) ↑3)]
noncomputable def f2:Fd:=⟨3,4,b2⟩
theorem sc2:aK ["net","stream","step","loads"] ["net","stream","step"] (az s2):=(⟨rfl,rfl,rfl,by decide+kernel,rfl,by decide+kernel,by decide+kernel⟩)
include cl in
theorem d2(a:gb K "step_room" "step_room" s2 f fd):(ou Pg w K mg base Gs (k+1) f fd ["net","stream","step"] (M5 K 3 (λargs=>enter c n f2 args))):=by
 (refine XC a sc2 rfl rfl λcdv A outer s H E hr=>?_;have nd:=(sc2).nd);refine aM ?_ ?_;. ((with_reducible refine oE (i:=3) ?_ ?_ ?_ ?_ ?_ ?_);exact nd;exact rfl;exact oi;rotate_left;rfl;exact oi;exact aq (sv 1) (aq (sv 2) aa))
 lia;. ((with_reducible refine S8 ?_);exact vq (iu (aq (sv 2) aa)) (ao bV (aq (aq (aq (sv 0) aa) (aq (sv 2) aa)) aa) (sv 3)) (sv 3))
 exact au
noncomputable abbrev s3:eJ:=top 9
noncomputable def b3:List S:=[.ret (.blt .sum [.comp ↑1 1 [2] true none (.call 1 [↑0,↑2])])]
noncomputable def f3:Fd:=⟨2,2,b3⟩
theorem sc3:aK ["net","steps"] ["net","steps"] (az s3):=(⟨rfl,rfl,rfl,by decide+kernel,rfl,by decide+kernel,by decide+kernel⟩)
include cl in
theorem d3(a:gb K "steps_hours" "steps_hours" s3 f fd)(jk:mg "sum"=none)(b:(aR Pg w K mg base k c 1 ("step_hours") 2)):(ou Pg w K mg base Gs (k+1) f fd ["net","steps"] (M5 K 2 (λargs=>enter c n f3 args))):=by
 (refine XC a sc3 rfl rfl λcdv A outer s H E hr=>?_;have nd:=(sc3).nd);refine aM ?_ ?_;. ((with_reducible refine S8 ?_);exact u9 rfl hc (by rfl) jk (dF (N':=["net","steps","step"]) hc (sH rfl (by rfl)) (cO (sv 1)) (λ_ _ _ _ _=>aJ (i:=2) ‹["net","steps","step"]› rfl (cE rfl) (dA rfl)) (cu (dw)) (λ_ _ _ _ _=>bT) (λ_ _ _ _ _=>(dh b hr (aU (sv 0) (aU (sv 2) aA rfl) rfl)))))
 exact au
noncomputable abbrev s4:eJ:=top 10
noncomputable def b4:List S:=[.Kl 2 (.rY (P.con (.int 0)) (.idx ↑0 (P.con (.int 0)))) 1 [5] true (.lst []),.Gh (.rY (P.con (.int 0)) (.blt .len [.idx ↑0 (P.con (.int 1))])) [3] true [.Gh (.tup [.tup [↑3,.con (.bl true)],.tup [↑3,.con (.bl false)]]) [4] true [.ifs (.cmp .gt (.call 2 [↑0,↑1,↑4]) (P.con (.int 0))) [.Km 2 (.idx (.call 0 [↑0,↑4]) (P.con (.int 0))) ↑4] []]],.dz 2,.ret ↑2]
noncomputable def f4:Fd:=⟨2,5,b4⟩
theorem sc4:aK ["net","stream","steps","number","step"] ["net","stream"] (az s4):=(⟨rfl,rfl,rfl,by decide+kernel,rfl,by decide+kernel,by decide+kernel⟩)
include cl in
theorem d4(a:gb K "open_steps" "open_steps" s4 f fd)(aW:mg "len"=none)(aZ:mg "range"=none)(b:(aR Pg w K mg base k c 0 ("step_places") 2))(e:(aR Pg w K mg base k c 2 ("step_room") 3)):(ou Pg w K mg base Gs (k+1) f fd ["net","stream"] (M5 K 2 (λargs=>enter c n f4 args))):=by (refine XC a sc4 rfl rfl λcdv A outer s H E hr=>?_;have nd:=(sc4).nd);exact(by(refine Ou (i:=2) (N':=["net","stream","steps","number","step","place"]) (g:=jH 5) ?_ ?_ ?_ ?_ ?_ ?_ ?_ ?_ ?_ ?_ ?_ ?_ ?_ ?_);exact hc;exact nd;exact rfl;exact oi;exact sH rfl (by rfl);exact eX rfl (by rfl) aZ (aq (sv 0) aa);exact (λ_ _ _ _ _=>aJ (i:=5) ‹["net","stream","steps","number","step","place"]› rfl (cE rfl) (dA rfl));exact cu (dw);exact (λ_ _ _ _ _=>bT);exact (λ_ _ _ _ _=>(cj aO));(· (with_reducible refine Jm ?_ ?_);(· (with_reducible refine Di (g:=jH 3) ?_ ?_ ?_ ?_ ?_ ?_ ?_);exact du;exact hc;(· (with_reducible refine Ha ?_ ?_ ?_ ?_ ?_);exact rfl;rfl;exact aZ;exact cz rfl (by rfl) aW (aq (sv 0) aa);rfl);exact aJ (i:=3) nd rfl oi oi;(· rw[oh];exact vf 3);(· (with_reducible refine rC ?_ ?_);(· (with_reducible refine Di (g:=jH 4) ?_ ?_ ?_ ?_ ?_ ?_ ?_);exact du;exact hc;exact M8 (cM (cV (cM (cV (sv 3) (cV qw aO rfl) rfl)) (cV (cM (cV (sv 3) (cV qw aO rfl) rfl)) aO rfl) rfl));exact aJ (i:=4) nd rfl oi oi;(· rw[oh];exact vf 4);(· (with_reducible refine rC ?_ ?_);(· (with_reducible refine RT ?_ ?_ ?_);exact dj jO (dh e hr (aU (sv 0) (aU (sv 1) (aU (sv 4) aA rfl) rfl) rfl)) aa (bU _);(· (with_reducible refine rC ?_ ?_);(· (with_reducible refine Gz (k:=2) ?_ ?_ ?_ ?_ ?_ ?_ ?_ ?_ ?_ ?_ ?_ ?_);exact rfl;(· first|exact cE rfl|exact dA (cE rfl));exact aq (dh b hr (aU (sv 0) (aU (sv 4) aA rfl) rfl)) aa;exact sv 4;(· intro _ _;rfl);rfl;rfl;rfl;rfl;rfl;rfl;rfl);exact pK);exact pK);exact pK);(· intro _;rfl));exact pK);(· intro _;rfl));(· (with_reducible refine Ob ?_);(· lia;(· ((with_reducible refine S8 ?_);exact sv 2));exact au)));rfl;(· intro _;rfl);exact oi)
noncomputable abbrev s5:eJ:=top 11
noncomputable def b5:List S:=[.asg 3 (.call 4 [↑0,↑1]),.Gi 4,.gG (.blt .keys [↑2]) [5] true [.fZ 4 ↑5 (.tup [.bin .Am ↑2 ↑5,(P.con (.int 0)),.con .non])],.asg 6 (.blt .Xo [↑2]),.whl (.cmp .gt (.blt .len [↑6]) (P.con (.int 0))) [.Gi 7,.gG ↑6 [5] true [.gG (.idx ↑3 ↑5) [8] true [.asg 9 (.idx (.call 0 [↑0,↑8]) (P.con (.int 1))),.asg 10 (.tup [.bin .add (.idx (.QM 4 ↑5) (P.con (.int 0))) (.call 1 [↑0,↑8]),.bin .add (.idx (.QM 4 ↑5) (P.con (.int 1))) (P.con (.int 1))]),.ifs (.or (.QQ 4 ↑9 true) (.cmp .lt ↑10 (.slice (.QM 4 ↑9) (.con .non) (P.con (.int 2))))) [.fZ 4 ↑9 (.bin .add ↑10 (.tup [↑8])),.fZ 7 ↑9 (.con (.bl true))] []]],.asg 6 (.blt .Xo [.vw 7])],.ret ↑4]
noncomputable def f5:Fd:=⟨3,11,b5⟩
theorem sc5:aK ["net","stream","begun","steps","come","place","row","changed","step","to","found"] ["net","stream","begun"] (az s5):=(⟨rfl,rfl,rfl,by decide+kernel,rfl,by decide+kernel,by decide+kernel⟩)
include cl in
theorem d5(a:gb K "shortest_come" "shortest_come" s5 f fd)(aW:mg "len"=none)(iw:mg "list"=none)(b:(aR Pg w K mg base k c 4 ("open_steps") 2))(e:(aR Pg w K mg base k c 1 ("step_hours") 2))(g:(aR Pg w K mg base k c 0 ("step_places") 2)):(ou Pg w K mg base Gs (k+1) f fd ["net","stream","begun"] (M5 K 3 (λargs=>enter c n f5 args))):=by
 (refine XC a sc5 rfl rfl λcdv A outer s H E hr=>?_;have nd:=(sc5).nd);refine aM ?_ ?_;. ((with_reducible refine oE (i:=3) ?_ ?_ ?_ ?_ ?_ ?_);exact nd;exact rfl;exact oi;rotate_left;rfl;exact oi;exact dh b hr (aU (sv 0) (aU (sv 1) aA rfl) rfl))
 lia;.exact(Dq (i:=4) nd rfl oi (by rfl) (cE rfl))
 lia;. ((with_reducible refine uN (i:=5) ?_ ?_ ?_ ?_ ?_ ?_ ?_ ?_ ?_);exact du;exact hc;exact nd;exact rfl;exact oi;exact Ov (sv 2);rotate_left;(· intro _;rfl);exact oi);(· lia;exact pI (i:=4) (bM hr) rfl (by (first|exact cE rfl|exact dA (cE rfl))) (sv 5) (cM (cV (pX (bM hr) (sv 2) (sv 5) (λ_ _=>rfl)) (cV aa (cV G9 aO rfl) rfl) rfl)) (by rfl);exact au)
 lia;. ((with_reducible refine oE (i:=6) ?_ ?_ ?_ ?_ ?_ ?_);exact nd;exact rfl;exact oi;rotate_left;rfl;exact oi;exact Ip rfl hc (by rfl) iw (sv 2))
 lia;.exact(Aa du (dj jO (cz rfl (by rfl) aW (sv 6)) aa (bU _)) (by lia;exact Dq (i:=7) nd rfl oi (by rfl) (cE rfl);(· lia;(· ((with_reducible refine uN (i:=5) ?_ ?_ ?_ ?_ ?_ ?_ ?_ ?_ ?_);exact du;exact hc;exact nd;exact rfl;exact oi;exact cO (sv 6);rotate_left;(· intro _;rfl);exact oi);(· lia;(· ((with_reducible refine uN (i:=8) ?_ ?_ ?_ ?_ ?_ ?_ ?_ ?_ ?_);exact du;exact hc;exact nd;exact rfl;exact oi;exact cO (aq (sv 3) (sv 5));rotate_left;(· intro _;rfl);exact oi);(· lia;(· ((with_reducible refine oE (i:=9) ?_ ?_ ?_ ?_ ?_ ?_);exact nd;exact rfl;exact oi;rotate_left;rfl;exact oi;exact aq (dh g hr (aU (sv 0) (aU (sv 8) aA rfl) rfl)) aa));(· lia;(· ((with_reducible refine oE (i:=10) ?_ ?_ ?_ ?_ ?_ ?_);exact nd;exact rfl;exact oi;rotate_left;rfl;exact oi;exact cM (cV (ao aF (aq (zR (i:=4) (bM hr) rfl (by (first|exact cE rfl|exact dA (cE rfl))) (sv 5) (λ_ _=>rfl)) aa) (dh e hr (aU (sv 0) (aU (sv 8) aA rfl) rfl))) (cV (ao aF (aq (zR (i:=4) (bM hr) rfl (by (first|exact cE rfl|exact dA (cE rfl))) (sv 5) (λ_ _=>rfl)) aa) aa) aO rfl) rfl)));(· lia;(· (with_reducible refine gC ?_ ?_ ?_);exact SW.st (Cy (R1 (i:=4) (dA ⟨rfl,rfl⟩) (bM hr) rfl (by (first|exact cE rfl|exact dA (cE rfl))) (sv 9) (by with_unfolding_all rfl)) (u0 (dj (Jc (bM hr)) (sv 10) (fJ (zR (i:=4) (bM hr) rfl (by (first|exact cE rfl|exact dA (cE rfl))) (sv 9) (λ_ _=>rfl)) gR (gP aa)) (bU _))));(· lia;exact pI (i:=4) (bM hr) rfl (by (first|exact cE rfl|exact dA (cE rfl))) (sv 9) (ao aF (sv 10) (cM (cV (sv 8) aO rfl))) (by rfl);(· lia;exact pI (i:=7) (bM hr) rfl (by (first|exact cE rfl|exact dA (cE rfl))) (sv 9) qw (by rfl);exact au));exact au);exact au))));exact au));(· lia;(· ((with_reducible refine oE (i:=6) ?_ ?_ ?_ ?_ ?_ ?_);exact nd;exact rfl;exact oi;rotate_left;rfl;exact oi;exact Ip rfl hc (by rfl) iw (qe (i:=7) rfl (by (first|exact cE rfl|exact dA (cE rfl))))));exact au))))
 lia;. ((with_reducible refine S8 ?_);exact sv 4)
 exact au
noncomputable abbrev s6:eJ:=top 12
noncomputable def b6:List S:=[.asg 3 (.lst []),.asg 4 ↑2,.whl (.cmp .OJ (.idx (.bin .Am ↑1 ↑4) (P.con (.int 2))) (.con .non)) [.asg 5 (.idx (.bin .Am ↑1 ↑4) (P.con (.int 2))),.app 3 ↑5,.asg 4 (.idx (.call 0 [↑0,↑5]) (P.con (.int 0)))],.ret (.blt .rvT [↑3])]
noncomputable def f6:Fd:=⟨3,6,b6⟩
theorem sc6:aK ["net","come","place","steps","here","step"] ["net","come","place"] (az s6):=(⟨rfl,rfl,rfl,by decide+kernel,rfl,by decide+kernel,by decide+kernel⟩)
include cl in
theorem d6(a:gb K "steps_to" "steps_to" s6 f fd)(lO:mg "reversed"=none)(bG:mg "tuple"=none)(b:(aR Pg w K mg base k c 0 ("step_places") 2)):(ou Pg w K mg base Gs (k+1) f fd ["net","come","place"] (M5 K 3 (λargs=>enter c n f6 args))):=by
 (refine XC a sc6 rfl rfl λcdv A outer s H E hr=>?_;have nd:=(sc6).nd);refine aM ?_ ?_;. ((with_reducible refine oE (i:=3) ?_ ?_ ?_ ?_ ?_ ?_);exact nd;exact rfl;exact oi;rotate_left;rfl;exact oi;exact cj aO)
 lia;. ((with_reducible refine oE (i:=4) ?_ ?_ ?_ ?_ ?_ ?_);exact nd;exact rfl;exact oi;rotate_left;rfl;exact oi;exact sv 2)
 lia;.exact(Aa du (dj M3 (aq (pX (bM hr) (sv 1) (sv 4) (λ_ _=>rfl)) aa) G9 (bU _)) (by lia;(· ((with_reducible refine oE (i:=5) ?_ ?_ ?_ ?_ ?_ ?_);exact nd;exact rfl;exact oi;rotate_left;rfl;exact oi;exact aq (pX (bM hr) (sv 1) (sv 4) (λ_ _=>rfl)) aa));(· lia;exact bZ (k:=3) rfl (by (first|exact cE rfl|exact dA (cE rfl))) (sv 5);(· lia;(· ((with_reducible refine oE (i:=4) ?_ ?_ ?_ ?_ ?_ ?_);exact nd;exact rfl;exact oi;rotate_left;rfl;exact oi;exact aq (dh b hr (aU (sv 0) (aU (sv 5) aA rfl) rfl)) aa));exact au))))
 lia;. ((with_reducible refine S8 ?_);exact yR rfl rfl hc (by rfl) bG (by rfl) lO (sv 3))
 exact au
noncomputable abbrev s7:eJ:=top 13
noncomputable def b7:List S:=[.asg 3 (.blt .list [↑0]),.gG ↑1 [4,5] false [.Kf 3 ↑4 false (.QL ↑5 ↑2 (.neg ↑2))],.ret ↑3]
noncomputable def f7:Fd:=⟨3,6,b7⟩
theorem sc7:aK ["stream","steps","loads","changed","number","forth"] ["stream","steps","loads"] (az s7):=(⟨rfl,rfl,rfl,by decide+kernel,rfl,by decide+kernel,by decide+kernel⟩)
include cl in
theorem d7(a:gb K "stream_with" "stream_with" s7 f fd)(iw:mg "list"=none):(ou Pg w K mg base Gs (k+1) f fd ["stream","steps","loads"] (M5 K 3 (λargs=>enter c n f7 args))):=by
 (refine XC a sc7 rfl rfl λcdv A outer s H E hr=>?_;have nd:=(sc7).nd);refine aM ?_ ?_;. ((with_reducible refine oE (i:=3) ?_ ?_ ?_ ?_ ?_ ?_);exact nd;exact rfl;exact oi;rotate_left;rfl;exact oi;exact MT rfl (by rfl) iw (sv 0))
 lia;.exact(nD du hc (cO (sv 1)) (fj hc (aV (aJ (i:=4) nd rfl oi oi) (aV (aJ (i:=5) nd rfl oi oi) dI))) (nH rfl (dq _ _ (dq _ _ j6 5) 4)) (by lia;exact Oq (k:=3) (sub:=false) Ot rfl (by (first|exact cE rfl|exact dA (cE rfl))) (sv 4) (vq (iu (sv 5)) (sv 2) (Af (sv 2)));exact au))
 lia;. ((with_reducible refine S8 ?_);exact sv 3)
 exact au
noncomputable abbrev s8:eJ:=top 14
noncomputable def b8:List S:=[.asg 1 (.bin .sub (.idx ↑0 (P.con (.int 0))) (P.con (.int 1))),.asg 2 (.bin .mul (.lst [(P.con (.int 0))]) (.blt .len [.idx ↑0 (P.con (.int 1))])),.asg 3 (.lst []),.asg 4 (.call 5 [↑0,↑2,.An 0 0]),.whl (.bin .din ↑1 ↑4) [.asg 5 (.call 6 [↑0,↑4,↑1]),.asg 6 (.blt .Gg [.comp ↑5 1 [7] true none (.call 2 [↑0,↑2,↑7])]),.app 3 (.tup [↑5,↑6]),.asg 2 (.call 7 [↑2,↑5,↑6]),.asg 4 (.call 5 [↑0,↑2,.An 0 0])],.ret ↑3]
noncomputable def f8:Fd:=⟨1,7,b8⟩
theorem sc8:aK ["net","end","stream","chains","come","steps","loads"] ["net"] (az s8):=(⟨rfl,rfl,rfl,by decide+kernel,rfl,by decide+kernel,by decide+kernel⟩)
include cl in
theorem d8(b:gb K "chains_to_end" "chains_to_end" s8 f fd)(aW:mg "len"=none)(jl:mg "min"=none)(a:(aR Pg w K mg base k c 5 ("shortest_come") 3))(e:(aR Pg w K mg base k c 2 ("step_room") 3))(g:(aR Pg w K mg base k c 6 ("steps_to") 3))(h:(aR Pg w K mg base k c 7 ("stream_with") 3)):(ou Pg w K mg base Gs (k+1) f fd ["net"] (M5 K 1 (λargs=>enter c n f8 args))):=by
 (refine XC b sc8 rfl rfl λcdv A outer s H E hr=>?_;have nd:=(sc8).nd);refine aM ?_ ?_;. ((with_reducible refine oE (i:=1) ?_ ?_ ?_ ?_ ?_ ?_);exact nd;exact rfl;exact oi;rotate_left;rfl;exact oi;exact ao bV (aq (sv 0) aa) aa)
 lia;. (with_reducible refine oE (i:=2) ?_ ?_ ?_ ?_ ?_ ?_);exact nd;exact rfl;exact dA rfl;rotate_left;rfl;exact oi;exact ao cC (cj (cV aa aO rfl)) (cz rfl (by rfl) aW (aq (sv 0) aa))
 lia;. ((with_reducible refine oE (i:=3) ?_ ?_ ?_ ?_ ?_ ?_);exact nd;exact rfl;exact oi;rotate_left;rfl;exact oi;exact cj aO)
 lia;. ((with_reducible refine oE (i:=4) ?_ ?_ ?_ ?_ ?_ ?_);exact nd;exact rfl;exact oi;rotate_left;rfl;exact oi;exact dh a hr (aU (sv 0) (aU (sv 2) (aU BJ aA rfl) rfl) rfl))
 lia;.exact(Aa du (U0 (bM hr) (sv 1) (sv 4) (by with_unfolding_all rfl)) (by lia;(· ((with_reducible refine oE (i:=5) ?_ ?_ ?_ ?_ ?_ ?_);exact nd;exact rfl;exact oi;rotate_left;rfl;exact oi;exact dh g hr (aU (sv 0) (aU (sv 4) (aU (sv 1) aA rfl) rfl) rfl)));(· lia;(· ((with_reducible refine oE (i:=6) ?_ ?_ ?_ ?_ ?_ ?_);exact nd;exact rfl;exact oi;rotate_left;rfl;exact oi;exact Dk rfl hc (by rfl) jl (dF (N':=["net","end","stream","chains","come","steps","loads","step"]) hc (sH rfl (by rfl)) (cO (sv 5)) (λ_ _ _ _ _=>aJ (i:=7) ‹["net","end","stream","chains","come","steps","loads","step"]› rfl (cE rfl) (dA rfl)) (cu (dw)) (λ_ _ _ _ _=>bT) (λ_ _ _ _ _=>(dh e hr (aU (sv 0) (aU (sv 2) (aU (sv 7) aA rfl) rfl) rfl))))));(· lia;exact bZ (k:=3) rfl (by (first|exact cE rfl|exact dA (cE rfl))) (cM (cV (sv 5) (cV (sv 6) aO rfl) rfl));(· lia;(· (with_reducible refine oE (i:=2) ?_ ?_ ?_ ?_ ?_ ?_);exact nd;exact rfl;exact dA rfl;rotate_left;rfl;exact oi;exact dh h hr (aU (sv 2) (aU (sv 5) (aU (sv 6) aA rfl) rfl) rfl));(· lia;(· ((with_reducible refine oE (i:=4) ?_ ?_ ?_ ?_ ?_ ?_);exact nd;exact rfl;exact oi;rotate_left;rfl;exact oi;exact dh a hr (aU (sv 0) (aU (sv 2) (aU BJ aA rfl) rfl) rfl)));exact au))))))
 lia;. ((with_reducible refine S8 ?_);exact sv 3)
 exact au
noncomputable abbrev s9:eJ:=top 15
noncomputable def b9:List S:=[.asg 2 (.lst []),.asg 3 ↑1,.gG ↑0 [4,5] false [.asg 6 (.blt .min2 [↑3,↑5]),.app 2 (.tup [↑4,↑6]),.aug 3 true ↑6],.ifs (.cmp .gt ↑3 (P.con (.int 0))) [.bad] [],.ret ↑2]
noncomputable def f9:Fd:=⟨2,7,b9⟩
theorem sc9:aK ["pairs","rate","cut","left","first","loads","taken"] ["pairs","rate"] (az s9):=(⟨rfl,rfl,rfl,by decide+kernel,rfl,by decide+kernel,by decide+kernel⟩)
include cl in
theorem d9(a:gb K "cut_to_rate" "cut_to_rate" s9 f fd)(jl:mg "min"=none):(ou Pg w K mg base Gs (k+1) f fd ["pairs","rate"] (M5 K 2 (λargs=>enter c n f9 args))):=by
 (refine XC a sc9 rfl rfl λcdv A outer s H E hr=>?_;have nd:=(sc9).nd);refine aM ?_ ?_;. ((with_reducible refine oE (i:=2) ?_ ?_ ?_ ?_ ?_ ?_);exact nd;exact rfl;exact oi;rotate_left;rfl;exact oi;exact cj aO)
 lia;. ((with_reducible refine oE (i:=3) ?_ ?_ ?_ ?_ ?_ ?_);exact nd;exact rfl;exact oi;rotate_left;rfl;exact oi;exact sv 1)
 lia;.exact(nD du hc (cO (sv 0)) (fj hc (aV (aJ (i:=4) nd rfl oi oi) (aV (aJ (i:=5) nd rfl oi oi) dI))) (nH rfl (dq _ _ (dq _ _ j6 5) 4)) (by lia;(· ((with_reducible refine oE (i:=6) ?_ ?_ ?_ ?_ ?_ ?_);exact nd;exact rfl;exact oi;rotate_left;rfl;exact oi;exact Dm rfl hc (by rfl) jl (cV (sv 3) (cV (sv 5) aO rfl) rfl)));(· lia;exact bZ (k:=2) rfl (by (first|exact cE rfl|exact dA (cE rfl))) (cM (cV (sv 4) (cV (sv 6) aO rfl) rfl));(· lia;exact Uw (i:=3) (sub:=true) Mf nd rfl oi (sv 6) (cE rfl);exact au))))
 lia;. (with_reducible refine gC ?_ ?_ ?_);exact dj jO (sv 3) aa (bU _);(· lia;exact nU;exact au);exact au
 lia;. ((with_reducible refine S8 ?_);exact sv 2)
 exact au
noncomputable abbrev iG:eJ:=top 17
noncomputable def b10:List S:=[.Kh 1 false,.gG (.call 8 [↑0]) [2,3] false [.asg 4 (.call 3 [↑0,↑2]),.dput 1 ↑4 (.bin .add (.Xp 1 ↑4 (P.con (.int 0))) ↑3)],.ret (.blt .Ke [.vw 1])]
noncomputable def f10:Fd:=⟨1,5,b10⟩
theorem ado:aK ["net","bends","steps","loads","length"] ["net"] (az iG):=(⟨rfl,rfl,rfl,by decide+kernel,rfl,by decide+kernel,by decide+kernel⟩)
include cl in
theorem d10(a:gb K "bends_of" "bends_of" iG f fd)(rZ:mg "sorted"=none)(b:(aR Pg w K mg base k c 8 ("chains_to_end") 1))(e:(aR Pg w K mg base k c 3 ("steps_hours") 2)):(ou Pg w K mg base Gs (k+1) f fd ["net"] (M5 K 1 (λargs=>enter c n f10 args))):=by
 (refine XC a ado rfl rfl λcdv A outer s H E hr=>?_;have nd:=(ado).nd);refine aM ?_ ?_;.exact(Om (i:=1) nd rfl oi (by rfl) (cE rfl))
 lia;.exact(nD du hc (cO (dh b hr (aU (sv 0) aA rfl))) (fj hc (aV (aJ (i:=2) nd rfl oi oi) (aV (aJ (i:=3) nd rfl oi oi) dI))) (nH rfl (dq _ _ (dq _ _ j6 3) 2)) (by lia;(· ((with_reducible refine oE (i:=4) ?_ ?_ ?_ ?_ ?_ ?_);exact nd;exact rfl;exact oi;rotate_left;rfl;exact oi;exact dh e hr (aU (sv 0) (aU (sv 2) aA rfl) rfl)));(· lia;exact Ow (i:=1) (bM hr) rfl (by (first|exact cE rfl|exact dA (cE rfl))) (sv 4) (ao aF (Ro (i:=1) (bM hr) rfl (by (first|exact cE rfl|exact dA (cE rfl))) (sv 4) aa ⟨rfl,rfl,rfl,rfl⟩) (sv 3)) (by rfl);exact au)))
 lia;. ((with_reducible refine S8 ?_);exact Lb rfl hc (by rfl) rZ rfl (qe (i:=1) rfl (by (first|exact cE rfl|exact dA (cE rfl)))))
 exact au
noncomputable abbrev pO:eJ:=top 19
noncomputable def b11:List S:=[.ret (.and (.inst [.int] ↑0) (.not (.inst [.bool] ↑0)))]
noncomputable def f11:Fd:=⟨1,1,b11⟩
theorem aeN:aK ["thing"] ["thing"] (az pO):=(⟨rfl,rfl,rfl,by decide+kernel,rfl,by decide+kernel,by decide+kernel⟩)
include cl in
theorem d11(a:gb K "is_whole" "is_whole" pO f fd)(lQ:mg "bool"=none)(Kv:mg "int"=none)(bH:mg "isinstance"=none):(ou Pg w K mg base Gs (k+1) f fd ["thing"] (M5 K 1 (λargs=>enter c n f11 args))):=by
 (refine XC a aeN rfl rfl λcdv A outer s H E hr=>?_;have nd:=(aeN).nd);refine aM ?_ ?_;. ((with_reducible refine S8 ?_);exact gZ (qj .int rfl (by rfl) bH (sv 0) (by rfl) Kv (by kernel_rfl) (by decide) (by rfl)) (m6 (Ve (qj .bool rfl (by rfl) bH (sv 0) (by rfl) lQ (by kernel_rfl) (by decide) (by rfl)))))
 exact au
noncomputable abbrev s12:eJ:=top 20
noncomputable def b12:List S:=[.ret (.and (.call 11 [↑0]) (.chain .le .le ↑1 ↑0 ↑2))]
noncomputable def f12:Fd:=⟨3,3,b12⟩
theorem adl:aK ["thing","least","most"] ["thing","least","most"] (az s12):=(⟨rfl,rfl,rfl,by decide+kernel,rfl,by decide+kernel,by decide+kernel⟩)
include cl in
theorem d12(a:gb K "whole_within" "whole_within" s12 f fd)(b:(aR Pg w K mg base k c 11 ("is_whole") 1)):(ou Pg w K mg base Gs (k+1) f fd ["thing","least","most"] (M5 K 3 (λargs=>enter c n f12 args))):=by
 (refine XC a adl rfl rfl λcdv A outer s H E hr=>?_;have nd:=(adl).nd);refine aM ?_ ?_;. ((with_reducible refine S8 ?_);exact gZ (dh b hr (aU (sv 0) aA rfl)) (m6 (wL nQ nQ (sv 1) (sv 0) (sv 2))))
 exact au
noncomputable abbrev s13:eJ:=top 21
noncomputable def b13:List S:=[.ret (.inst [.list,.tuple] ↑0)]
noncomputable def V6:Fd:=⟨1,1,b13⟩
theorem adx:aK ["thing"] ["thing"] (az s13):=(⟨rfl,rfl,rfl,by decide+kernel,rfl,by decide+kernel,by decide+kernel⟩)
include cl in
theorem d13(a:gb K "is_row" "is_row" s13 f fd)(bH:mg "isinstance"=none)(iw:mg "list"=none)(bG:mg "tuple"=none):(ou Pg w K mg base Gs (k+1) f fd ["thing"] (M5 K 1 (λargs=>enter c n V6 args))):=by
 (refine XC a adx rfl rfl λcdv A outer s H E hr=>?_;have nd:=(adx).nd);refine aM ?_ ?_;. ((with_reducible refine S8 ?_);exact JR rfl (by rfl) bH (sv 0) (xq .list (by rfl) iw (by kernel_rfl) (xq .tuple (by rfl) bG (by kernel_rfl) Lx (by decide) (by rfl)) (by decide) (by rfl)))
 exact au
noncomputable abbrev s14:eJ:=top 28
noncomputable def b14:List S:=[.ret (.and (.call 13 [↑1]) (.and (.cmp .eq (.blt .len [↑1]) (P.con (.int 4))) (.and (.call 12 [.idx ↑1 (P.con (.int 0)),(P.con (.int 0)),.bin .sub ↑0 (P.con (.int 1))]) (.and (.call 12 [.idx ↑1 (P.con (.int 1)),(P.con (.int 0)),.bin .sub ↑0 (P.con (.int 1))]) (.and (.cmp .ne (.idx ↑1 (P.con (.int 0))) (.idx ↑1 (P.con (.int 1)))) (.and (.call 12 [.idx ↑1 (P.con (.int 2)),(P.con (.int 0)),.glob "MOST_ROOM" (.int 1000000000)]) (.call 12 [.idx ↑1 (P.con (.int 3)),(P.con (.int 1)),.glob "MOST_HOURS" (.int 1000000)])))))))]
noncomputable def f14:Fd:=⟨2,2,b14⟩
theorem adG:aK ["many","thing"] ["many","thing"] (az s14):=(⟨rfl,rfl,rfl,by decide+kernel,rfl,by decide+kernel,by decide+kernel⟩)
include cl in
theorem d14(b:gb K "is_way" "is_way" s14 f fd)(aW:mg "len"=none)(jf:∃t,mg "MOST_HOURS"=some (eh 1000000 t))(jW:∃t,mg "MOST_ROOM"=some (eh 1000000000 t))(e:(aR Pg w K mg base k c 13 ("is_row") 1))(a:(aR Pg w K mg base k c 12 ("whole_within") 3)):(ou Pg w K mg base Gs (k+1) f fd ["many","thing"] (M5 K 2 (λargs=>enter c n f14 args))):=by
 (refine XC b adG rfl rfl λcdv A outer s H E hr=>?_;have nd:=(adG).nd);refine aM ?_ ?_;. ((with_reducible refine S8 ?_);exact gZ (dh e hr (aU (sv 1) aA rfl)) (gZ (lH (lE (bM hr)) (cz rfl (by rfl) aW (sv 1)) aa (bU _)) (gZ (dh a hr (aU (aq (sv 1) aa) (aU aa (aU (ao bV (sv 0) aa) aA rfl) rfl) rfl)) (gZ (dh a hr (aU (aq (sv 1) aa) (aU aa (aU (ao bV (sv 0) aa) aA rfl) rfl) rfl)) (gZ (lH (yJ (bM hr)) (aq (sv 1) aa) (aq (sv 1) aa) (bU _)) (gZ (dh a hr (aU (aq (sv 1) aa) (aU aa (aU (iH (by rfl) jW.choose_spec (by rfl)) aA rfl) rfl) rfl)) (m6 (dh a hr (aU (aq (sv 1) aa) (aU aa (aU (iH (by rfl) jf.choose_spec (by rfl)) aA rfl) rfl) rfl)))).ev).ev).ev).ev).ev)
 exact au
noncomputable abbrev s15:eJ:=top 29
noncomputable def b15:List S:=[.ifs (.or (.not (.call 12 [↑0,.glob "LEAST_PLACES" (.int 2),.glob "MOST_PLACES" (.int 6)])) (.not (.call 13 [↑1]))) [.bad] [],.gG (.enm ↑1) [2,3] false [.ifs (.not (.call 14 [↑0,↑3])) [.bad] []],.ifs (.cmp .gt (.blt .len [↑1]) (.glob "MOST_WAYS" (.int 12))) [.bad] [],.ret (.tup [↑0,.blt .tuple [.comp ↑1 1 [4] true none (.blt .tuple [↑4])]])]
noncomputable def f15:Fd:=⟨2,4,b15⟩
theorem adn:aK ["many","ways","at","thing"] ["many","ways"] (az s15):=(⟨rfl,rfl,rfl,by decide+kernel,rfl,by decide+kernel,by decide+kernel⟩)
include cl in
theorem d15(a:gb K "made_net" "made_net" s15 f fd)(jX:mg "enumerate"=none)(aW:mg "len"=none)(bG:mg "tuple"=none)(gH:∃t,mg "LEAST_PLACES"=some (eh 2 t))(iz:∃t,mg "MOST_PLACES"=some (eh 6 t))(jY:∃t,mg "MOST_WAYS"=some (eh 12 t))(b:(aR Pg w K mg base k c 13 ("is_row") 1))(e:(aR Pg w K mg base k c 14 ("is_way") 2))(g:(aR Pg w K mg base k c 12 ("whole_within") 3)):(ou Pg w K mg base Gs (k+1) f fd ["many","ways"] (M5 K 2 (λargs=>enter c n f15 args))):=by
 (refine XC a adn rfl rfl λcdv A outer s H E hr=>?_;have nd:=(adn).nd);refine aM ?_ ?_;. (with_reducible refine gC ?_ ?_ ?_);exact SW.st (Cy (qX (iu (dh g hr (aU (sv 0) (aU (iH (by rfl) gH.choose_spec (by rfl)) (aU (iH (by rfl) iz.choose_spec (by rfl)) aA rfl) rfl) rfl)))) (u0 (qX (iu (dh b hr (aU (sv 1) aA rfl))))));(· lia;exact nU;exact au);exact au
 lia;.exact(nD du hc (Vq rfl (by rfl) jX (sv 1)) (fj hc (aV (aJ (i:=2) nd rfl oi oi) (aV (aJ (i:=3) nd rfl oi oi) dI))) (nH rfl (dq _ _ (dq _ _ j6 3) 2)) (by lia;(· (with_reducible refine gC ?_ ?_ ?_);exact qX (iu (dh e hr (aU (sv 0) (aU (sv 3) aA rfl) rfl)));(· lia;exact nU;exact au);exact au);exact au))
 lia;. (with_reducible refine gC ?_ ?_ ?_);exact dj jO (cz rfl (by rfl) aW (sv 1)) (iH (by rfl) jY.choose_spec (by rfl)) (bU _);(· lia;exact nU;exact au);exact au
 lia;. ((with_reducible refine S8 ?_);exact cM (cV (sv 0) (cV (gF rfl (by rfl) bG (dF (N':=["many","ways","at","thing","way"]) hc (sH rfl (by rfl)) (cO (sv 1)) (λ_ _ _ _ _=>aJ (i:=4) ‹["many","ways","at","thing","way"]› rfl (cE rfl) (dA rfl)) (cu (dw)) (λ_ _ _ _ _=>bT) (λ_ _ _ _ _=>(gF rfl (by rfl) bG (sv 4))))) aO rfl) rfl))
 exact au
noncomputable abbrev s16:eJ:=top 31
noncomputable def b16:List S:=[.ret (.blt .all [.comp (.zip ↑1 (.idx ↑0 (P.con (.int 1)))) 2 [2,3] false none (.chain .le .le (P.con (.int 0)) ↑2 (.idx ↑3 (P.con (.int 2))))])]
noncomputable def f16:Fd:=⟨2,2,b16⟩
theorem afb:aK ["net","stream"] ["net","stream"] (az s16):=(⟨rfl,rfl,rfl,by decide+kernel,rfl,by decide+kernel,by decide+kernel⟩)
include cl in
theorem d16(a:gb K "within_rooms" "within_rooms" s16 f fd)(Ky:mg "all"=none)(gJ:mg "zip"=none):(ou Pg w K mg base Gs (k+1) f fd ["net","stream"] (M5 K 2 (λargs=>enter c n f16 args))):=by
 (refine XC a afb rfl rfl λcdv A outer s H E hr=>?_;have nd:=(afb).nd);refine aM ?_ ?_;. ((with_reducible refine S8 ?_);exact Tc rfl hc (by rfl) Ky (dF (N':=["net","stream","loads","way"]) hc (sH rfl (by rfl)) (R9 rfl (by rfl) gJ (sv 1) (aq (sv 0) aa)) (λ_ _ _ _ _=>fj hc (aV (aJ (i:=2) ‹["net","stream","loads","way"]› rfl (cE rfl) (dA rfl)) (aV (aJ (i:=3) ‹["net","stream","loads","way"]› rfl (cE rfl) (dA rfl)) dI))) (iU rfl (cI (show 2<=2 by decide) (cI (show 2<=3 by decide) iZ))) (λ_ _ _ _ _=>bT) (λ_ _ _ _ _=>(wL nQ nQ aa (sv 2) (aq (sv 3) aa)))))
 exact au
noncomputable abbrev s17:eJ:=top 32
noncomputable def b17:List S:=[.asg 2 (.lA 1 (.idx ↑0 (P.con (.int 1))) 2 [3,4] false none (.tup [.idx ↑3 (P.con (.int 0)),.idx ↑3 (P.con (.int 1)),↑4,.idx ↑3 (P.con (.int 3))])),.ret (.tup [.idx ↑0 (P.con (.int 0)),.blt .tuple [↑2]])]
noncomputable def f17:Fd:=⟨2,3,b17⟩
theorem adb:aK ["net","rooms","ways"] ["net","rooms"] (az s17):=(⟨rfl,rfl,rfl,by decide+kernel,rfl,by decide+kernel,by decide+kernel⟩)
include cl in
theorem d17(a:gb K "with_rooms" "with_rooms" s17 f fd)(bG:mg "tuple"=none)(gJ:mg "zip"=none):(ou Pg w K mg base Gs (k+1) f fd ["net","rooms"] (M5 K 2 (λargs=>enter c n f17 args))):=by
 (refine XC a adb rfl rfl λcdv A outer s H E hr=>?_;have nd:=(adb).nd);refine aM ?_ ?_;.exact(Bh (i:=2) (N':=["net","rooms","ways","way","room"]) hc nd rfl oi (sH rfl (by rfl)) (pU (i:=1) rfl (by rfl) gJ rfl (aq (sv 0) aa) (sv 1)) (λ_ _ _ _ _=>fj hc (aV (aJ (i:=3) ‹["net","rooms","ways","way","room"]› rfl (cE rfl) (dA rfl)) (aV (aJ (i:=4) ‹["net","rooms","ways","way","room"]› rfl (cE rfl) (dA rfl)) dI))) (iU rfl (cI (show 3<=3 by decide) (cI (show 3<=4 by decide) iZ))) (λ_ _ _ _ _=>bT) (λ_ _ _ _ _=>(cM (cV (aq (sv 3) aa) (cV (aq (sv 3) aa) (cV (sv 4) (cV (aq (sv 3) aa) aO rfl) rfl) rfl) rfl))) (by rfl) (by intro _;rfl) (cE rfl))
 lia;. ((with_reducible refine S8 ?_);exact cM (cV (aq (sv 0) aa) (cV (gF rfl (by rfl) bG (sv 2)) aO rfl) rfl))
 exact au
noncomputable abbrev s18:eJ:=top 34
noncomputable def b18:List S:=[.asg 2 (.blt .sum [.comp (.idx ↑0 (P.con (.int 1))) 1 [6] true none (.idx ↑6 (P.con (.int 3)))]),.Ko 3 0 0,.gG (.rY (P.con (.int 1)) (.idx ↑0 (P.con (.int 0)))) [4] true [.fZ 3 ↑4 ↑2],.asg 5 (.call 5 [↑0,↑1,.vw 3]),.ret (.comp (.rY (P.con (.int 0)) (.idx ↑0 (P.con (.int 0)))) 1 [6] true none (.idx (.bin .Am ↑5 ↑6) (P.con (.int 0))))]
noncomputable def f18:Fd:=⟨2,6,b18⟩
theorem aef:aK ["net","stream","late","begun","place","come"] ["net","stream"] (az s18):=(⟨rfl,rfl,rfl,by decide+kernel,rfl,by decide+kernel,by decide+kernel⟩)
include cl in
theorem d18(a:gb K "found_clocks" "found_clocks" s18 f fd)(aZ:mg "range"=none)(jk:mg "sum"=none)(b:(aR Pg w K mg base k c 5 ("shortest_come") 3)):(ou Pg w K mg base Gs (k+1) f fd ["net","stream"] (M5 K 2 (λargs=>enter c n f18 args))):=by
 (refine XC a aef rfl rfl λcdv A outer s H E hr=>?_;have nd:=(aef).nd);refine aM ?_ ?_;. ((with_reducible refine oE (i:=2) ?_ ?_ ?_ ?_ ?_ ?_);exact nd;exact rfl;exact oi;rotate_left;rfl;exact oi;exact u9 rfl hc (by rfl) jk (dF (N':=["net","stream","late","begun","place","come","way"]) hc (sH rfl (by rfl)) (cO (aq (sv 0) aa)) (λ_ _ _ _ _=>aJ (i:=6) ‹["net","stream","late","begun","place","come","way"]› rfl (cE rfl) (dA rfl)) (cu (dw)) (λ_ _ _ _ _=>bT) (λ_ _ _ _ _=>(aq (sv 6) aa))))
 lia;.exact(Mj (i:=3) nd rfl oi (by rfl) (cE rfl))
 lia;. ((with_reducible refine uN (i:=4) ?_ ?_ ?_ ?_ ?_ ?_ ?_ ?_ ?_);exact du;exact hc;exact nd;exact rfl;exact oi;exact Mi rfl (by rfl) aZ aa (aq (sv 0) aa);rotate_left;(· intro _;rfl);exact oi);(· lia;exact pI (i:=3) (bM hr) rfl (by (first|exact cE rfl|exact dA (cE rfl))) (sv 4) (sv 2) (by rfl);exact au)
 lia;. (with_reducible refine oE (i:=5) ?_ ?_ ?_ ?_ ?_ ?_);exact nd;exact rfl;exact dA rfl;rotate_left;rfl;exact oi;exact dh b hr (aU (sv 0) (aU (sv 1) (aU (qe (i:=3) rfl (by (first|exact cE rfl|exact dA (cE rfl)))) aA rfl) rfl) rfl)
 lia;. ((with_reducible refine S8 ?_);exact dF (N':=["net","stream","late","begun","place#4","come","place"]) hc (sH rfl (by rfl)) (eX rfl (by rfl) aZ (aq (sv 0) aa)) (λ_ _ _ _ _=>aJ (i:=6) ‹["net","stream","late","begun","place#4","come","place"]› rfl (cE rfl) (dA rfl)) (cu (dw)) (λ_ _ _ _ _=>bT) (λ_ _ _ _ _=>(aq (pX (bM hr) (sv 5) (sv 6) (λ_ _=>rfl)) aa)))
 exact au
noncomputable abbrev s19:eJ:=top 35
noncomputable def b19:List S:=[.asg 2 (.bin .mul (.lst [(P.con (.int 0))]) (.blt .len [.idx ↑0 (P.con (.int 1))])),.gG (.call 9 [.call 8 [↑0],↑1]) [3,4] false [.asg 2 (.call 7 [↑2,↑3,↑4])],.ret (.tup [↑2,.call 18 [↑0,↑2]])]
noncomputable def f19:Fd:=⟨2,5,b19⟩
theorem afr:aK ["net","rate","stream","steps","loads"] ["net","rate"] (az s19):=(⟨rfl,rfl,rfl,by decide+kernel,rfl,by decide+kernel,by decide+kernel⟩)
include cl in
theorem d19(a:gb K "light_stream" "light_stream" s19 f fd)(aW:mg "len"=none)(b:(aR Pg w K mg base k c 8 ("chains_to_end") 1))(e:(aR Pg w K mg base k c 9 ("cut_to_rate") 2))(g:(aR Pg w K mg base k c 18 ("found_clocks") 2))(h:(aR Pg w K mg base k c 7 ("stream_with") 3)):(ou Pg w K mg base Gs (k+1) f fd ["net","rate"] (M5 K 2 (λargs=>enter c n f19 args))):=by
 (refine XC a afr rfl rfl λcdv A outer s H E hr=>?_;have nd:=(afr).nd);refine aM ?_ ?_;. ((with_reducible refine oE (i:=2) ?_ ?_ ?_ ?_ ?_ ?_);exact nd;exact rfl;exact oi;rotate_left;rfl;exact oi;exact ao cC (cj (cV aa aO rfl)) (cz rfl (by rfl) aW (aq (sv 0) aa)))
 lia;.exact(nD du hc (cO (dh e hr (aU (dh b hr (aU (sv 0) aA rfl)) (aU (sv 1) aA rfl) rfl))) (fj hc (aV (aJ (i:=3) nd rfl oi oi) (aV (aJ (i:=4) nd rfl oi oi) dI))) (nH rfl (dq _ _ (dq _ _ j6 4) 3)) (by lia;(· ((with_reducible refine oE (i:=2) ?_ ?_ ?_ ?_ ?_ ?_);exact nd;exact rfl;exact oi;rotate_left;rfl;exact oi;exact dh h hr (aU (sv 2) (aU (sv 3) (aU (sv 4) aA rfl) rfl) rfl)));exact au))
 lia;. ((with_reducible refine S8 ?_);exact cM (cV (sv 2) (cV (dh g hr (aU (sv 0) (aU (sv 2) aA rfl) rfl)) aO rfl) rfl))
 exact au
noncomputable abbrev s20:eJ:=top 37
noncomputable def b20:List S:=[.ret (.comp (.call 10 [↑0]) 1 [2] true (some (.cmp .le (.idx ↑2 (P.con (.int 0))) ↑1)) ↑2)]
noncomputable def f20:Fd:=⟨2,2,b20⟩
theorem aeB:aK ["net","last"] ["net","last"] (az s20):=(⟨rfl,rfl,rfl,by decide+kernel,rfl,by decide+kernel,by decide+kernel⟩)
include cl in
theorem d20(a:gb K "bends_by" "bends_by" s20 f fd)(b:(aR Pg w K mg base k c 10 ("bends_of") 1)):(ou Pg w K mg base Gs (k+1) f fd ["net","last"] (M5 K 2 (λargs=>enter c n f20 args))):=by
 (refine XC a aeB rfl rfl λcdv A outer s H E hr=>?_;have nd:=(aeB).nd);refine aM ?_ ?_;. ((with_reducible refine S8 ?_);exact dF (N':=["net","last","bend"]) hc (sH rfl (by rfl)) (cO (dh b hr (aU (sv 0) aA rfl))) (λ_ _ _ _ _=>aJ (i:=2) ‹["net","last","bend"]› rfl (cE rfl) (dA rfl)) (cu (dw)) (λ_ _ _ _ _=>Bx (dj nQ (aq (sv 2) aa) (sv 1) (bU _))) (λ_ _ _ _ _=>(sv 2)))
 exact au
noncomputable abbrev s21:eJ:=top 38
noncomputable def b21:List S:=[.ret (.blt .sum [.comp ↑0 2 [2,3] false (some (.cmp .le ↑2 ↑1)) (.bin .mul ↑3 (.bin .add (.bin .sub ↑1 ↑2) (P.con (.int 1))))])]
noncomputable def f21:Fd:=⟨2,2,b21⟩
theorem aeF:aK ["bends","last"] ["bends","last"] (az s21):=(⟨rfl,rfl,rfl,by decide+kernel,rfl,by decide+kernel,by decide+kernel⟩)
include cl in
theorem d21(a:gb K "most_of" "most_of" s21 f fd)(jk:mg "sum"=none):(ou Pg w K mg base Gs (k+1) f fd ["bends","last"] (M5 K 2 (λargs=>enter c n f21 args))):=by
 (refine XC a aeF rfl rfl λcdv A outer s H E hr=>?_;have nd:=(aeF).nd);refine aM ?_ ?_;. ((with_reducible refine S8 ?_);exact u9 rfl hc (by rfl) jk (dF (N':=["bends","last","length","loads"]) hc (sH rfl (by rfl)) (cO (sv 0)) (λ_ _ _ _ _=>fj hc (aV (aJ (i:=2) ‹["bends","last","length","loads"]› rfl (cE rfl) (dA rfl)) (aV (aJ (i:=3) ‹["bends","last","length","loads"]› rfl (cE rfl) (dA rfl)) dI))) (iU rfl (cI (show 2<=2 by decide) (cI (show 2<=3 by decide) iZ))) (λ_ _ _ _ _=>Bx (dj nQ (sv 2) (sv 1) (bU _))) (λ_ _ _ _ _=>(ao cC (sv 3) (ao aF (ao bV (sv 1) (sv 2)) aa)))))
 exact au
noncomputable abbrev s22:eJ:=top 39
noncomputable def b22:List S:=[.ret (.call 21 [.call 10 [↑0],↑1])]
noncomputable def f22:Fd:=⟨2,2,b22⟩
theorem aeU:aK ["net","last"] ["net","last"] (az s22):=(⟨rfl,rfl,rfl,by decide+kernel,rfl,by decide+kernel,by decide+kernel⟩)
include cl in
theorem d22(a:gb K "most_by" "most_by" s22 f fd)(b:(aR Pg w K mg base k c 10 ("bends_of") 1))(e:(aR Pg w K mg base k c 21 ("most_of") 2)):(ou Pg w K mg base Gs (k+1) f fd ["net","last"] (M5 K 2 (λargs=>enter c n f22 args))):=by
 (refine XC a aeU rfl rfl λcdv A outer s H E hr=>?_;have nd:=(aeU).nd);refine aM ?_ ?_;. ((with_reducible refine S8 ?_);exact dh e hr (aU (dh b hr (aU (sv 0) aA rfl)) (aU (sv 1) aA rfl) rfl))
 exact au
noncomputable abbrev s23:eJ:=top 40
noncomputable def b23:List S:=[.ret (.blt .sum [.comp (.call 20 [↑0,↑1]) 2 [2,3] false none ↑3])]
noncomputable def f23:Fd:=⟨2,2,b23⟩
theorem aeD:aK ["net","last"] ["net","last"] (az s23):=(⟨rfl,rfl,rfl,by decide+kernel,rfl,by decide+kernel,by decide+kernel⟩)
include cl in
theorem d23(a:gb K "rate_by" "rate_by" s23 f fd)(jk:mg "sum"=none)(b:(aR Pg w K mg base k c 20 ("bends_by") 2)):(ou Pg w K mg base Gs (k+1) f fd ["net","last"] (M5 K 2 (λargs=>enter c n f23 args))):=by
 (refine XC a aeD rfl rfl λcdv A outer s H E hr=>?_;have nd:=(aeD).nd);refine aM ?_ ?_;. ((with_reducible refine S8 ?_);exact u9 rfl hc (by rfl) jk (dF (N':=["net","last","length","loads"]) hc (sH rfl (by rfl)) (cO (dh b hr (aU (sv 0) (aU (sv 1) aA rfl) rfl))) (λ_ _ _ _ _=>fj hc (aV (aJ (i:=2) ‹["net","last","length","loads"]› rfl (cE rfl) (dA rfl)) (aV (aJ (i:=3) ‹["net","last","length","loads"]› rfl (cE rfl) (dA rfl)) dI))) (iU rfl (cI (show 2<=2 by decide) (cI (show 2<=3 by decide) iZ))) (λ_ _ _ _ _=>bT) (λ_ _ _ _ _=>(sv 3))))
 exact au
noncomputable abbrev s24:eJ:=top 41
noncomputable def b24:List S:=[.ret (.idx (.call 19 [↑0,.call 23 [↑0,↑1]]) (P.con (.int 0)))]
noncomputable def f24:Fd:=⟨2,2,b24⟩
theorem aeA:aK ["net","last"] ["net","last"] (az s24):=(⟨rfl,rfl,rfl,by decide+kernel,rfl,by decide+kernel,by decide+kernel⟩)
include cl in
theorem d24(a:gb K "stream_by" "stream_by" s24 f fd)(b:(aR Pg w K mg base k c 19 ("light_stream") 2))(e:(aR Pg w K mg base k c 23 ("rate_by") 2)):(ou Pg w K mg base Gs (k+1) f fd ["net","last"] (M5 K 2 (λargs=>enter c n f24 args))):=by
 (refine XC a aeA rfl rfl λcdv A outer s H E hr=>?_;have nd:=(aeA).nd);refine aM ?_ ?_;. ((with_reducible refine S8 ?_);exact aq (dh b hr (aU (sv 0) (aU (dh e hr (aU (sv 0) (aU (sv 1) aA rfl) rfl)) aA rfl) rfl)) aa)
 exact au
noncomputable abbrev s25:eJ:=top 44
noncomputable def b25:List S:=[.ifs (.cmp .gt (.blt .len [.idx ↑0 (P.con (.int 1))]) (.glob "MOST_LANED" (.int 6))) [.bad] []]
noncomputable def f25:Fd:=⟨1,1,b25⟩
theorem aer:aK ["net"] ["net"] (az s25):=(⟨rfl,rfl,rfl,by decide+kernel,rfl,by decide+kernel,by decide+kernel⟩)
include cl in
theorem d25(a:gb K "few_enough" "few_enough" s25 f fd)(aW:mg "len"=none)(jg:∃t,mg "MOST_LANED"=some (eh 6 t)):(ou Pg w K mg base Gs (k+1) f fd ["net"] (M5 K 1 (λargs=>enter c n f25 args))):=by
 (refine XC a aer rfl rfl λcdv A outer s H E hr=>?_;have nd:=(aer).nd);refine aM ?_ ?_;. (with_reducible refine gC ?_ ?_ ?_);exact dj jO (cz rfl (by rfl) aW (aq (sv 0) aa)) (iH (by rfl) jg.choose_spec (by rfl)) (bU _);(· lia;exact nU;exact au);exact au
 exact au
noncomputable abbrev s26:eJ:=top 45
noncomputable def b26:List S:=[.asg 3 (.lA 2 (.idx ↑0 (P.con (.int 1))) 2 [4,5] false none (.tup [.idx ↑4 (P.con (.int 1)),.idx ↑4 (P.con (.int 0)),↑5,.idx ↑4 (P.con (.int 3))])),.ret (.tup [.idx ↑0 (P.con (.int 0)),.bin .add (.idx (.call 17 [↑0,↑1]) (P.con (.int 1))) (.blt .tuple [↑3])])]
noncomputable def f26:Fd:=⟨3,4,b26⟩
theorem ac6:aK ["net","forth","back","turned"] ["net","forth","back"] (az s26):=(⟨rfl,rfl,rfl,by decide+kernel,rfl,by decide+kernel,by decide+kernel⟩)
include cl in
theorem d26(a:gb K "lanes_net" "lanes_net" s26 f fd)(bG:mg "tuple"=none)(gJ:mg "zip"=none)(b:(aR Pg w K mg base k c 17 ("with_rooms") 2)):(ou Pg w K mg base Gs (k+1) f fd ["net","forth","back"] (M5 K 3 (λargs=>enter c n f26 args))):=by
 (refine XC a ac6 rfl rfl λcdv A outer s H E hr=>?_;have nd:=(ac6).nd);refine aM ?_ ?_;.exact(Bh (i:=3) (N':=["net","forth","back","turned","way","room"]) hc nd rfl oi (sH rfl (by rfl)) (pU (i:=2) rfl (by rfl) gJ rfl (aq (sv 0) aa) (sv 2)) (λ_ _ _ _ _=>fj hc (aV (aJ (i:=4) ‹["net","forth","back","turned","way","room"]› rfl (cE rfl) (dA rfl)) (aV (aJ (i:=5) ‹["net","forth","back","turned","way","room"]› rfl (cE rfl) (dA rfl)) dI))) (iU rfl (cI (show 4<=4 by decide) (cI (show 4<=5 by decide) iZ))) (λ_ _ _ _ _=>bT) (λ_ _ _ _ _=>(cM (cV (aq (sv 4) aa) (cV (aq (sv 4) aa) (cV (sv 5) (cV (aq (sv 4) aa) aO rfl) rfl) rfl) rfl))) (by rfl) (by intro _;rfl) (cE rfl))
 lia;. ((with_reducible refine S8 ?_);exact cM (cV (aq (sv 0) aa) (cV (ao aF (aq (dh b hr (aU (sv 0) (aU (sv 1) aA rfl) rfl)) aa) (gF rfl (by rfl) bG (sv 3))) aO rfl) rfl))
 exact au
noncomputable abbrev s27:eJ:=top 46
noncomputable def b27:List S:=[.expr (.call 25 [↑0]),.asg 1 (.comp (.idx ↑0 (P.con (.int 1))) 1 [2] true none (.idx ↑2 (P.con (.int 2)))),.ret (.call 26 [↑0,.vw 1,.vw 1])]
noncomputable def f27:Fd:=⟨1,2,b27⟩
theorem aeQ:aK ["net","rooms"] ["net"] (az s27):=(⟨rfl,rfl,rfl,by decide+kernel,rfl,by decide+kernel,by decide+kernel⟩)
include cl in
theorem d27(a:gb K "open_net" "open_net" s27 f fd)(b:(aR Pg w K mg base k c 25 ("few_enough") 1))(e:(aR Pg w K mg base k c 26 ("lanes_net") 3)):(ou Pg w K mg base Gs (k+1) f fd ["net"] (M5 K 1 (λargs=>enter c n f27 args))):=by
 (refine XC a aeQ rfl rfl λcdv A outer s H E hr=>?_;have nd:=(aeQ).nd);refine aM ?_ ?_;.exact(CK (dh b hr (aU (sv 0) aA rfl)))
 lia;.exact(pJ (i:=1) (N':=["net","rooms","way"]) hc nd rfl oi (sH rfl (by rfl)) (cO (aq (sv 0) aa)) (λ_ _ _ _ _=>aJ (i:=2) ‹["net","rooms","way"]› rfl (cE rfl) (dA rfl)) (cu (dw)) (λ_ _ _ _ _=>bT) (λ_ _ _ _ _=>(aq (sv 2) aa)) (by rfl) (by intro _;rfl) (cE rfl))
 lia;. ((with_reducible refine S8 ?_);exact dh e hr (aU (sv 0) (aU (qe (i:=1) rfl (by (first|exact cE rfl|exact dA (cE rfl)))) (aU (qe (i:=1) rfl (by (first|exact cE rfl|exact dA (cE rfl)))) aA rfl) rfl) rfl))
 exact au
noncomputable abbrev s28:eJ:=top 47
noncomputable def b28:List S:=[.ret (.and (.cmp .eq (.blt .len [↑1]) (.blt .len [.idx ↑0 (P.con (.int 1))])) (.call 16 [↑0,↑1]))]
noncomputable def Yv:Fd:=⟨2,2,b28⟩
theorem afy:aK ["net","forth"] ["net","forth"] (az s28):=(⟨rfl,rfl,rfl,by decide+kernel,rfl,by decide+kernel,by decide+kernel⟩)
include cl in
theorem d28(a:gb K "is_forth" "is_forth" s28 f fd)(aW:mg "len"=none)(b:(aR Pg w K mg base k c 16 ("within_rooms") 2)):(ou Pg w K mg base Gs (k+1) f fd ["net","forth"] (M5 K 2 (λargs=>enter c n Yv args))):=by
 (refine XC a afy rfl rfl λcdv A outer s H E hr=>?_;have nd:=(afy).nd);refine aM ?_ ?_;. ((with_reducible refine S8 ?_);exact gZ (lH (lE (bM hr)) (cz rfl (by rfl) aW (sv 1)) (cz rfl (by rfl) aW (aq (sv 0) aa)) (bU _)) (m6 (dh b hr (aU (sv 0) (aU (sv 1) aA rfl) rfl))))
 exact au
noncomputable abbrev s29:eJ:=top 48
noncomputable def b29:List S:=[.expr (.call 25 [↑0]),.ifs (.not (.call 28 [↑0,↑1])) [.bad] [],.ret (.call 26 [↑0,↑1,.lA 1 (.idx ↑0 (P.con (.int 1))) 2 [2,3] false none (.bin .sub (.idx ↑2 (P.con (.int 2))) ↑3)])]
noncomputable def f29:Fd:=⟨2,2,b29⟩
theorem ac5:aK ["net","forth"] ["net","forth"] (az s29):=(⟨rfl,rfl,rfl,by decide+kernel,rfl,by decide+kernel,by decide+kernel⟩)
include cl in
theorem d29(a:gb K "laned_net" "laned_net" s29 f fd)(gJ:mg "zip"=none)(b:(aR Pg w K mg base k c 25 ("few_enough") 1))(e:(aR Pg w K mg base k c 28 ("is_forth") 2))(g:(aR Pg w K mg base k c 26 ("lanes_net") 3)):(ou Pg w K mg base Gs (k+1) f fd ["net","forth"] (M5 K 2 (λargs=>enter c n f29 args))):=by
 (refine XC a ac5 rfl rfl λcdv A outer s H E hr=>?_;have nd:=(ac5).nd);refine aM ?_ ?_;.exact(CK (dh b hr (aU (sv 0) aA rfl)))
 lia;. (with_reducible refine gC ?_ ?_ ?_);exact qX (iu (dh e hr (aU (sv 0) (aU (sv 1) aA rfl) rfl)));(· lia;exact nU;exact au);exact au
 lia;. ((with_reducible refine S8 ?_);exact dh g hr (aU (sv 0) (aU (sv 1) (aU (xK (N':=["net","forth","way","room"]) hc (sH rfl (by rfl)) (pU (i:=1) rfl (by rfl) gJ rfl (aq (sv 0) aa) (sv 1)) (λ_ _ _ _ _=>fj hc (aV (aJ (i:=2) ‹["net","forth","way","room"]› rfl (cE rfl) (dA rfl)) (aV (aJ (i:=3) ‹["net","forth","way","room"]› rfl (cE rfl) (dA rfl)) dI))) (iU rfl (cI (show 2<=2 by decide) (cI (show 2<=3 by decide) iZ))) (λ_ _ _ _ _=>bT) (λ_ _ _ _ _=>(ao bV (aq (sv 2) aa) (sv 3)))) aA rfl) rfl) rfl))
 exact au
noncomputable abbrev s30:eJ:=top 49
noncomputable def b30:List S:=[.asg 2 (.slice (.call 24 [.call 27 [↑0],↑1]) (.blt .len [.idx ↑0 (P.con (.int 1))]) (.con .non)),.ret (.blt .tuple [.lA 2 (.idx ↑0 (P.con (.int 1))) 2 [3,4] false none (.bin .sub (.idx ↑3 (P.con (.int 2))) ↑4)])]
noncomputable def f30:Fd:=⟨2,3,b30⟩
theorem adK:aK ["net","last","back"] ["net","last"] (az s30):=(⟨rfl,rfl,rfl,by decide+kernel,rfl,by decide+kernel,by decide+kernel⟩)
include cl in
theorem d30(a:gb K "best_forth" "best_forth" s30 f fd)(aW:mg "len"=none)(bG:mg "tuple"=none)(gJ:mg "zip"=none)(b:(aR Pg w K mg base k c 27 ("open_net") 1))(e:(aR Pg w K mg base k c 24 ("stream_by") 2)):(ou Pg w K mg base Gs (k+1) f fd ["net","last"] (M5 K 2 (λargs=>enter c n f30 args))):=by
 (refine XC a adK rfl rfl λcdv A outer s H E hr=>?_;have nd:=(adK).nd);refine aM ?_ ?_;. ((with_reducible refine oE (i:=2) ?_ ?_ ?_ ?_ ?_ ?_);exact nd;exact rfl;exact oi;rotate_left;rfl;exact oi;exact fJ (dh e hr (aU (dh b hr (aU (sv 0) aA rfl)) (aU (sv 1) aA rfl) rfl)) (gP (cz rfl (by rfl) aW (aq (sv 0) aa))) gR)
 lia;. ((with_reducible refine S8 ?_);exact gF rfl (by rfl) bG (xK (N':=["net","last","back","way","loads"]) hc (sH rfl (by rfl)) (pU (i:=2) rfl (by rfl) gJ rfl (aq (sv 0) aa) (sv 2)) (λ_ _ _ _ _=>fj hc (aV (aJ (i:=3) ‹["net","last","back","way","loads"]› rfl (cE rfl) (dA rfl)) (aV (aJ (i:=4) ‹["net","last","back","way","loads"]› rfl (cE rfl) (dA rfl)) dI))) (iU rfl (cI (show 3<=3 by decide) (cI (show 3<=4 by decide) iZ))) (λ_ _ _ _ _=>bT) (λ_ _ _ _ _=>(ao bV (aq (sv 3) aa) (sv 4)))))
 exact au
noncomputable abbrev s31:eJ:=top 50
noncomputable def b31:List S:=[.asg 3 (.call 22 [.call 27 [↑0],↑1]),.ret (.and (.call 28 [↑0,↑2]) (.cmp .eq (.call 22 [.call 29 [↑0,↑2],↑1]) ↑3))]
noncomputable def f31:Fd:=⟨3,4,b31⟩
theorem ac8:aK ["net","last","forth","most"] ["net","last","forth"] (az s31):=(⟨rfl,rfl,rfl,by decide+kernel,rfl,by decide+kernel,by decide+kernel⟩)
include cl in
theorem d31(b:gb K "forth_right" "forth_right" s31 f fd)(e:(aR Pg w K mg base k c 28 ("is_forth") 2))(g:(aR Pg w K mg base k c 29 ("laned_net") 2))(a:(aR Pg w K mg base k c 22 ("most_by") 2))(h:(aR Pg w K mg base k c 27 ("open_net") 1)):(ou Pg w K mg base Gs (k+1) f fd ["net","last","forth"] (M5 K 3 (λargs=>enter c n f31 args))):=by
 (refine XC b ac8 rfl rfl λcdv A outer s H E hr=>?_;have nd:=(ac8).nd);refine aM ?_ ?_;. ((with_reducible refine oE (i:=3) ?_ ?_ ?_ ?_ ?_ ?_);exact nd;exact rfl;exact oi;rotate_left;rfl;exact oi;exact dh a hr (aU (dh h hr (aU (sv 0) aA rfl)) (aU (sv 1) aA rfl) rfl))
 lia;. ((with_reducible refine S8 ?_);exact gZ (dh e hr (aU (sv 0) (aU (sv 2) aA rfl) rfl)) (m6 (lH (lE (bM hr)) (dh a hr (aU (dh g hr (aU (sv 0) (aU (sv 2) aA rfl) rfl)) (aU (sv 1) aA rfl) rfl)) (sv 3) (bU _))))
 exact au
noncomputable abbrev s32:eJ:=top 52
noncomputable def b32:List S:=[.asg 2 (.slice ↑0 (.con .non) (P.con (.int 63))),.ifs (.cmp .eq ↑2 (.lst [])) [.asg 2 (.lst [(P.con (.int 0))])] [],.asg 3 (.comp ↑2 1 [9] true none (.blt .abs [↑9])),.asg 4 (.lst []),.gG (.rY (P.con (.int 0)) ↑1) [5] true [.asg 6 (.bin .mod ↑5 (.blt .len [↑2])),.ifs (.and (.cmp .ge (.blt .abs [.idx ↑2 ↑6]) (.bin .pow (P.con (.int 10)) (P.con (.int 18)))) (.cmp .gt (.idx ↑3 ↑6) (P.con (.int 0)))) [.app 4 (.bin .mod (.idx ↑3 ↑6) (.bin .pow (P.con (.int 10)) (P.con (.int 6)))),.O1 3 ↑6 (.bin .fdiv (.idx ↑3 ↑6) (.bin .pow (P.con (.int 10)) (P.con (.int 6))))] [.asg 7 (.bin .add (.bin .add (.bin .mul (.bin .mul (P.con (.int 977)) ↑5) ↑5) (.bin .mul (P.con (.int 131)) ↑5)) (P.con (.int 1))),.asg 8 (.bin .mod (.bin .add (.bin .mul (.bin .mod (.idx ↑2 ↑6) (P.con (.int 1000000007))) (P.con (.int 48271))) ↑7) (P.con (.int 2147483647))),.asg 8 (.bin .mod (.bin .mul ↑8 ↑8) (P.con (.int 2147483647))),.app 4 (.bin .mod (.bin .fdiv (.bin .mod (.bin .mul (.bin .add ↑8 (.bin .mul (P.con (.int 40692)) (.bin .add ↑5 (P.con (.int 3))))) (P.con (.int 69621))) (P.con (.int 2147483629))) (P.con (.int 8))) (.bin .pow (P.con (.int 10)) (P.con (.int 6))))]],.ret ↑4]
noncomputable def f32:Fd:=⟨2,9,b32⟩
theorem adL:aK ["script","many","cells","left","found","k","at","step","mixed"] ["script","many"] (az s32):=(⟨rfl,rfl,rfl,by decide+kernel,rfl,by decide+kernel,by decide+kernel⟩)
include cl in
theorem d32(a:gb K "_law_all" "_law_all" s32 f fd)(DN:mg "abs"=none)(aW:mg "len"=none)(aZ:mg "range"=none):(ou Pg w K mg base Gs (k+1) f fd ["script","many"] (M5 K 2 (λargs=>enter c n f32 args))):=by
 (refine XC a adL rfl rfl λcdv A outer s H E hr=>?_;have nd:=(adL).nd);refine aM ?_ ?_;. ((with_reducible refine oE (i:=2) ?_ ?_ ?_ ?_ ?_ ?_);exact nd;exact rfl;exact oi;rotate_left;rfl;exact oi;exact fJ (sv 0) gR (gP aa))
 lia;. (with_reducible refine gC ?_ ?_ ?_);exact dj (lE (bM hr)) (sv 2) (cj aO) (bU _);(· lia;(· ((with_reducible refine oE (i:=2) ?_ ?_ ?_ ?_ ?_ ?_);exact nd;exact rfl;exact oi;rotate_left;rfl;exact oi;exact cj (cV aa aO rfl)));exact au);exact au
 lia;.exact(pJ (i:=3) (N':=["script","many","cells","left","found","k","at","step","mixed","cell"]) hc nd rfl oi (sH rfl (by rfl)) (cO (sv 2)) (λ_ _ _ _ _=>aJ (i:=9) ‹["script","many","cells","left","found","k","at","step","mixed","cell"]› rfl (cE rfl) (dA rfl)) (cu (dw)) (λ_ _ _ _ _=>bT) (λ_ _ _ _ _=>(Ht rfl (by rfl) DN (sv 9))) (by rfl) (by intro _;rfl) (cE rfl))
 lia;. ((with_reducible refine oE (i:=4) ?_ ?_ ?_ ?_ ?_ ?_);exact nd;exact rfl;exact oi;rotate_left;rfl;exact oi;exact cj aO)
 lia;. ((with_reducible refine uN (i:=5) ?_ ?_ ?_ ?_ ?_ ?_ ?_ ?_ ?_);exact du;exact hc;exact nd;exact rfl;exact oi;exact eX rfl (by rfl) aZ (sv 1);rotate_left;(· intro _;rfl);exact oi);(· lia;(· ((with_reducible refine oE (i:=6) ?_ ?_ ?_ ?_ ?_ ?_);exact nd;exact rfl;exact oi;rotate_left;rfl;exact oi;exact ao dH (sv 5) (cz rfl (by rfl) aW (sv 2))));(· lia;(· (with_reducible refine gC ?_ ?_ ?_);exact SW.st (Ti (dj Sd (Ht rfl (by rfl) DN (aq (sv 2) (sv 6))) (ao fW aa aa) (bU _)) (M6 (dj jO (aq (sv 3) (sv 6)) aa (bU _))));(· lia;exact bZ (k:=4) rfl (by (first|exact cE rfl|exact dA (cE rfl))) (ao dH (aq (sv 3) (sv 6)) (ao fW aa aa));(· lia;exact Ni (k:=3) rfl (by (first|exact cE rfl|exact dA (cE rfl))) (sv 6) (ao xx (aq (sv 3) (sv 6)) (ao fW aa aa));exact au));(· lia;(· ((with_reducible refine oE (i:=7) ?_ ?_ ?_ ?_ ?_ ?_);exact nd;exact rfl;exact oi;rotate_left;rfl;exact oi;exact ao aF (ao aF (ao cC (ao cC aa (sv 5)) (sv 5)) (ao cC aa (sv 5))) aa));(· lia;(· ((with_reducible refine oE (i:=8) ?_ ?_ ?_ ?_ ?_ ?_);exact nd;exact rfl;exact oi;rotate_left;rfl;exact oi;exact ao dH (ao aF (ao cC (ao dH (aq (sv 2) (sv 6)) aa) aa) (sv 7)) aa));(· lia;(· ((with_reducible refine oE (i:=8) ?_ ?_ ?_ ?_ ?_ ?_);exact nd;exact rfl;exact oi;rotate_left;rfl;exact oi;exact ao dH (ao cC (sv 8) (sv 8)) aa));(· lia;exact bZ (k:=4) rfl (by (first|exact cE rfl|exact dA (cE rfl))) (ao dH (ao xx (ao dH (ao cC (ao aF (sv 8) (ao cC aa (ao aF (sv 5) aa))) aa) aa) aa) (ao fW aa aa));exact au)))));exact au))
 lia;. ((with_reducible refine S8 ?_);exact sv 4)
 exact au
noncomputable abbrev s33:eJ:=top 53
noncomputable def b33:List S:=[.ret (.bin .mod (.idx ↑0 (.bin .mod ↑1 (.blt .len [↑0]))) ↑2)]
noncomputable def f33:Fd:=⟨3,3,b33⟩
theorem adU:aK ["draws","at","many"] ["draws","at","many"] (az s33):=(⟨rfl,rfl,rfl,by decide+kernel,rfl,by decide+kernel,by decide+kernel⟩)
include cl in
theorem d33(a:gb K "_law_draw" "_law_draw" s33 f fd)(aW:mg "len"=none):(ou Pg w K mg base Gs (k+1) f fd ["draws","at","many"] (M5 K 3 (λargs=>enter c n f33 args))):=by
 (refine XC a adU rfl rfl λcdv A outer s H E hr=>?_;have nd:=(adU).nd);refine aM ?_ ?_;. ((with_reducible refine S8 ?_);exact ao dH (aq (sv 0) (ao dH (sv 1) (cz rfl (by rfl) aW (sv 0)))) (sv 2))
 exact au
noncomputable abbrev s34:eJ:=top 54
noncomputable def b34:List S:=[.asg 3 (.bin .mul (.idx ↑0 (.bin .mod ↑1 (.blt .len [↑0]))) (.bin .pow (P.con (.int 10)) (P.con (.int 6)))),.ret (.bin .mod (.bin .add ↑3 (.idx ↑0 (.bin .mod (.bin .add ↑1 (P.con (.int 1))) (.blt .len [↑0])))) ↑2)]
noncomputable def f34:Fd:=⟨3,4,b34⟩
theorem afs:aK ["draws","at","many","far"] ["draws","at","many"] (az s34):=(⟨rfl,rfl,rfl,by decide+kernel,rfl,by decide+kernel,by decide+kernel⟩)
include cl in
theorem d34(a:gb K "_law_wide" "_law_wide" s34 f fd)(aW:mg "len"=none):(ou Pg w K mg base Gs (k+1) f fd ["draws","at","many"] (M5 K 3 (λargs=>enter c n f34 args))):=by
 (refine XC a afs rfl rfl λcdv A outer s H E hr=>?_;have nd:=(afs).nd);refine aM ?_ ?_;. ((with_reducible refine oE (i:=3) ?_ ?_ ?_ ?_ ?_ ?_);exact nd;exact rfl;exact oi;rotate_left;rfl;exact oi;exact ao cC (aq (sv 0) (ao dH (sv 1) (cz rfl (by rfl) aW (sv 0)))) (ao fW aa aa))
 lia;. ((with_reducible refine S8 ?_);exact ao dH (ao aF (sv 3) (aq (sv 0) (ao dH (ao aF (sv 1) aa) (cz rfl (by rfl) aW (sv 0))))) (sv 2))
 exact au
noncomputable abbrev s35:eJ:=top 55
noncomputable def b35:List S:=[.asg 4 (.bin .add (P.con (.int 2)) (.call 33 [↑0,↑1,.bin .sub ↑2 (P.con (.int 1))])),.asg 5 (.cmp .eq (.call 33 [↑0,.bin .add ↑1 (P.con (.int 1)),(P.con (.int 4))]) (P.con (.int 0))),.asg 6 (.lst []),.gG (.rY (P.con (.int 0)) (.call 33 [↑0,.bin .add ↑1 (P.con (.int 2)),.bin .add ↑3 (P.con (.int 1))])) [7] true [.asg 8 (.bin .add (.bin .add ↑1 (P.con (.int 10))) (.bin .mul (P.con (.int 10)) ↑7)),.asg 9 (.call 33 [↑0,↑8,↑4]),.asg 10 (.bin .mod (.bin .add (.bin .add ↑9 (P.con (.int 1))) (.call 33 [↑0,.bin .add ↑8 (P.con (.int 1)),.bin .sub ↑4 (P.con (.int 1))])) ↑4),.ifs (.cmp .eq (.call 33 [↑0,.bin .add ↑8 (P.con (.int 2)),(P.con (.int 2))]) (P.con (.int 0))) [.par 9 10 (.blt .min2 [↑9,↑10]) (.blt .max2 [↑9,↑10])] [],.asg 11 (.idx (.lst [(P.con (.int 0)),(P.con (.int 1)),(P.con (.int 2)),(P.con (.int 3)),(P.con (.int 4)),(P.con (.int 1)),(P.con (.int 2)),(P.con (.int 7))]) (.call 33 [↑0,.bin .add ↑8 (P.con (.int 3)),(P.con (.int 8))])),.asg 12 (.bin .add (P.con (.int 1)) (.call 33 [↑0,.bin .add ↑8 (P.con (.int 4)),(P.con (.int 4))])),.ifs ↑5 [.asg 11 (.idx (.lst [↑11,.bin .sub (.bin .pow (P.con (.int 10)) (P.con (.int 9))) ↑11,.call 34 [↑0,.bin .add ↑8 (P.con (.int 5)),.bin .add (.bin .pow (P.con (.int 10)) (P.con (.int 9))) (P.con (.int 1))]]) (.call 33 [↑0,.bin .add ↑8 (P.con (.int 7)),(P.con (.int 3))])),.asg 12 (.idx (.lst [↑12,.bin .sub (.bin .pow (P.con (.int 10)) (P.con (.int 6))) ↑12,.bin .add (P.con (.int 1)) (.call 33 [↑0,.bin .add ↑8 (P.con (.int 8)),.bin .pow (P.con (.int 10)) (P.con (.int 6))])]) (.call 33 [↑0,.bin .add ↑8 (P.con (.int 9)),(P.con (.int 3))]))] [],.app 6 (.tup [↑9,↑10,↑11,↑12])],.ret (.call 15 [↑4,↑6])]
noncomputable def f35:Fd:=⟨4,13,b35⟩
theorem aep:aK ["draws","at","places","most","many","wide","ways","k","spot","one","other","room","hours"] ["draws","at","places","most"] (az s35):=(⟨rfl,rfl,rfl,by decide+kernel,rfl,by decide+kernel,by decide+kernel⟩)
include cl in
theorem d35(b:gb K "_law_net" "_law_net" s35 f fd)(sG:mg "max"=none)(jl:mg "min"=none)(aZ:mg "range"=none)(a:(aR Pg w K mg base k c 33 ("_law_draw") 3))(e:(aR Pg w K mg base k c 34 ("_law_wide") 3))(g:(aR Pg w K mg base k c 15 ("made_net") 2)):(ou Pg w K mg base Gs (k+1) f fd ["draws","at","places","most"] (M5 K 4 (λargs=>enter c n f35 args))):=by
 (refine XC b aep rfl rfl λcdv A outer s H E hr=>?_;have nd:=(aep).nd);refine aM ?_ ?_;. ((with_reducible refine oE (i:=4) ?_ ?_ ?_ ?_ ?_ ?_);exact nd;exact rfl;exact oi;rotate_left;rfl;exact oi;exact ao aF aa (dh a hr (aU (sv 0) (aU (sv 1) (aU (ao bV (sv 2) aa) aA rfl) rfl) rfl)))
 lia;. ((with_reducible refine oE (i:=5) ?_ ?_ ?_ ?_ ?_ ?_);exact nd;exact rfl;exact oi;rotate_left;rfl;exact oi;exact lH (lE (bM hr)) (dh a hr (aU (sv 0) (aU (ao aF (sv 1) aa) (aU aa aA rfl) rfl) rfl)) aa (bU _))
 lia;. ((with_reducible refine oE (i:=6) ?_ ?_ ?_ ?_ ?_ ?_);exact nd;exact rfl;exact oi;rotate_left;rfl;exact oi;exact cj aO)
 lia;. ((with_reducible refine uN (i:=7) ?_ ?_ ?_ ?_ ?_ ?_ ?_ ?_ ?_);exact du;exact hc;exact nd;exact rfl;exact oi;exact eX rfl (by rfl) aZ (dh a hr (aU (sv 0) (aU (ao aF (sv 1) aa) (aU (ao aF (sv 3) aa) aA rfl) rfl) rfl));rotate_left;(· intro _;rfl);exact oi);(· lia;(· ((with_reducible refine oE (i:=8) ?_ ?_ ?_ ?_ ?_ ?_);exact nd;exact rfl;exact oi;rotate_left;rfl;exact oi;exact ao aF (ao aF (sv 1) aa) (ao cC aa (sv 7))));(· lia;(· ((with_reducible refine oE (i:=9) ?_ ?_ ?_ ?_ ?_ ?_);exact nd;exact rfl;exact oi;rotate_left;rfl;exact oi;exact dh a hr (aU (sv 0) (aU (sv 8) (aU (sv 4) aA rfl) rfl) rfl)));(· lia;(· ((with_reducible refine oE (i:=10) ?_ ?_ ?_ ?_ ?_ ?_);exact nd;exact rfl;exact oi;rotate_left;rfl;exact oi;exact ao dH (ao aF (ao aF (sv 9) aa) (dh a hr (aU (sv 0) (aU (ao aF (sv 8) aa) (aU (ao bV (sv 4) aa) aA rfl) rfl) rfl))) (sv 4)));(· lia;(· (with_reducible refine gC ?_ ?_ ?_);exact dj (lE (bM hr)) (dh a hr (aU (sv 0) (aU (ao aF (sv 8) aa) (aU aa aA rfl) rfl) rfl)) aa (bU _);(· lia;exact Vu (i:=9) (j:=10) hc nd rfl rfl (by decide) rfl rfl (Dm rfl hc (by rfl) jl (cV (sv 9) (cV (sv 10) aO rfl) rfl)) (vQ rfl hc (by rfl) sG (cV (sv 9) (cV (sv 10) aO rfl) rfl));exact au);exact au);(· lia;(· ((with_reducible refine oE (i:=11) ?_ ?_ ?_ ?_ ?_ ?_);exact nd;exact rfl;exact oi;rotate_left;rfl;exact oi;exact aq (cj (De [0,1,2,3,4,1,2,7] rfl aO)) (dh a hr (aU (sv 0) (aU (ao aF (sv 8) aa) (aU aa aA rfl) rfl) rfl))));(· lia;(· ((with_reducible refine oE (i:=12) ?_ ?_ ?_ ?_ ?_ ?_);exact nd;exact rfl;exact oi;rotate_left;rfl;exact oi;exact ao aF aa (dh a hr (aU (sv 0) (aU (ao aF (sv 8) aa) (aU aa aA rfl) rfl) rfl))));(· lia;(· (with_reducible refine gC ?_ ?_ ?_);exact iu (sv 5);(· lia;(· ((with_reducible refine oE (i:=11) ?_ ?_ ?_ ?_ ?_ ?_);exact nd;exact rfl;exact oi;rotate_left;rfl;exact oi;exact aq (cj (cV (sv 11) (cV (ao bV (ao fW aa aa) (sv 11)) (cV (dh e hr (aU (sv 0) (aU (ao aF (sv 8) aa) (aU (ao aF (ao fW aa aa) aa) aA rfl) rfl) rfl)) aO rfl) rfl) rfl)) (dh a hr (aU (sv 0) (aU (ao aF (sv 8) aa) (aU aa aA rfl) rfl) rfl))));(· lia;(· ((with_reducible refine oE (i:=12) ?_ ?_ ?_ ?_ ?_ ?_);exact nd;exact rfl;exact oi;rotate_left;rfl;exact oi;exact aq (cj (cV (sv 12) (cV (ao bV (ao fW aa aa) (sv 12)) (cV (ao aF aa (dh a hr (aU (sv 0) (aU (ao aF (sv 8) aa) (aU (ao fW aa aa) aA rfl) rfl) rfl))) aO rfl) rfl) rfl)) (dh a hr (aU (sv 0) (aU (ao aF (sv 8) aa) (aU aa aA rfl) rfl) rfl))));exact au));exact au);(· lia;exact bZ (k:=6) rfl (by (first|exact cE rfl|exact dA (cE rfl))) (cM (cV (sv 9) (cV (sv 10) (cV (sv 11) (cV (sv 12) aO rfl) rfl) rfl) rfl));exact au))))))))
 lia;. ((with_reducible refine S8 ?_);exact dh g hr (aU (sv 4) (aU (sv 6) aA rfl) rfl))
 exact au
noncomputable abbrev s36:eJ:=top 56
noncomputable def b36:List S:=[.asg 2 (.lst [.lst [(P.con (.int 0))]]),.gG (.rY (P.con (.int 0)) (.bin .sub ↑0 (P.con (.int 2)))) [3] true [.asg 4 (.lst []),.gG ↑2 [5] true [.Kg 4 (.comp (.rY (P.con (.int 0)) (.bin .add ↑1 (P.con (.int 2)))) 1 [6] true none (.bin .add ↑5 (.lst [↑6])))],.asg 2 ↑4],.ret (.comp ↑2 1 [6] true none (.bin .add ↑6 (.lst [.bin .add ↑1 (P.con (.int 1))])))]
noncomputable def f36:Fd:=⟨2,6,b36⟩
theorem adJ:aK ["many","last","found","place","wider","row"] ["many","last"] (az s36):=(⟨rfl,rfl,rfl,by decide+kernel,rfl,by decide+kernel,by decide+kernel⟩)
include cl in
theorem d36(a:gb K "_law_all_closed" "_law_all_closed" s36 f fd)(aZ:mg "range"=none):(ou Pg w K mg base Gs (k+1) f fd ["many","last"] (M5 K 2 (λargs=>enter c n f36 args))):=by
 (refine XC a adJ rfl rfl λcdv A outer s H E hr=>?_;have nd:=(adJ).nd);refine aM ?_ ?_;. ((with_reducible refine oE (i:=2) ?_ ?_ ?_ ?_ ?_ ?_);exact nd;exact rfl;exact oi;rotate_left;rfl;exact oi;exact cj (cV (cj (cV aa aO rfl)) aO rfl))
 lia;. ((with_reducible refine uN (i:=3) ?_ ?_ ?_ ?_ ?_ ?_ ?_ ?_ ?_);exact du;exact hc;exact nd;exact rfl;exact oi;exact eX rfl (by rfl) aZ (ao bV (sv 0) aa);rotate_left;(· intro _;rfl);exact oi);(· lia;(· ((with_reducible refine oE (i:=4) ?_ ?_ ?_ ?_ ?_ ?_);exact nd;exact rfl;exact oi;rotate_left;rfl;exact oi;exact cj aO));(· lia;(· (with_reducible refine uN (i:=5) ?_ ?_ ?_ ?_ ?_ ?_ ?_ ?_ ?_);exact du;exact hc;exact nd;exact rfl;exact dA rfl;exact cO (sv 2);(· lia;exact RB (k:=4) rfl (by (first|exact cE rfl|exact dA (cE rfl))) (dF (N':=["many","last","found","place","wider","row","hour"]) hc (sH rfl (by rfl)) (eX rfl (by rfl) aZ (ao aF (sv 1) aa)) (λ_ _ _ _ _=>aJ (i:=6) ‹["many","last","found","place","wider","row","hour"]› rfl (cE rfl) (dA rfl)) (cu (dw)) (λ_ _ _ _ _=>bT) (λ_ _ _ _ _=>(ao aF (sv 5) (cj (cV (sv 6) aO rfl)))));exact au);(· intro _;rfl);exact oi);(· lia;(· ((with_reducible refine oE (i:=2) ?_ ?_ ?_ ?_ ?_ ?_);exact nd;exact rfl;exact oi;rotate_left;rfl;exact oi;exact sv 4));exact au)))
 lia;. ((with_reducible refine S8 ?_);exact dF (N':=["many","last","found","place","wider","row#5","row"]) hc (sH rfl (by rfl)) (cO (sv 2)) (λ_ _ _ _ _=>aJ (i:=6) ‹["many","last","found","place","wider","row#5","row"]› rfl (cE rfl) (dA rfl)) (cu (dw)) (λ_ _ _ _ _=>bT) (λ_ _ _ _ _=>(ao aF (sv 6) (cj (cV (ao aF (sv 1) aa) aO rfl)))))
 exact au
noncomputable abbrev s37:eJ:=top 57
noncomputable def b37:List S:=[.asg 4 (.lst []),.gG (.call 36 [.idx ↑0 (P.con (.int 0)),↑3]) [5] true [.asg 6 (P.con (.int 0)),.gG (.rY (P.con (.int 0)) (.blt .len [.idx ↑0 (P.con (.int 1))])) [7] true [.unp [8,9,10,11] (.idx (.idx ↑0 (P.con (.int 1))) ↑7),.asg 6 (.bin .add ↑6 (.bin .mul (.idx ↑1 ↑7) (.blt .max2 [(P.con (.int 0)),.bin .sub (.bin .sub (.idx ↑5 ↑9) (.idx ↑5 ↑8)) ↑11]))),.asg 6 (.bin .add ↑6 (.bin .mul (.idx ↑2 ↑7) (.blt .max2 [(P.con (.int 0)),.bin .sub (.bin .sub (.idx ↑5 ↑8) (.idx ↑5 ↑9)) ↑11])))],.app 4 ↑6],.ret (.blt .Gg [↑4])]
noncomputable def f37:Fd:=⟨4,12,b37⟩
theorem adX:aK ["net","forth","back","last","sums","closed","found","k","one","other","room","hours"] ["net","forth","back","last"] (az s37):=(⟨rfl,rfl,rfl,by decide+kernel,rfl,by decide+kernel,by decide+kernel⟩)
include cl in
theorem d37(a:gb K "_law_most" "_law_most" s37 f fd)(aW:mg "len"=none)(sG:mg "max"=none)(jl:mg "min"=none)(aZ:mg "range"=none)(b:(aR Pg w K mg base k c 36 ("_law_all_closed") 2)):(ou Pg w K mg base Gs (k+1) f fd ["net","forth","back","last"] (M5 K 4 (λargs=>enter c n f37 args))):=by
 (refine XC a adX rfl rfl λcdv A outer s H E hr=>?_;have nd:=(adX).nd);refine aM ?_ ?_;. ((with_reducible refine oE (i:=4) ?_ ?_ ?_ ?_ ?_ ?_);exact nd;exact rfl;exact oi;rotate_left;rfl;exact oi;exact cj aO)
 lia;. ((with_reducible refine uN (i:=5) ?_ ?_ ?_ ?_ ?_ ?_ ?_ ?_ ?_);exact du;exact hc;exact nd;exact rfl;exact oi;exact cO (dh b hr (aU (aq (sv 0) aa) (aU (sv 3) aA rfl) rfl));rotate_left;(· intro _;rfl);exact oi);(· lia;(· ((with_reducible refine oE (i:=6) ?_ ?_ ?_ ?_ ?_ ?_);exact nd;exact rfl;exact oi;rotate_left;rfl;exact oi;exact aa));(· lia;(· ((with_reducible refine uN (i:=7) ?_ ?_ ?_ ?_ ?_ ?_ ?_ ?_ ?_);exact du;exact hc;exact nd;exact rfl;exact oi;exact eX rfl (by rfl) aZ (cz rfl (by rfl) aW (aq (sv 0) aa));rotate_left;(· intro _;rfl);exact oi);(· lia;exact Ux (aq (aq (sv 0) aa) (sv 7)) (fj hc (aV (aJ (i:=8) nd rfl oi oi) (aV (aJ (i:=9) nd rfl oi oi) (aV (aJ (i:=10) nd rfl oi oi) (aV (aJ (i:=11) nd rfl oi oi) dI))))) (nH rfl (dq _ _ (dq _ _ (dq _ _ (dq _ _ j6 11) 10) 9) 8));(· lia;(· ((with_reducible refine oE (i:=6) ?_ ?_ ?_ ?_ ?_ ?_);exact nd;exact rfl;exact oi;rotate_left;rfl;exact oi;exact ao aF (sv 6) (ao cC (aq (sv 1) (sv 7)) (vQ rfl hc (by rfl) sG (cV aa (cV (ao bV (ao bV (aq (sv 5) (sv 9)) (aq (sv 5) (sv 8))) (sv 11)) aO rfl) rfl)))));(· lia;(· ((with_reducible refine oE (i:=6) ?_ ?_ ?_ ?_ ?_ ?_);exact nd;exact rfl;exact oi;rotate_left;rfl;exact oi;exact ao aF (sv 6) (ao cC (aq (sv 2) (sv 7)) (vQ rfl hc (by rfl) sG (cV aa (cV (ao bV (ao bV (aq (sv 5) (sv 8)) (aq (sv 5) (sv 9))) (sv 11)) aO rfl) rfl)))));exact au))));(· lia;exact bZ (k:=4) rfl (by (first|exact cE rfl|exact dA (cE rfl))) (sv 6);exact au)))
 lia;. ((with_reducible refine S8 ?_);exact Dk rfl hc (by rfl) jl (sv 4))
 exact au
noncomputable abbrev s38:eJ:=top 58
noncomputable def b38:List S:=[.asg 3 (.comp (.idx ↑0 (P.con (.int 1))) 1 [6] true none (.idx ↑6 (P.con (.int 2)))),.ifs (.cmp .ne (.blt .len [↑1]) (.blt .len [↑3])) [.ret (.con (.bl false))] [],.gG (.rY (P.con (.int 0)) (.blt .len [↑3])) [4] true [.ifs (.or (.cmp .lt (.idx ↑1 ↑4) (P.con (.int 0))) (.cmp .gt (.idx ↑1 ↑4) (.idx ↑3 ↑4))) [.ret (.con (.bl false))] []],.asg 5 (.comp (.rY (P.con (.int 0)) (.blt .len [↑3])) 1 [6] true none (.bin .sub (.idx ↑3 ↑6) (.idx ↑1 ↑6))),.ret (.cmp .eq (.call 37 [↑0,↑1,↑5,↑2]) (.call 37 [↑0,.vw 3,.vw 3,↑2]))]
noncomputable def f38:Fd:=⟨3,6,b38⟩
theorem adC:aK ["net","forth","last","rooms","k","back"] ["net","forth","last"] (az s38):=(⟨rfl,rfl,rfl,by decide+kernel,rfl,by decide+kernel,by decide+kernel⟩)
include cl in
theorem d38(b:gb K "_law_due" "_law_due" s38 f fd)(aW:mg "len"=none)(aZ:mg "range"=none)(a:(aR Pg w K mg base k c 37 ("_law_most") 4)):(ou Pg w K mg base Gs (k+1) f fd ["net","forth","last"] (M5 K 3 (λargs=>enter c n f38 args))):=by
 (refine XC b adC rfl rfl λcdv A outer s H E hr=>?_;have nd:=(adC).nd);refine aM ?_ ?_;. (with_reducible refine oE (i:=3) ?_ ?_ ?_ ?_ ?_ ?_);exact nd;exact rfl;exact dA rfl;rotate_left;rfl;exact oi;exact dF (N':=["net","forth","last","rooms","k","back","way"]) hc (sH rfl (by rfl)) (cO (aq (sv 0) aa)) (λ_ _ _ _ _=>aJ (i:=6) ‹["net","forth","last","rooms","k","back","way"]› rfl (cE rfl) (dA rfl)) (cu (dw)) (λ_ _ _ _ _=>bT) (λ_ _ _ _ _=>(aq (sv 6) aa))
 lia;. (with_reducible refine gC ?_ ?_ ?_);exact dj (yJ (bM hr)) (cz rfl (by rfl) aW (sv 1)) (cz rfl (by rfl) aW (sv 3)) (bU _);(· lia;(· ((with_reducible refine S8 ?_);exact qw));exact au);exact au
 lia;. ((with_reducible refine uN (i:=4) ?_ ?_ ?_ ?_ ?_ ?_ ?_ ?_ ?_);exact du;exact hc;exact nd;exact rfl;exact oi;exact eX rfl (by rfl) aZ (cz rfl (by rfl) aW (sv 3));rotate_left;(· intro _;rfl);exact oi);(· lia;(· (with_reducible refine gC ?_ ?_ ?_);exact SW.st (Cy (dj (Jc (bM hr)) (aq (sv 1) (sv 4)) aa (bU _)) (u0 (dj jO (aq (sv 1) (sv 4)) (aq (sv 3) (sv 4)) (bU _))));(· lia;(· ((with_reducible refine S8 ?_);exact qw));exact au);exact au);exact au)
 lia;.exact(pJ (i:=5) (N':=["net","forth","last","rooms","k#4","back","k"]) hc nd rfl oi (sH rfl (by rfl)) (eX rfl (by rfl) aZ (cz rfl (by rfl) aW (sv 3))) (λ_ _ _ _ _=>aJ (i:=6) ‹["net","forth","last","rooms","k#4","back","k"]› rfl (cE rfl) (dA rfl)) (cu (dw)) (λ_ _ _ _ _=>bT) (λ_ _ _ _ _=>(ao bV (aq (sv 3) (sv 6)) (aq (sv 1) (sv 6)))) (by rfl) (by intro _;rfl) (cE rfl))
 lia;. ((with_reducible refine S8 ?_);exact lH (lE (bM hr)) (dh a hr (aU (sv 0) (aU (sv 1) (aU (sv 5) (aU (sv 2) aA rfl) rfl) rfl) rfl)) (dh a hr (aU (sv 0) (aU (qe (i:=3) rfl (by (first|exact cE rfl|exact dA (cE rfl)))) (aU (qe (i:=3) rfl (by (first|exact cE rfl|exact dA (cE rfl)))) (aU (sv 2) aA rfl) rfl) rfl) rfl)) (bU _))
 exact au
noncomputable abbrev s39:eJ:=top 59
noncomputable def b39:List S:=[.asg 3 (.blt .tuple [.comp (.idx ↑1 (P.con (.int 1))) 1 [9] true none (.idx ↑9 (P.con (.int 2)))]),.asg 4 (.lst [↑3,.bin .mul (.tup [(P.con (.int 0))]) (.blt .len [↑3]),.bin .add ↑2 (.tup [(P.con (.int 0))]),.slice ↑2 (P.con (.int 1)) (.con .non)]),.gG (.rY (P.con (.int 0)) (P.con (.int 2))) [5] true [.asg 6 (.comp (.rY (P.con (.int 0)) (.blt .len [↑3])) 1 [9] true none (.call 34 [↑0,.bin .add (.bin .add (P.con (.int 100)) (.bin .mul (P.con (.int 20)) ↑5)) (.bin .mul (P.con (.int 2)) ↑9),.bin .add (.idx ↑3 ↑9) (P.con (.int 1))])),.app 4 (.blt .tuple [↑6])],.ifs (.cmp .gt (.blt .len [↑2]) (P.con (.int 0))) [.asg 7 (.call 33 [↑0,(P.con (.int 150)),.blt .len [↑2]]),.asg 8 (.lst [.bin .add (.idx ↑2 ↑7) (P.con (.int 1)),.bin .sub (.idx ↑2 ↑7) (P.con (.int 1)),.bin .add (.idx ↑3 ↑7) (P.con (.int 1)),.neg (P.con (.int 1)),.bin .sub (.idx ↑3 ↑7) (.idx ↑2 ↑7),(P.con (.int 0))]),.app 4 (.bin .add (.bin .add (.slice ↑2 (.con .non) ↑7) (.tup [.idx ↑8 (.call 33 [↑0,(P.con (.int 151)),(P.con (.int 6))])])) (.slice ↑2 (.bin .add ↑7 (P.con (.int 1))) (.con .non))),.app 4 (.bin .add (.bin .add (.slice ↑2 (.con .non) ↑7) (.tup [.idx ↑8 (.call 33 [↑0,(P.con (.int 152)),(P.con (.int 6))])])) (.slice ↑2 (.bin .add ↑7 (P.con (.int 1))) (.con .non)))] [],.ret ↑4]
noncomputable def f39:Fd:=⟨3,9,b39⟩
theorem adY:aK ["draws","net","forth","rooms","found","turn","some","at","more"] ["draws","net","forth"] (az s39):=(⟨rfl,rfl,rfl,by decide+kernel,rfl,by decide+kernel,by decide+kernel⟩)
include cl in
theorem d39(b:gb K "_law_others" "_law_others" s39 f fd)(aW:mg "len"=none)(aZ:mg "range"=none)(bG:mg "tuple"=none)(a:(aR Pg w K mg base k c 33 ("_law_draw") 3))(e:(aR Pg w K mg base k c 34 ("_law_wide") 3)):(ou Pg w K mg base Gs (k+1) f fd ["draws","net","forth"] (M5 K 3 (λargs=>enter c n f39 args))):=by
 (refine XC b adY rfl rfl λcdv A outer s H E hr=>?_;have nd:=(adY).nd);refine aM ?_ ?_;. (with_reducible refine oE (i:=3) ?_ ?_ ?_ ?_ ?_ ?_);exact nd;exact rfl;exact dA rfl;rotate_left;rfl;exact oi;exact gF rfl (by rfl) bG (dF (N':=["draws","net","forth","rooms","found","turn","some","at","more","way"]) hc (sH rfl (by rfl)) (cO (aq (sv 1) aa)) (λ_ _ _ _ _=>aJ (i:=9) ‹["draws","net","forth","rooms","found","turn","some","at","more","way"]› rfl (cE rfl) (dA rfl)) (cu (dw)) (λ_ _ _ _ _=>bT) (λ_ _ _ _ _=>(aq (sv 9) aa)))
 lia;. ((with_reducible refine oE (i:=4) ?_ ?_ ?_ ?_ ?_ ?_);exact nd;exact rfl;exact oi;rotate_left;rfl;exact oi;exact cj (cV (sv 3) (cV (ao cC (cM (cV aa aO rfl)) (cz rfl (by rfl) aW (sv 3))) (cV (ao aF (sv 2) (cM (cV aa aO rfl))) (cV (fJ (sv 2) (gP aa) gR) aO rfl) rfl) rfl) rfl))
 lia;. (with_reducible refine uN (i:=5) ?_ ?_ ?_ ?_ ?_ ?_ ?_ ?_ ?_);exact du;exact hc;exact nd;exact rfl;exact dA rfl;exact eX rfl (by rfl) aZ aa;(· lia;exact pJ (i:=6) (N':=["draws","net","forth","rooms","found","turn","some","at","more","k"]) hc nd rfl oi (sH rfl (by rfl)) (eX rfl (by rfl) aZ (cz rfl (by rfl) aW (sv 3))) (λ_ _ _ _ _=>aJ (i:=9) ‹["draws","net","forth","rooms","found","turn","some","at","more","k"]› rfl (cE rfl) (dA rfl)) (cu (dw)) (λ_ _ _ _ _=>bT) (λ_ _ _ _ _=>(dh e hr (aU (sv 0) (aU (ao aF (ao aF aa (ao cC aa (sv 5))) (ao cC aa (sv 9))) (aU (ao aF (aq (sv 3) (sv 9)) aa) aA rfl) rfl) rfl))) (by rfl) (by intro _;rfl) (cE rfl);(· lia;exact bZ (k:=4) rfl (by (first|exact cE rfl|exact dA (cE rfl))) (gF rfl (by rfl) bG (sv 6));exact au));(· intro _;rfl);exact oi
 lia;. (with_reducible refine gC ?_ ?_ ?_);exact dj jO (cz rfl (by rfl) aW (sv 2)) aa (bU _);(· lia;(· ((with_reducible refine oE (i:=7) ?_ ?_ ?_ ?_ ?_ ?_);exact nd;exact rfl;exact oi;rotate_left;rfl;exact oi;exact dh a hr (aU (sv 0) (aU aa (aU (cz rfl (by rfl) aW (sv 2)) aA rfl) rfl) rfl)));(· lia;(· ((with_reducible refine oE (i:=8) ?_ ?_ ?_ ?_ ?_ ?_);exact nd;exact rfl;exact oi;rotate_left;rfl;exact oi;exact cj (cV (ao aF (aq (sv 2) (sv 7)) aa) (cV (ao bV (aq (sv 2) (sv 7)) aa) (cV (ao aF (aq (sv 3) (sv 7)) aa) (cV (Af aa) (cV (ao bV (aq (sv 3) (sv 7)) (aq (sv 2) (sv 7))) (cV aa aO rfl) rfl) rfl) rfl) rfl) rfl)));(· lia;exact bZ (k:=4) rfl (by (first|exact cE rfl|exact dA (cE rfl))) (ao aF (ao aF (fJ (sv 2) gR (gP (sv 7))) (cM (cV (aq (sv 8) (dh a hr (aU (sv 0) (aU aa (aU aa aA rfl) rfl) rfl))) aO rfl))) (fJ (sv 2) (gP (ao aF (sv 7) aa)) gR));(· lia;exact bZ (k:=4) rfl (by (first|exact cE rfl|exact dA (cE rfl))) (ao aF (ao aF (fJ (sv 2) gR (gP (sv 7))) (cM (cV (aq (sv 8) (dh a hr (aU (sv 0) (aU aa (aU aa aA rfl) rfl) rfl))) aO rfl))) (fJ (sv 2) (gP (ao aF (sv 7) aa)) gR));exact au))));exact au
 lia;. ((with_reducible refine S8 ?_);exact sv 4)
 exact au
noncomputable abbrev s40:eJ:=top 60
noncomputable def b40:List S:=[.asg 1 (.call 32 [↑0,(P.con (.int 300))]),.asg 2 (.call 35 [↑1,(P.con (.int 0)),(P.con (.int 4)),(P.con (.int 4))]),.asg 3 (.call 33 [↑1,(P.con (.int 160)),(P.con (.int 6))]),.asg 4 (.call 30 [↑2,↑3]),.gG (.bin .add (.bin .add (.lst [↑4]) (.call 39 [↑1,↑2,↑4])) (.lst [↑4])) [5] true [.asg 6 (.call 31 [↑2,↑3,↑5]),.ifs (.or (.not (.inst [.bool] ↑6)) (.cmp .ne ↑6 (.call 38 [↑2,↑5,↑3]))) [.ret (.con (.bl false))] []],.ret (.cmp .isT (.call 31 [↑2,↑3,↑4]) (.con (.bl true)))]
noncomputable def f40:Fd:=⟨1,7,b40⟩
theorem adT:aK ["script","draws","net","last","forth","some","found"] ["script"] (az s40):=(⟨rfl,rfl,rfl,by decide+kernel,rfl,by decide+kernel,by decide+kernel⟩)
include cl in
theorem d40(b:gb K "law" "law" s40 f fd)(lQ:mg "bool"=none)(bH:mg "isinstance"=none)(e:(aR Pg w K mg base k c 32 ("_law_all") 2))(g:(aR Pg w K mg base k c 33 ("_law_draw") 3))(h:(aR Pg w K mg base k c 38 ("_law_due") 3))(i:(aR Pg w K mg base k c 35 ("_law_net") 4))(j:(aR Pg w K mg base k c 39 ("_law_others") 3))(l:(aR Pg w K mg base k c 30 ("best_forth") 2))(a:(aR Pg w K mg base k c 31 ("forth_right") 3)):(ou Pg w K mg base Gs (k+1) f fd ["script"] (M5 K 1 (λargs=>enter c n f40 args))):=by
 (refine XC b adT rfl rfl λcdv A outer s H E hr=>?_;have nd:=(adT).nd);refine aM ?_ ?_;. ((with_reducible refine oE (i:=1) ?_ ?_ ?_ ?_ ?_ ?_);exact nd;exact rfl;exact oi;rotate_left;rfl;exact oi;exact dh e hr (aU (sv 0) (aU aa aA rfl) rfl))
 lia;. ((with_reducible refine oE (i:=2) ?_ ?_ ?_ ?_ ?_ ?_);exact nd;exact rfl;exact oi;rotate_left;rfl;exact oi;exact dh i hr (aU (sv 1) (aU aa (aU aa (aU aa aA rfl) rfl) rfl) rfl))
 lia;. ((with_reducible refine oE (i:=3) ?_ ?_ ?_ ?_ ?_ ?_);exact nd;exact rfl;exact oi;rotate_left;rfl;exact oi;exact dh g hr (aU (sv 1) (aU aa (aU aa aA rfl) rfl) rfl))
 lia;. ((with_reducible refine oE (i:=4) ?_ ?_ ?_ ?_ ?_ ?_);exact nd;exact rfl;exact oi;rotate_left;rfl;exact oi;exact dh l hr (aU (sv 2) (aU (sv 3) aA rfl) rfl))
 lia;. ((with_reducible refine uN (i:=5) ?_ ?_ ?_ ?_ ?_ ?_ ?_ ?_ ?_);exact du;exact hc;exact nd;exact rfl;exact oi;exact cO (ao aF (ao aF (cj (cV (sv 4) aO rfl)) (dh j hr (aU (sv 1) (aU (sv 2) (aU (sv 4) aA rfl) rfl) rfl))) (cj (cV (sv 4) aO rfl)));rotate_left;(· intro _;rfl);exact oi);(· lia;(· ((with_reducible refine oE (i:=6) ?_ ?_ ?_ ?_ ?_ ?_);exact nd;exact rfl;exact oi;rotate_left;rfl;exact oi;exact dh a hr (aU (sv 2) (aU (sv 3) (aU (sv 5) aA rfl) rfl) rfl)));(· lia;(· (with_reducible refine gC ?_ ?_ ?_);exact SW.st (Cy (qX (iu (qj .bool rfl (by rfl) bH (sv 6) (by rfl) lQ (by kernel_rfl) (by decide) (by rfl)))) (u0 (dj (yJ (bM hr)) (sv 6) (dh h hr (aU (sv 2) (aU (sv 5) (aU (sv 3) aA rfl) rfl) rfl)) (bU _))));(· lia;(· ((with_reducible refine S8 ?_);exact qw));exact au);exact au);exact au))
 lia;. ((with_reducible refine S8 ?_);exact lH MP (dh a hr (aU (sv 2) (aU (sv 3) (aU (sv 4) aA rfl) rfl) rfl)) qw (bU _))
 exact au
end T
end
noncomputable section
namespace T
open PySem L2 PySem.Spec PyProof.Rows HH
noncomputable def Γ:Tab:=λi=>[f0,f1,f2,f3,f4,f5,f6,f7,f8,f9,f10,f11,f12,V6,f14,f15,f16,f17,f18,f19,f20,f21,f22,f23,f24,f25,f26,f27,Yv,f29,f30,f31,f32,f33,f34,f35,f36,f37,f38,f39,f40][i]?
end T
end
noncomputable section
namespace T
open HH
variable{a b m i g p k:Int}{n j w N l:Nat}{ls ds ch fo ba:List Int}{Q:R->List Sl->Prop}{f:Bool}{F q:Int->Int}{ρ:List Sl}{kvs r:List (Int×Int)}
structure Wy where(s t r h:Int)
variable{v:Wy}{ws:List Wy}
noncomputable def Wy.d(w:Wy):D:=.tup [.int w.s,.int w.t,.int w.r,.int w.h]
structure Wy.Ok(m:Int)(w:Wy):Prop where
 s0:0<=w.s
 s1:w.s<m
 t0:0<=w.t
 t1:w.t<m
 ne:w.s≠w.t
 r0:0<=w.r
 r1:w.r<=1000000000
 h0:1<=w.h
 h1:w.h<=1000000
theorem other(h1:0<=a)(c:a<m)(o:0<=b)(s:b<m-1):0<=(a+1+b)%m/\(a+1+b)%m<m/\(a+1+b)%m≠a:=by
 by_cases h:a+1+b<m;.rw[Int.emod_eq_of_lt (by omega) h];omega
 . have e:(a+1+b)%m=a+1+b-m:=by rw[<-Int.sub_emod_right,Int.emod_eq_of_lt (by omega) (by omega)]
   rw[e];omega
noncomputable def aN(m:Int)(ws:List Wy):D:=.tup [.int m,.tup (ws.map Wy.d)]
structure cR(m:Int)(ws:List Wy):Prop where
 m0:2<=m
 m1:m<=6
 len:ws.length<=12
 ok:∀w∈ws,w.Ok m
@[simp]theorem ag6{m:Int}{ws:List Wy}:Lp (aN m ws) (.int 0)=some (.val (.int m)):=rfl
@[simp]theorem agR{m:Int}{ws:List Wy}:Lp (aN m ws) (.int 1)=some (.val (.tup (ws.map Wy.d))):=rfl
noncomputable def ab(i:Int):Int:=if i<0 then-i else i
theorem Dg:blt .abs [.int i]=some (.val (.int (ab i))):=rfl
noncomputable def ZL(d:D):D:=.int (ab (mD d))
inductive FAl(a0 a1 a2 a3 a4 a5 a6 a7 a8:Sl)(ρ:List Sl):Prop where|mk(s:Sl)(q0:ρ=[a0,a1,a2,a3,a4,a5,a6,a7,a8,s])(q1:fr s=true)
noncomputable def Dr(ds:List Int):Prop:=∀d∈ds,0<=d/\d<1000000
inductive JAl(N:Nat)(a0 a1:Sl)(i:Nat)(ρ:List Sl):Prop where|mk(cs ls fd:List Int)(s5 s6 s7 s8:Sl)(q0:ρ=[a0,a1,.own false (cs.map D.int),.own false (ls.map D.int),.own false (fd.map D.int),s5,s6,s7,s8])(q1:A4 (fr s5=true) (fr s6=true) (fr s7=true) (fr s8=true))(q2:cs.length=N)(q3:ls.length=N)(q4:fd.length=i)(q5:Dr fd)
theorem o5(a:Int)(h:0<b):0<=a%b/\a%b<b:=⟨Int.emod_nonneg _ (by omega),Int.emod_lt_of_pos _ h⟩
theorem mC{cs:List Int}{a b:Option Int}:cut (cs.map D.int) a b=(cut cs a b).map D.int:=by unfold cut;simp
theorem ac4{ds:List D}:Hg (.lst ds) (part (.con .non) .non) (part (.con (.int i)) (.int i))=some (.own (cut ds none (some i))):=rfl
theorem Vn{c:Call}{A B:List S}{h o s t s7 s8:Sl}{cs:List Int}{c0 x:Int}{Q:Fl->List Sl->Prop}(y:at' (cs.map D.int) (j:Int)=some (.int c0))(z:at' (ls.map D.int) (j:Int)=some (.int x))(h1:(iB c n A [h,o,.own false (cs.map D.int),.own false (ls.map D.int),s,t,.val false (.int j),s7,s8]).sat Q)(u:(iB c n B [h,o,.own false (cs.map D.int),.own false (ls.map D.int),s,t,.val false (.int j),s7,s8]).sat Q):(ex c n (.ifs (.and (.cmp .ge (.blt .abs [.idx (.var 2) (.var 6)]) (.bin .pow (.con (.int 10)) (.con (.int 18)))) (.cmp .gt (.idx (.var 3) (.var 6)) (.con (.int 0)))) A B) [h,o,.own false (cs.map D.int),.own false (ls.map D.int),s,t,.val false (.int j),s7,s8]).sat Q:=by have e:=Dg (i:=c0);generalize ab c0=C at e;simp[y,z,e];exact⟨λ_=>⟨λ_=>h1,λ_=>u⟩,λ_=>u⟩
set_option maxHeartbeats 400000 in
theorem Nb{M:Nat}{ns:List Int}(hn:ns.length<=63)(hM:M<=1000)(k:∀ds:List Int,ds.length=M->Dr ds->Q (.own (ds.map D.int)) [.val false (.lst (ns.map D.int)),.val false (.int M)]):(run Γ w (n+1) 32 [.val false (.lst (ns.map D.int)),.val false (.int M)]).sat Q:=by
 refine aL (d:=f32) rfl rfl (by decide) ?_;refine bW (λρ=>∃cs:List Int,ρ=[.val false (.lst (ns.map D.int)),.val false (.int M),.own false (cs.map D.int),.aQ,.aQ,.aQ,.aQ,.aQ,.aQ]/\cs.length<=63) ?_ ?_;.simp[f32,ac4,mC];refine⟨_,rfl,?_⟩;unfold cut;simp;omega
 rintro _⟨cs,rfl,hc⟩;refine bW (λρ=>∃cs:List Int,ρ=[.val false (.lst (ns.map D.int)),.val false (.int M),.own false (cs.map D.int),.aQ,.aQ,.aQ,.aQ,.aQ,.aQ]/\cs.length<=63/\0<cs.length) ?_ ?_;.simp[Mq];cases cs with|nil=>simp;apply ak;simp;exact⟨[0],rfl,by simp,by simp⟩|cons c cs=>simp;exact⟨c::cs,rfl,by simpa using hc,by simp⟩
 rintro _⟨cs,rfl,hc,Y⟩;(first|apply ak|apply Fg);simp[show cs.length<=16777216 by omega];refine bw (FAl _ _ _ _ _ _ _ _ _) ZL ⟨.aQ,rfl,rfl⟩ ?_ ?_;.rintro d hd _⟨s,rfl,hs⟩;obtain⟨c,_,rfl⟩:=cU.mp hd;simp[hs,Dg];exact⟨rfl,_,rfl,rfl⟩
 rintro _⟨s,rfl,hs⟩;have e:(cs.map D.int).map ZL=(cs.map ab).map D.int:=by rw[ec,ec];rfl
 rw[e];have y:(cs.map ab).length=cs.length:=dy _;generalize(cs.map ab)=ls at*;simp;apply ak;simp;apply ak;simp[show(M:Int)<=1000000000 by omega];refine fH (JAl cs.length _ _) ?_ ?_ ⟨cs,ls,[],.aQ,.aQ,.aQ,.aQ,rfl,⟨rfl,rfl,rfl,rfl⟩,rfl,y,rfl,λd hd=>by cases hd⟩
 . rintro i _ hi⟨h,ls,fd,s5,s6,s7,s8,rfl,⟨Z,h6,L,O⟩,h1,z,U,A⟩;obtain⟨j,hj,j0⟩:∃j:Nat,(i:Int)%(h.length:Int)=(j:Int)/\j<h.length:=⟨i%h.length,by omega,Nat.mod_lt _ (by omega)⟩;have W:at' (h.map D.int) (j:Int)=some (.int h[j]):=cX (by simp[j0]);have X:j<ls.length:=by omega
   have B:at' (ls.map D.int) (j:Int)=some (.int ls[j]):=cX (by simp[X]);have hx:jE ls.length (j:Int)=some j:=Vi X;generalize h[j]=c0 at*;generalize ls[j]=C at*;have E:0<h.length:=by omega
   have G:∃o:Int,o=(i:Int):=⟨_,rfl⟩;obtain⟨o,H⟩:=G;have snoc:∀{x:Int},0<=x->x<1000000->Dr (fd++[x]):=λ{x}x0 x1 d hd=>by
    rcases eW.mp hd with hd|hd;.exact A d hd
    .rw[dV.mp hd];exact⟨x0,x1⟩
   simp[Z];apply ak;simp[h6,E,hj];apply ak;refine Vn W B ?_ ?_;. (first|apply ak|apply Fg);have u:=o5 C (b:=1000000) (by decide);simp[B,show fd.length<16777216 by omega];apply ak;simp[B,hx];exact⟨h,ls.set j (C/1000000),fd++[C%1000000],.val false (.int i),.val false (.int j),s7,s8,by simp[map_set],⟨rfl,rfl,L,O⟩,h1,by simpa using z,by simp;omega,snoc u.1 u.2⟩
   . have i1:-18446744073709551616<977*o/\977*o<18446744073709551616:=by omega
     rw[<-H];(first|apply ak|apply Fg);simp[i1,L];generalize 977*o*o+131*o+1=st;(first|apply ak|apply Fg);simp[W,O];generalize hm:(c0%1000000007*48271+st)%2147483647=t;have m0:=o5 (c0%1000000007*48271+st) (b:=2147483647) (by decide);rw[hm]at m0;have m1:-18446744073709551616<t/\t<18446744073709551616:=by omega
     (first|apply ak|apply Fg);simp[m1];generalize I:t*t%2147483647=J;have n0:=o5 (t*t) (b:=2147483647) (by decide);rw[I]at n0;(first|apply ak|apply Fg);simp[show fd.length<16777216 by omega];have u:=o5 ((J+40692*(o+3))*69621%2147483629/8) (b:=1000000) (by decide);exact⟨h,ls,fd++[(J+40692*(o+3))*69621%2147483629/8%1000000],.val false (.int o),.val false (.int j),.val false (.int st),.val false (.int J),by simp,⟨rfl,rfl,rfl,rfl⟩,h1,z,by simp;omega,snoc u.1 u.2⟩
 .rintro _⟨h,ls,fd,s5,s6,s7,s8,rfl,_,h1,z,U,A⟩;(first|apply ak|apply Fg);simp;exact k fd U A
theorem cH{c:Int}(hd:0<ds.length)(t:0<=c)(m0:0<m)(m1:m<=1000000000000000000000)(k:∀d,0<=d->d<m->Q (.val (.int d)) [.own true (ds.map D.int),.val false (.int c),.val false (.int m)]):(run Γ w (n+1) 33 [.own true (ds.map D.int),.val false (.int c),.val false (.int m)]).sat Q:=by
 have e:m<1606938044258990275541962092341162602522202993782792835301376:=by omega
 obtain⟨j,h,o⟩:∃j:Nat,c%(ds.length:Int)=(j:Int)/\j<ds.length:=⟨(c%(ds.length:Int)).toNat,by have:=o5 c (b:=(ds.length:Int)) (by omega);omega,by have:=o5 c (b:=(ds.length:Int)) (by omega);omega⟩;have s:at' (ds.map D.int) (j:Int)=some (.int ds[j]):=cX (by simp[o]);generalize ds[j]=d0 at*;refine aL (d:=f33) rfl rfl (by decide) ?_;(first|apply ak|apply Fg);simp[f33,hd,h,s,m0,e];exact k _ (o5 d0 m0).1 (o5 d0 m0).2
theorem ym{c:Int}(x:Dr ds)(hd:0<ds.length)(y:0<=c)(m0:0<m)(m1:m<=1000000000000000000000)(k:∀d,0<=d->d<m->Q (.val (.int d)) [.own true (ds.map D.int),.val false (.int c),.val false (.int m)]):(run Γ w (n+1) 34 [.own true (ds.map D.int),.val false (.int c),.val false (.int m)]).sat Q:=by
 have e:m<1606938044258990275541962092341162602522202993782792835301376:=by omega
 have get:∀a:Int,∃j:Nat,a%(ds.length:Int)=(j:Int)/\j<ds.length:=λa=>⟨(a%(ds.length:Int)).toNat,by have:=o5 a (b:=(ds.length:Int)) (by omega);omega,by have:=o5 a (b:=(ds.length:Int)) (by omega);omega⟩;obtain⟨j,h,o⟩:=get c;obtain⟨i,hi,s⟩:=get (c+1);have t:at' (ds.map D.int) (j:Int)=some (.int ds[j]):=cX (by simp[o]);have u:at' (ds.map D.int) (i:Int)=some (.int ds[i]):=cX (by simp[s]);generalize ds[j]=d0 at*;generalize ds[i]=d1 at*;refine aL (d:=f34) rfl rfl (by decide) ?_;(first|apply ak|apply Fg);simp[f34,hd,h,t];apply ak;simp[hd,hi,u,m0,e];exact k _ (o5 _ m0).1 (o5 _ m0).2
theorem Ft(k:Q (.val (.bl true)) [.val false (.int i)]):(run Γ w (n+1) 11 [.val false (.int i)]).sat Q:=by refine aL (d:=f11) rfl rfl (by decide) ?_;(first|apply ak|apply Fg);simp[f11];exact k
theorem gB(h1:a<=i)(c:i<=b)(k:Q (.val (.bl true)) [.val false (.int i),.val false (.int a),.val false (.int b)]):(run Γ w (n+2) 12 [.val false (.int i),.val false (.int a),.val false (.int b)]).sat Q:=by refine aL (d:=f12) rfl rfl (by decide) ?_;(first|apply ak|apply Fg);simp[f12];refine Ft ?_;simp[h1,c];exact k
theorem JP{ds:List D}(k:Q (.val (.bl true)) [.val false (.tup ds)]):(run Γ w (n+1) 13 [.val false (.tup ds)]).sat Q:=by refine aL (d:=V6) rfl rfl (by decide) ?_;(first|apply ak|apply Fg);simp[V6];exact k
theorem J2{b:Bool}{ds:List D}(k:Q (.val (.bl true)) [.own b ds]):(run Γ w (n+1) 13 [.own b ds]).sat Q:=by refine aL (d:=V6) rfl rfl (by decide) ?_;(first|apply ak|apply Fg);simp[V6];exact k
theorem Ff(h:v.Ok m)(k:Q (.val (.bl true)) [.val false (.int m),.val false v.d]):(run Γ w (n+3) 14 [.val false (.int m),.val false v.d]).sat Q:=by obtain⟨s,t,r,c⟩:=v;obtain⟨s0,s1,t0,t1,ne,r0,r1,h0,h1⟩:=h;simp only at s0 s1 t0 t1 ne r0 r1 h0 h1;refine aL (d:=f14) rfl rfl (by decide) ?_;(first|apply ak|apply Fg);simp[f14,Wy.d];refine JP ?_;simp;refine gB s0 (by omega) ?_;simp;refine gB t0 (by omega) ?_;simp[ne];refine gB r0 r1 ?_;simp;refine gB h0 h1 ?_;simp;exact k
inductive JMd(m:Int)(ws:List Wy)(a0 a1:Sl)(r:List D)(ρ:List Sl):Prop where|mk(s2:Sl)(s3:Sl)(q0:ρ=[a0,a1,s2,s3])(q1:(fr s2=true/\fr s3=true))(q2:∀d∈r,∃(i:Nat)(v:Wy),d=.tup [.int i,v.d]/\v.Ok m)
inductive F4m(a0 a1 a2 a3:Sl)(ρ:List Sl):Prop where|mk(s:Sl)(q0:ρ=[a0,a1,a2,a3,s])(q1:fr s=true)
theorem G4(h:cR m ws)(k:Q (.val (aN m ws)) [.val false (.int m),.val true (.lst (ws.map Wy.d))]):(run Γ w (n+4) 15 [.val false (.int m),.own true (ws.map Wy.d)]).sat Q:=by
 have m0:=h.m0;have m1:=h.m1;have u:=h.len;refine aL (d:=f15) rfl rfl (by decide) ?_;(first|apply ak|apply Fg);simp[f15];refine gB m0 m1 ?_;simp;refine J2 ?_;simp;apply ak;simp;refine cA (JMd m ws _ _) ?_ ?_ ⟨.aQ,.aQ,rfl,⟨rfl,rfl⟩,λd hd=>?_⟩;.rintro d r _⟨s2,s3,rfl,⟨e,o⟩,hd⟩;obtain⟨i,v,rfl,t⟩:=hd d (by simp);simp[e,o];apply ak;simp;refine Ff t ?_;simp;exact⟨_,_,rfl,⟨rfl,rfl⟩,λd h=>hd d (dE _ h)⟩
 . rintro _⟨s2,s3,rfl,⟨e,o⟩,_⟩;simp;apply ak;simp[show ¬(12:Int)<(ws.length:Int)by omega,show ¬ 12<ws.length by omega];apply ak;simp[show ws.length<=16777216 by omega];refine bw (F4m _ _ _ _) (λd=>d) ⟨.aQ,rfl,rfl⟩ ?_ ?_;.rintro d hd _⟨s,rfl,hs⟩;obtain⟨v,_,rfl⟩:=cU.mp hd;simp[hs,Wy.d];exact⟨_,rfl,rfl⟩
   .rintro _⟨s,rfl,hs⟩;simp;exact k
 . rw[List.mem_mapIdx]at hd;obtain⟨i,hi,rfl⟩:=hd;have c:i<ws.length:=by simpa using hi
   exact⟨i,ws[i],by simp,h.ok _ (iP c)⟩
theorem yS{ns:List Int}{lo hi:Int}(h0:0<=i)(h1:i<(ns.length:Int))(k:∀x∈ns,lo<=x/\x<=hi):∃r,at' (ns.map D.int) i=some (.int r)/\lo<=r/\r<=hi:=by
 have c:i.toNat<ns.length:=by omega
 refine⟨ns[i.toNat],?_,k _ (iP c)⟩;rw[vh h0 (by simpa using h1)];simp[c]
inductive JNt(m:Int)(wd:Bool)(a0 a1 a2 a3:Sl)(i:Nat)(ρ:List Sl):Prop where|mk(ws:List Wy)(s7 s8 s9 iG pO s12:Sl)(q0:ρ=[a0,a1,a2,a3,.val false (.int m),.val false (.bl wd),.own false (ws.map Wy.d),s7,s8,s9,iG,pO,s12])(q1:A6 (fr s7=true) (fr s8=true) (fr s9=true) (fr iG=true) (fr pO=true) (fr s12=true))(q2:(∀v∈ws,v.Ok m))(q3:ws.length=i)
theorem IK{o u:Int}(J:Dr ds)(hd:0<ds.length)(p0:2<=o)(p1:o<=6)(o0:0<=u)(o1:u<=12)(k:∀m ws,cR m ws->m<=o->(ws.length:Int)<=u->Q (.val (aN m ws)) [.own true (ds.map D.int),.val false (.int 0),.val false (.int o),.val false (.int u)]):(run Γ w (n+5) 35 [.own true (ds.map D.int),.val false (.int 0),.val false (.int o),.val false (.int u)]).sat Q:=by
 refine aL (d:=f35) rfl rfl (by decide) ?_;(first|apply ak|apply Fg);simp[f35];refine cH hd (by omega) (by omega) (by omega) λd d0 d1=>?_;simp;generalize hm:2+d=m;have m0:2<=m:=by omega
 have m1:m<=o:=by omega
 (first|apply ak|apply Fg);simp;refine cH hd (by omega) (by omega) (by omega) λd2 _ _=>?_;simp;generalize(d2==0)=z;(first|apply ak|apply Fg);simp;apply ak;simp;refine cH hd (by omega) (by omega) (by omega) λN n0 n1=>?_;simp[show N<=1000000000 by omega];refine⟨by omega,?_⟩;refine fH (JNt m z _ _ _ _) ?_ ?_ ⟨[],.aQ,.aQ,.aQ,.aQ,.aQ,.aQ,rfl,⟨rfl,rfl,rfl,rfl,rfl,rfl⟩,by simp,rfl⟩
 . rintro i _ hi⟨ws,s7,s8,s9,iG,pO,s12,rfl,⟨L,M,O,A,B,C⟩,hok,U⟩;simp[L];apply ak;simp[M];generalize hsp:(10:Int)+10*(i:Int)=sp;have W:0<=sp:=by omega
   (first|apply ak|apply Fg);simp;refine cH hd (by omega) (by omega) (by omega) λa E G=>?_;simp[O];apply ak;simp;refine cH hd (by omega) (by omega) (by omega) λb b0 b1=>?_;obtain⟨t0,t1,X⟩:=other E G b0 (by omega);simp[show 0<m by omega,A,show m<1606938044258990275541962092341162602522202993782792835301376 by omega];generalize(a+1+b)%m=t at*;refine bW (λρ=>∃s t:Int,ρ=[.own true (ds.map D.int),.val false (.int 0),.val false (.int o),.val false (.int u),.val false (.int m),.val false (.bl z),.own false (ws.map Wy.d),.val false (.int i),.val false (.int sp),.val false (.int s),.val false (.int t),pO,s12]/\(0<=s/\s<m)/\(0<=t/\t<m)/\s≠t) ?_ ?_
   . simp;refine cH hd (by omega) (by omega) (by omega) λc _ _=>?_;simp;refine⟨λ_=>?_,λ_=>?_⟩;. (first|apply ak|apply Fg);simp;refine⟨_,_,⟨rfl,rfl⟩,?_⟩;split<;>split<;>omega
     .exact⟨_,_,⟨rfl,rfl⟩,⟨E,G⟩,⟨t0,t1⟩,λe=>X e.symm⟩
   rintro _⟨s,t,rfl,⟨s0,s1⟩,⟨t0,t1⟩,ne⟩;(first|apply ak|apply Fg);simp;refine cH hd (by omega) (by omega) (by omega) λc c0 c1=>?_;obtain⟨r,H,r0,r1⟩:=yS (ns:=[0,1,2,3,4,1,2,7]) (lo:=0) (hi:=7) c0 (by simpa using c1) (by simp);simp only[c_,lm]at H;simp[H,B];apply ak;simp;refine cH hd (by omega) (by omega) (by omega) λc c0 c1=>?_;simp[C];generalize hh:1+c=hr;refine bW (λρ=>∃r h:Int,ρ=[.own true (ds.map D.int),.val false (.int 0),.val false (.int o),.val false (.int u),.val false (.int m),.val false (.bl z),.own false (ws.map Wy.d),.val false (.int i),.val false (.int sp),.val false (.int s),.val false (.int t),.val false (.int r),.val false (.int h)]/\(0<=r/\r<=1000000000)/\(1<=h/\h<=1000000)) ?_ ?_;.cases z with|false=>simp;exact⟨_,_,⟨rfl,rfl⟩,by omega⟩|true=>simp;apply ak;simp;refine ym J hd (by omega) (by omega) (by omega) λe Y Z=>?_;simp;refine cH hd (by omega) (by omega) (by omega) λc c0 c1=>?_;obtain⟨r',x,ac,ae⟩:=yS (ns:=[r,1000000000-r,e]) (lo:=0) (hi:=1000000000) c0 (by simpa using c1) (by simp;omega);simp only[c_,lm]at x;simp[x];apply ak;simp;refine cH hd (by omega) (by omega) (by omega) λe Y Z=>?_;simp;refine cH hd (by omega) (by omega) (by omega) λc c0 c1=>?_;obtain⟨h',y,af,ag⟩:=yS (ns:=[hr,1000000-hr,1+e]) (lo:=1) (hi:=1000000) c0 (by simpa using c1) (by simp;omega);simp only[c_,lm]at y;simp[y];exact⟨_,_,⟨rfl,rfl⟩,by omega⟩
   rintro _⟨r,h,rfl,⟨r0,r1⟩,⟨h0,h1⟩⟩;(first|apply ak|apply Fg);simp[show ws.length<16777216 by omega];refine⟨ws++[⟨s,t,r,h⟩],.val false (.int i),.val false (.int sp),.val false (.int s),.val false (.int t),.val false (.int r),.val false (.int h),by simp[Wy.d],⟨rfl,rfl,rfl,rfl,rfl,rfl⟩,λv hv=>?_,by simp;omega⟩;rcases eW.mp hv with hv|hv;.exact hok v hv
   .rw[dV.mp hv];exact⟨s0,s1,t0,t1,ne,r0,r1,h0,h1⟩
 .rintro _⟨ws,s7,s8,s9,iG,pO,s12,rfl,_,hok,U⟩;have I:cR m ws:=⟨m0,by omega,by omega,hok⟩;(first|apply ak|apply Fg);simp;refine G4 I ?_;simp;exact k m ws I m1 (by omega)
noncomputable def fK(j:Nat)(f:Bool):D:=.tup [.int j,.bl f]
noncomputable def frm(v:Wy)(f:Bool):Int:=if f then v.s else v.t
noncomputable def too(v:Wy)(f:Bool):Int:=if f then v.t else v.s
theorem lN(e:ws[j]?=some v)(k:Q (.val (.tup [.int (frm v f),.int (too v f)])) [.val false (aN m ws),.val false (fK j f)]):(run Γ w (n+1) 0 [.val false (aN m ws),.val false (fK j f)]).sat Q:=by refine aL (d:=f0) rfl rfl (by decide) ?_;(first|apply ak|apply Fg);simp[f0,fK,cX e];apply ak;cases f with|true=>simp[Wy.d];exact k|false=>simp[Wy.d];exact k
noncomputable def hsp(v:Wy)(f:Bool):Int:=if f then v.h else-v.h
theorem tR(e:ws[j]?=some v)(k:Q (.val (.int (hsp v f))) [.val false (aN m ws),.val false (fK j f)]):(run Γ w (n+1) 1 [.val false (aN m ws),.val false (fK j f)]).sat Q:=by refine aL (d:=f1) rfl rfl (by decide) ?_;(first|apply ak|apply Fg);simp[f1,fK,cX e,Wy.d];apply ak;cases f with|true=>simp;exact k|false=>simp;exact k
noncomputable def Vs(s:Sl)(fs:List Int):Prop:=s=.val false (.lst (fs.map D.int))\/∃b,s=.own b (fs.map D.int)
noncomputable def oA(v:Wy)(g:Int)(f:Bool):Int:=if f then v.r-g else g
theorem uv{s:Sl}{fs:List Int}(hs:Vs s fs)(e:ws[j]?=some v)(c:fs[j]?=some g)(k:Q (.val (.int (oA v g f))) [.val false (aN m ws),s,.val false (fK j f)]):(run Γ w (n+1) 2 [.val false (aN m ws),s,.val false (fK j f)]).sat Q:=by refine aL (d:=f2) rfl rfl (by decide) ?_;(first|apply ak|apply Fg);rcases hs with rfl|⟨b,rfl⟩;all_goals simp[f2,fK,cX c];apply ak;cases f with|true=>simp[cX e,Wy.d];exact k|false=>simp;exact k
@[simp]theorem abV{c:Call}{n x k:Nat}{src o:P}{is:List Nat}{one:Bool}{ρ:List Sl}:ex c n (.Kl x src k is one o) ρ=(srcOf (isVar src) (ev c src) ρ).bind λds e=>if ds.length<=lim then(fO is one (ev c o) ds [] (e++b_ k .aQ)).bind λs h=>(lift (put (aY ρ (isVar src) (h.take e.length)) x (.hold s)) ρ).bind λt _=>.ok .next t else .stuck:=(rfl)
@[simp]theorem ab2{c:Call}{n:Nat}{src:P}{is:List Nat}{one:Bool}{body:List S}{ρ:List Sl}:ex c n (.Gh src is one body) ρ=(ev c src ρ).bind λr e=>(lift (items r.d) e).bind λds e=>iK is one (iB c n body) ds e:=(rfl)
@[simp]theorem ae5{c:Call}{n x:Nat}{ρ:List Sl}:ex c n (.dz x) ρ=match ρ[x]?with|some (.hold e)=>.ok .next (ρ.set x (.val false (.lst (e.map D.lst))))|_=>.stuck:=(rfl)
@[simp]theorem abS{c:Call}{n x:Nat}{i e:P}{ρ:List Sl}:ex c n (.Km x i e) ρ=(cP (isVar i) (ev c i) ρ).bind λk ρ=>(lift (vy ρ x k) ρ).bind λ_ ρ=>(ev c e ρ).bind λr ρ=>Ga ρ x ((jj ρ x).bind λh=>(iY k).bind λk=>jR h k λrow=>if row.length<lim then some (row++[r.d])else none):=(rfl)
@[simp]theorem aaX{a:Sl}{l:List Sl}{x:Nat}:jj (a::l) x=match(a::l)[x]?with|some (.hold c)=>some c|_=>none:=rfl
@[simp]theorem Wa{ρ:List Sl}{x:Nat}{c:List (List D)}:Ga ρ x (some c)=.ok .next (ρ.set x (.hold c)):=rfl
@[simp]theorem aen{a:Sl}{l:List Sl}{x:Nat}{k:Int}:vy (a::l) x (.int k)=match(a::l)[x]?with|some (.hold c)=>rowAt c k|_=>none:=by unfold vy jj;cases h:(a::l)[x]?with|none=>rfl|some s=>cases s<;>rfl
theorem qK{is:List Nat}{one:Bool}{s:Ev}(J:List Sl->Prop)(g:D->List D){Q:List (List D)->List Sl->Prop}:∀{ds:List D}{c:List (List D)}{ρ:List Sl},J ρ->(∀d,d∈ds->∀ρ,J ρ->∃o,cT ρ is one d=some o/\(s o).sat λr t=>r=.own (g d)/\J t)->(∀ρ,J ρ->Q (c++ds.map g) ρ)->(fO is one s ds c ρ).sat Q|[],c,ρ,j,h,k=>by rw[fO];simpa using k ρ j|d::r,c,ρ,j,h,k=>by obtain⟨o,e,h1⟩:=h d (by simp) ρ j;rw[fO,e];show((s o).bind _).sat Q;rw[cB];refine h1.imp λx t⟨z,j3⟩=>?_;subst z;exact qK J g j3 (λd' u=>h d' (by simp[u])) λy A=>by simpa using k y A
@[simp]theorem acV{c:Call}{x:Nat}{k:P}{ρ:List Sl}:ev c (.QM x k) ρ=match ρ[x]?with
 |some (.cQ _)=>(cP (isVar k) (ev c k) ρ).bind λe ρ=>match ρ[x]?with|some (.cQ kvs)=>lift ((iY e).bind λk=>(lL kvs k).map .val) ρ|_=>.stuck
 |_=>.stuck:=(rfl)
noncomputable def o9(kvs:List (Int×D))(k:Int):Bool:=(kvs.map (·.1)).contains k
noncomputable def FQ(kvs:List (Int×D)):List Int:=kvs.map (·.1)
noncomputable def dsV(kvs:List (Int×D)):List D:=kvs.map (·.2)
@[simp]theorem afq{c:Call}{x:Nat}{k:P}{neg:Bool}{ρ:List Sl}:ev c (.QQ x k neg) ρ=(cP (isVar k) (ev c k) ρ).bind λe ρ=>match ρ[x]?with|some (.cQ kvs)=>lift ((iY e).map λk=>.val (.bl (if neg then !o9 kvs k else o9 kvs k))) ρ|_=>.stuck:=(rfl)
@[simp]theorem abT{c:Call}{k e:Int}{ρ:List Sl}:ev c (.An k e) ρ=.ok (.val (.dv [k] [.int e])) ρ:=(rfl)
@[simp]theorem ahj{c:Call}{x:Nat}{ρ:List Sl}:ev c (.vw x) ρ=match ρ[x]?with|some (.gO m)=>.ok (.val (.eG m)) (ρ.set x (.val false (.eG m)))|some (.cQ kvs)=>.ok (.val (.dv (FQ kvs) (dsV kvs))) (ρ.set x (.val false (.dv (FQ kvs) (dsV kvs))))|some (.own b ds)=>.ok (.val (.lst ds)) (ρ.set x (.val b (.lst ds)))|some (.val _ d)=>.ok (.val d) ρ|_=>.stuck:=(rfl)
@[simp]theorem abJ{c:Call}{n x:Nat}{ρ:List Sl}:ex c n (.Gi x) ρ=match ρ[x]?with|some .aQ=>.ok .next (ρ.set x (.cQ []))|some (.cQ _)=>.ok .next (ρ.set x (.cQ []))|some (.val false _)=>.ok .next (ρ.set x (.cQ []))|_=>.stuck:=(rfl)
@[simp]theorem aaL{c:Call}{n x:Nat}{k e:P}{ρ:List Sl}:ex c n (.fZ x k e) ρ=(ev c e ρ).bind λr ρ=>match ρ[x]?with
 |some (.cQ _)=>(cP (isVar k) (ev c k) ρ).bind λh ρ=>match ρ[x]?,h with|some (.cQ kvs),.int k=>if kvs.length<lim then .ok .next (ρ.set x (.cQ (fZ kvs k r.d)))else .stuck|_,_=>.stuck
 |_=>.stuck:=(rfl)
@[simp]theorem ach{c:Call}{n x:Nat}{i e:P}{sub:Bool}{ρ:List Sl}:ex c n (.Kf x i sub e) ρ=(lift (zJ ρ x) ρ).bind λ_ ρ=>(cP (isVar i) (ev c i) ρ).bind λk ρ=>(lift (zJ ρ x) ρ).bind λl ρ=>(lift ((iY k).bind λi=>at' l i) ρ).bind λa ρ=>(cP (isVar e) (ev c e) ρ).bind λb ρ=>match a,b,ρ[x]?,k with
 |.int u,.int v,some (.own h ds),.int k=>match jE ds.length k with|some j=>.ok .next (ρ.set x (.own h (ds.set j (.int (if sub then u-v else u+v)))))|none=>.stuck
 |_,_,_,_=>.stuck:=(rfl)
@[simp]theorem Xh{x:Nat}{k:P}:isVar (.QM x k)=none:=rfl
@[simp]theorem W8{x:Nat}{k:P}{b:Bool}:isVar (.QQ x k b)=none:=rfl
@[simp]theorem Yr{x:Nat}:isVar (.vw x)=none:=rfl
@[simp]theorem Ul{k e:Int}:isVar (.An k e)=none:=rfl
@[simp]theorem afa{kvs:List (Int×D)}:fr (.cQ kvs)=false:=rfl
@[simp]theorem abP{r:List (List D)}:fr (.hold r)=false:=rfl
@[simp]theorem XN:sX .Am=CT:=rfl
@[simp]theorem aaR:sX .din=yf false:=rfl
@[simp]theorem Zw{ks:List Int}{ds:List D}{k:Int}:CT (.dv ks ds) (.int k)=(lL (ks.zip ds) k).map .val:=rfl
@[simp]theorem abl{ks:List Int}{ds:List D}{k:Int}:yf false (.int k) (.dv ks ds)=some (.val (.bl (ks.contains k))):=rfl
@[simp]theorem WM{ks:List Int}{ds:List D}:blt .keys [.dv ks ds]=some (.val (.tup (ks.map D.int))):=rfl
@[simp]theorem abf{ks:List Int}{ds:List D}:blt .Xo [.dv ks ds]=if ks.length<=16777216 then some (.own (ks.map D.int))else none:=rfl
@[simp]theorem abn{ds:List D}:blt .rvT [.lst ds]=some (.val (.tup ds.reverse)):=rfl
@[simp]theorem VP{kvs:List (Int×D)}{x:Option Sl}:fc (.cQ kvs) x=.cQ kvs:=by cases x<;>rfl
@[simp]theorem Vg{r:List (List D)}{x:Option Sl}:fc (.hold r) x=.hold r:=by cases x<;>rfl
structure HN(m:Int)(ws:List Wy):Prop where
 m0:2<=m
 m1:m<=6
 len:ws.length<=12
 ok:∀w∈ws,(0<=w.s/\w.s<m)/\(0<=w.t/\w.t<m)/\0<=w.h
theorem HN.of(h:cR m ws):HN m ws:=⟨h.m0,h.m1,h.len,λw c=>by have:=h.ok w c;exact⟨⟨this.s0,this.s1⟩,⟨this.t0,this.t1⟩,by have:=this.h0;omega⟩⟩
noncomputable abbrev aB:=Nat×Bool
variable{s:aB}{x:Nat×(Option aB×Int)}{o:Option aB×Int}{c:List aB}{cs:List (List aB×Int)}
noncomputable def sD(s:aB):D:=fK s.1 s.2
noncomputable def j7(ws:List Wy)(fs:List Int)(p:Int)(s:aB):Bool:=match ws[s.1]?,fs[s.1]?with|some v,some g=>decide (frm v s.2=p)&&decide (0<oA v g s.2)|_,_=>false
theorem jA{fs:List Int}(e:ws[s.1]?=some v)(h:fs[s.1]?=some g):j7 ws fs p s=(decide (frm v s.2=p)&&decide (0<oA v g s.2)):=by unfold j7;rw[e,h]
noncomputable def jq(ws:List Wy)(fs:List Int)(M:Nat)(l:List aB):List (List aB):=(dP M).map λ(p:Nat)=>l.filter (j7 ws fs (p:Int))
noncomputable def rD(l:List (List aB)):List (List D):=l.map λr=>r.map sD
noncomputable def ik(N:Nat):List aB:=(dP N).flatMap λj=>[(j,true),(j,false)]
theorem ug:ik (N+1)=(ik N++[(N,true)])++[(N,false)]:=by simp[ik,range_succ]
theorem wQ:(ik N).length=2*N:=by induction N with|zero=>rfl|succ N e=>rw[ug];simp[e];omega
theorem Vp(h:HN m ws)(e:ws[j]?=some v)(f:Bool):0<=frm v f/\frm v f<m:=by have:=h.ok v (da e);cases f<;>simp only[frm]<;>simp<;>omega
theorem Jx(h:HN m ws)(e:ws[j]?=some v)(f:Bool):0<=too v f/\too v f<m:=by have:=h.ok v (da e);cases f<;>simp only[too]<;>simp<;>omega
theorem Ij{fs:List Int}{M:Nat}{l:List aB}(e:ws[s.1]?=some v)(t:fs[s.1]?=some g)(h:¬ 0<oA v g s.2):jq ws fs M (l++[s])=jq ws fs M l:=by unfold jq;refine fF λp _=>?_;rw[k3];simp[jA e t,h]
theorem Ms{fs:List Int}{l:List aB}(e:ws[s.1]?=some v)(u:fs[s.1]?=some g)(h:0<oA v g s.2)(y:0<=frm v s.2/\frm v s.2<m)(C:l.length<1000):(∃row,rowAt (rD (jq ws fs m.toNat l)) (frm v s.2)=some row)/\jR (rD (jq ws fs m.toNat l)) (frm v s.2) (λrow=>if row.length<lim then some (row++[sD s])else none)=some (rD (jq ws fs m.toNat (l++[s]))):=by
 have t:(rD (jq ws fs m.toNat l)).length=m.toNat:=by simp[rD,jq]
 have z:jE (rD (jq ws fs m.toNat l)).length (frm v s.2)=some (frm v s.2).toNat:=by unfold jE;rw[t,if_pos y.1,if_pos (by omega)]
 have A:(rD (jq ws fs m.toNat l))[(frm v s.2).toNat]?=some ((l.filter (j7 ws fs (frm v s.2))).map sD):=by simp[rD,jq,show(frm v s.2).toNat<m.toNat by omega,ja y.1]
 refine⟨⟨_,by unfold rowAt;rw[z];exact A⟩,?_⟩;unfold jR;rw[z];show((rD (jq ws fs m.toNat l))[(frm v s.2).toNat]?).bind _=_;rw[A];have B:((l.filter (j7 ws fs (frm v s.2))).map sD).length<lim:=by have:=ky (j7 ws fs (frm v s.2)) l;rw[dy];show _<16777216;omega
 show Option.map _ (if _ then _ else _)=_;rw[if_pos B];show some _=some _;congr 1;refine k_ (by simp[rD,jq]) λi E G=>?_;rw[List.getElem_set];by_cases c:(frm v s.2).toNat=i
 . rw[if_pos c];have:(i:Int)=frm v s.2:=by omega
   simp[rD,jq,this,k3,jA e u,h]
 . rw[if_neg c];have:¬ frm v s.2=(i:Int):=by omega
   simp[rD,jq,k3,jA e u,this]
inductive JOp(m:Int)(ws:List Wy)(fs:List Int)(s:Sl)(i:Nat)(ρ:List Sl):Prop where|mk(s3 s4:Sl)(q0:ρ=[.val false (aN m ws),s,.hold (rD (jq ws fs m.toNat (ik i))),s3,s4])(q1:fr s3=true)(q2:fr s4=true)
inductive JOq(m:Int)(ws:List Wy)(fs:List Int)(s:Sl)(i:Nat)(r:List D)(ρ:List Sl):Prop where|mk(l us:List aB)(s4:Sl)(q0:ρ=[.val false (aN m ws),s,.hold (rD (jq ws fs m.toNat l)),.val false (.int i),s4])(q1:fr s4=true)(q2:r=us.map sD)(q3:l++us=ik (i+1))(q4:∀u∈us,u.1=i)
inductive F1n(a b c d e:Sl)(ρ:List Sl):Prop where|mk(s:Sl)(q0:ρ=[a,b,c,d,e,s])(q1:fr s=true)
theorem JT{s:Sl}{fs:List Int}(hs:Vs s fs)(h:HN m ws)(W:fs.length=ws.length)(k:Q (.val (.lst ((rD (jq ws fs m.toNat (ik ws.length))).map D.lst))) [.val false (aN m ws),s]):(run Γ w (n+2) 4 [.val false (aN m ws),s]).sat Q:=by
 have X:=h.len;have m0:=h.m0;have m1:=h.m1;refine aL (d:=f4) rfl rfl (by decide) ?_;refine bW (λρ=>ρ=[.val false (aN m ws),s,.hold (rD (jq ws fs m.toNat (ik 0))),.aQ,.aQ]) ?_ ?_
 . simp[f4,show m<=1000000000 by omega,show-1000000000<=m by omega];refine⟨λ_=>?_,by omega⟩;rw[cB];refine qK (F1n _ _ _ _ _) (λ_=>[]) ⟨.aQ,rfl,rfl⟩ ?_ ?_;.rintro d hd _⟨L,rfl,y⟩;simp[y];exact⟨_,rfl,rfl⟩
   .rintro _⟨L,rfl,y⟩;simp[rD,jq,ik]
 rintro _ rfl;refine bW (JOp m ws fs s ws.length) ?_ ?_
 . simp[show(ws.length:Int)<=1000000000 by omega];refine fH (JOp m ws fs s) ?_ ?_ ⟨.aQ,.aQ,rfl,rfl,rfl⟩
   . rintro i _ hi⟨s3,s4,rfl,C,t⟩;have G:i<fs.length:=by omega
     have z:ws[i]?=some ws[i]:=by simp[hi]
     have H:fs[i]?=some fs[i]:=by simp[G]
     generalize ws[i]=v at*;generalize fs[i]=g at*;simp[C];apply ak;simp;refine cA (JOq m ws fs s i) ?_ ?_ ⟨ik i,[(i,true),(i,false)],s4,rfl,t,rfl,by rw[ug];simp,by simp⟩;.rintro d r _⟨l,e,s4,rfl,t,hr,A,E⟩;cases e with|nil=>cases hr|cons u e=>
         obtain⟨rfl,rfl⟩:d=sD u/\r=e.map sD:=by simpa using hr
         obtain rfl:=E u (by simp);have B:(l++[u])++e=ik (u.1+1):=by rw[fb];exact A
         have I:l.length<1000:=by have:=congrArg kF A;rw[wQ]at this;simp at this;omega
         simp[t];apply ak;rcases hs with rfl|⟨b,rfl⟩;all_goals
          simp[sD];refine uv (by first|exact .inl rfl|exact .inr ⟨_,rfl⟩) z H ?_;simp;refine⟨λho=>?_,λho=>?_⟩;.obtain⟨⟨row,M⟩,O⟩:=Ms (ws:=ws) (fs:=fs) (l:=l) z H ho (Vp h z u.2) I;(first|apply ak|apply Fg);simp;refine lN z ?_;simp[M];have U:jR (rD (jq ws fs m.toNat l)) (frm v u.2) (λrow=>if row.length<lim then some (row++[fK u.1 u.2])else none)=_:=O;rw[U];simp;exact⟨l++[u],e,_,rfl,rfl,rfl,B,λx J=>E x (by simp[J])⟩
          .exact⟨l++[u],e,_,by rw[Ij z H (by omega)],rfl,rfl,B,λx J=>E x (by simp[J])⟩
     . rintro _⟨l,e,s4,rfl,t,hr,A,E⟩;have:e=[]:=by cases e with|nil=>rfl|cons _ _=>cases hr
       subst this;rw[fE]at A;subst A;simp;exact⟨_,_,rfl,rfl,t⟩
   .rintro _⟨s3,s4,rfl,C,t⟩;exact⟨rfl,_,_,rfl,C,t⟩
 rintro _⟨s3,s4,rfl,C,t⟩;(first|apply ak|apply Fg);simp;apply ak;simp;exact k
noncomputable abbrev En:=Int×Nat×(Option aB×Int)
variable{es uI:List En}
noncomputable def oS:Option aB->D|none=>.non|some s=>sD s
noncomputable def zX(e:En):D:=.tup [.int e.2.2.2,.int (e.2.1:Int),oS e.2.2.1]
noncomputable def en(e:En):Int×D:=(e.1,zX e)
noncomputable def jM(es:List En):D:=.dv (es.map (·.1)) (es.map zX)
noncomputable def yO(p:Int):Int×D:=(p,.bl true)
@[simp]theorem Tw{l:List Int}:FQ (l.map yO)=l:=by simp[FQ,yO,io]
theorem zr{l:List En}:FQ (l.map en)=l.map (·.1):=by simp[FQ,en,io]
theorem Al{l:List En}:o9 (l.map en) p=true↔∃n o,(p,n,o)∈l:=by show(FQ (l.map en)).contains p=true↔_;rw[zr];simp
theorem kin_no{l:List En}(h:¬ ∃n o,(p,n,o)∈l):o9 (l.map en) p=false:=by cases e:o9 (l.map en) p with|false=>rfl|true=>exact absurd (Al.mp e) h
theorem uR{u:Type}{p:Int}{x y:u}:∀{l:List (Int×u)},(l.map (·.1)).Nodup->(p,x)∈l->(p,y)∈l->x=y
 |[],_,h,_=>by cases h|e::l,t,h1,h2=>by
   rw[c_,eK]at t;rcases de.mp h1 with h1|h1<;>rcases de.mp h2 with h2|h2;.rw[<-h2]at h1;cases h1;rfl
   .exact absurd (cU.mpr ⟨_,h2,by rw[<-h1]⟩) t.1
   .exact absurd (cU.mpr ⟨_,h1,by rw[<-h2]⟩) t.1
   .exact uR t.2 h1 h2
theorem pM{p:Int}{x:Nat×(Option aB×Int)}:∀{l:List En},(l.map (·.1)).Nodup->(p,x)∈l->lL (l.map en) p=some (zX (p,x))
 |[],_,h=>by cases h|e::l,t,h=>by
   have u:=t;rw[c_,eK]at t;unfold lL;rw[c_,gl];by_cases c:e.1=p;.obtain⟨q,y⟩:=e;cases c;have:=uR u h (by simp:(q,y)∈(q,y)::l);subst this;simp[en]
   . have h':(p,x)∈l:=by
      rcases de.mp h with h|h;.exact absurd (by rw[<-h]) c
      .exact h
     simp[en,c];have:=pM t.2 h';unfold lL at this;simpa[en]using this
theorem mZ{kvs:List (Int×D)}{d:D}(h:o9 kvs p=false):fZ kvs p d=kvs++[(p,d)]:=by
 unfold fZ;rw[if_neg];intro t;obtain⟨x,u,e⟩:=m3.mp t;have:o9 kvs p=true:=by show(kvs.map (·.1)).contains p=true;rw[i7];exact cU.mpr ⟨x,u,by simpa using e⟩
 rw[this]at h;cases h
theorem xH{kvs:List (Int×D)}{d:D}(h:o9 kvs p=true):fZ kvs p d=kvs.map λe=>if e.1=p then(p,d)else e:=by
 unfold fZ;rw[if_pos]
 . refine fF λe _=>?_;by_cases c:e.1=p;.simp[c]
   .simp[c]
 .have h':(kvs.map (·.1)).contains p=true:=h;rw[i7]at h';obtain⟨x,t,e⟩:=cU.mp h';exact m3.mpr ⟨x,t,by simpa using e⟩
noncomputable def xM(p:Int)(x:Nat×(Option aB×Int))(e:En):En:=if e.1=p then(p,x)else e
noncomputable def o6(es:List En)(p:Int)(x:Nat×(Option aB×Int)):List En:=if p∈es.map (·.1)then es.map (xM p x)else es++[(p,x)]
noncomputable def rH(ch:List Int)(p:Int):List Int:=if p∈ch then ch else ch++[p]
theorem Oi:fZ (es.map en) p (zX (p,x))=(o6 es p x).map en:=by
 have h:o9 (es.map en) p=true↔p∈es.map (·.1):=by show(FQ (es.map en)).contains p=true↔_;rw[zr,i7]
 unfold o6;by_cases c:p∈es.map (·.1)
 . rw[if_pos c,xH (h.mpr c),ec,ec];refine fF λe _=>?_;show(if e.1=p then _ else _)=en (xM p x e);unfold xM;by_cases z:e.1=p;.rw[if_pos z,if_pos z];rfl
   .rw[if_neg z,if_neg z]
 .rw[if_neg c,mZ (by cases e:o9 (es.map en) p with|false=>rfl|true=>exact absurd (h.mp e) c)];simp[en]
theorem N5:fZ (ch.map yO) p (.bl true)=(rH ch p).map yO:=by
 have h:o9 (ch.map yO) p=true↔p∈ch:=by show(FQ (ch.map yO)).contains p=true↔_;rw[Tw,i7]
 unfold rH;by_cases c:p∈ch
 . rw[if_pos c,xH (h.mpr c),ec];refine fF λe _=>?_;show(if e=p then _ else _)=yO e;by_cases z:e=p;.rw[if_pos z,z];rfl
   .rw[if_neg z]
 .rw[if_neg c,mZ (by cases e:o9 (ch.map yO) p with|false=>rfl|true=>exact absurd (h.mp e) c)];simp[yO]
theorem yo{q:Int}:q∈rH ch p↔q∈ch\/q=p:=by
 unfold rH;split;.exact⟨.inl,λh=>h.elim id λe=>by rw[e];assumption⟩
 .simp
theorem BK(h:ch.Nodup):(rH ch p).Nodup:=by
 unfold rH;split;.exact h
 .rename_i t;rw[kM];exact⟨h,by simp,λa u b y e=>t (by rw[<-dV.mp y,<-e];exact u)⟩
theorem Eu:(o6 es p x).map (·.1)=rH (es.map (·.1)) p:=by
 unfold o6 rH;split
 . rw[ec];refine fF λe _=>?_;show(xM p x e).1=e.1;unfold xM;split;.rename_i h;exact h.symm
   .rfl
 .simp
theorem gn{q:Int}{y:Nat×(Option aB×Int)}:(q,y)∈o6 es p x↔(q=p/\y=x)\/(q≠p/\(q,y)∈es):=by
 unfold o6;split
 . rename_i t;obtain⟨C,u,z⟩:=cU.mp t;rw[cU];constructor
   . rintro⟨e,he,h⟩;unfold xM at h;split at h;.cases h;exact .inl ⟨rfl,rfl⟩
     .rename_i A;subst h;exact .inr ⟨A,he⟩
   . rintro(⟨rfl,rfl⟩|⟨h1,B⟩);.exact⟨C,u,by unfold xM;rw[if_pos z]⟩
     .exact⟨_,B,by unfold xM;rw[if_neg h1]⟩
 . rename_i t;rw[eW,dV];constructor
   . rintro(h|h);.refine .inr ⟨λe=>t ?_,h⟩;rw[<-e];exact cU.mpr ⟨_,h,rfl⟩
     .cases h;exact .inl ⟨rfl,rfl⟩
   . rintro(⟨rfl,rfl⟩|⟨_,B⟩);.exact .inr rfl
     .exact .inl B
theorem mR{h:Type}[BEq h][LawfulBEq h]:∀{l l2:List h},l.Nodup->(∀a∈l,a∈l2)->l.length<=l2.length
 |[],_,_,_=>vU|a::l,l2,z,hs=>by
   have u:=hs a (by simp);have e:=eK.mp z;have:=mR (l:=l) (l2:=l2.erase a) e.2 λb y=>by
    have t:b≠a:=by rintro rfl;exact e.1 y
    exact(List.mem_erase_of_ne t).mpr (hs b (by simp[y]))
   rw[List.length_erase_of_mem u]at this;have:=List.length_pos_of_mem u;simp only[ea];omega
theorem six{l:List Int}(m1:m<=6)(e:l.Nodup)(h:∀p∈l,0<=p/\p<m):l.length<=6:=by
 have:=mR (l2:=[0,1,2,3,4,5]) e λq t=>by
  have:=h q t;have:q=0\/q=1\/q=2\/q=3\/q=4\/q=5:=by omega
  simpa using this
 simpa using this
theorem rW{fs:List Int}(h:j7 ws fs p s=true):∃v g,ws[s.1]?=some v/\fs[s.1]?=some g/\frm v s.2=p/\0<oA v g s.2:=by
 unfold j7 at h;split at h;.rename_i v g e t;simp at h;exact⟨v,g,e,t,h.1,h.2⟩
 .cases h
theorem yq(h:s.1<N):s∈ik N:=by unfold ik;rw[lU];refine⟨s.1,by simp[h],?_⟩;obtain⟨j,f⟩:=s;cases f<;>simp
noncomputable def il(ws:List Wy)(b:Int):List aB->Int->Prop|[],a=>a=b|s::c,a=>∃v,ws[s.1]?=some v/\frm v s.2=a/\il ws b c (too v s.2)
noncomputable def hst(ws:List Wy)(s:aB):Int:=match ws[s.1]?with|some v=>hsp v s.2|none=>0
theorem gY(e:ws[s.1]?=some v):hst ws s=hsp v s.2:=by unfold hst;rw[e]
noncomputable def bN(ws:List Wy):List aB->Int|[]=>0|s::c=>hst ws s+bN ws c
theorem km{ws:List Wy}{c2:List aB}:∀{c1:List aB},bN ws (c1++c2)=bN ws c1+bN ws c2|[]=>by simp[bN]|s::c=>by rw[gT,bN,km,bN];omega
noncomputable def sU(ws:List Wy)(fs:List Int)(c:List aB):Prop:=∀s∈c,∃v,ws[s.1]?=some v/\j7 ws fs (frm v s.2) s=true
theorem il.app{ws:List Wy}{b q:Int}{c2:List aB}(t:il ws b c2 q):∀{c1:List aB}{a:Int},il ws q c1 a->il ws b (c1++c2) a|[],a,h=>by have:a=q:=h;rw[this];exact t|s::c,a,⟨v,e,u,h⟩=>⟨v,e,u,il.app t h⟩
theorem Cu{ws:List Wy}{b:Int}{c2:List aB}:∀{c1:List aB}{a:Int},il ws b (c1++c2) a->∃q,il ws q c1 a/\il ws b c2 q|[],a,h=>⟨a,rfl,h⟩|s::c,a,⟨v,e,t,h⟩=>by obtain⟨q,h1,u⟩:=Cu (c1:=c) h;exact⟨q,⟨v,e,t,h1⟩,u⟩
noncomputable def Pt(ws:List Wy)(fs:List Int)(F:Int->Int):Prop:=∀(s:aB)(v:Wy),ws[s.1]?=some v->j7 ws fs (frm v s.2) s=true->F (too v s.2)<=F (frm v s.2)+hsp v s.2
theorem lC{ws:List Wy}{fs:List Int}{F:Int->Int}(h:Pt ws fs F){b:Int}:∀{c:List aB}{a:Int},il ws b c a->sU ws fs c->F b<=F a+bN ws c|[],a,t,_=>by have:a=b:=t;rw[this,bN];omega|s::c,a,⟨v,e,z,t⟩,ho=>by have h1:=lC h t λu A=>ho u (dE _ A);obtain⟨C,y,o⟩:=ho s (by simp);rw[e]at y;cases y;have B:=h s v e o;rw[z]at B;rw[bN,gY e];omega
noncomputable def qC(ws:List Wy)(s:aB):Int:=match ws[s.1]?with|some v=>too v s.2|none=>0
noncomputable def qZ(ws:List Wy):List aB->Int->List Int|[],a=>[a]|s::c,a=>a::qZ ws c (qC ws s)
theorem Dn{ws:List Wy}:∀{c:List aB}{a:Int},(qZ ws c a).length=c.length+1|[],_=>rfl|s::c,a=>by rw[qZ,ea,Dn];rfl
theorem Je{m:Int}{ws:List Wy}{b:Int}(t:HN m ws):∀{c:List aB}{a:Int},il ws b c a->0<=a/\a<m->∀q∈qZ ws c a,0<=q/\q<m
 |[],a,_,h,q,hq=>by rw[qZ,dV]at hq;rw[hq];exact h|s::c,a,⟨v,e,y,u⟩,h,q,hq=>by
   rw[qZ,de]at hq;rcases hq with rfl|hq;.exact h
   . have:qC ws s=too v s.2:=by unfold qC;rw[e]
     rw[this]at hq;exact Je t u (Jx t e s.2) q hq
theorem Bw{ws:List Wy}{b q:Int}:∀{c:List aB}{a:Int},il ws b c a->q∈qZ ws c a->∃c1 c2,c=c1++c2/\il ws q c1 a/\il ws b c2 q
 |[],a,h,hq=>by rw[qZ,dV]at hq;exact⟨[],[],rfl,hq.symm,by rw[hq];exact h⟩|s::c,a,h,hq=>by
   rw[qZ,de]at hq;rcases hq with rfl|hq;.exact⟨[],s::c,rfl,rfl,h⟩
   . obtain⟨v,e,t,u⟩:=h;have:qC ws s=too v s.2:=by unfold qC;rw[e]
     rw[this]at hq;obtain⟨c1,c2,rfl,h1,y⟩:=Bw u hq;exact⟨s::c1,c2,rfl,⟨v,e,t,h1⟩,y⟩
theorem Dh{ws:List Wy}{b:Int}:∀{c:List aB}{a:Int},il ws b c a->¬(qZ ws c a).Nodup->∃c1 c2 c3 q,c=c1++(c2++c3)/\0<c2.length/\il ws q c1 a/\il ws q c2 q/\il ws b c3 q
 |[],a,_,h=>absurd (by simp[qZ]) h|s::c,a,⟨v,e,u,y⟩,h=>by
   have B:qC ws s=too v s.2:=by unfold qC;rw[e]
   rw[qZ,B,eK]at h;by_cases A:a∈qZ ws c (too v s.2);.obtain⟨c1,c2,rfl,h1,t⟩:=Bw y A;exact⟨[],s::c1,c2,a,rfl,by simp,rfl,⟨v,e,u,h1⟩,t⟩
   .obtain⟨c1,c2,c3,q,rfl,h0,h1,t,C⟩:=Dh y λz=>h ⟨A,z⟩;exact⟨s::c1,c2,c3,q,rfl,h0,⟨v,e,u,h1⟩,t,C⟩
noncomputable def Le(h:Int)(n:Nat)(h':Int)(e:Nat):Prop:=h<h'\/(h=h'/\n<=e)
theorem Le.refl{h:Int}:Le h n h n:=.inr ⟨rfl,dw⟩
theorem Le.trans{c:Int}{k:Nat}(h1:Le a k b l)(e:Le b l c n):Le a k c n:=by unfold Le at*;omega
theorem Le.add{k:Nat}(x:Int)(h1:Le a k b l):Le (a+x) (k+1) (b+x) (l+1):=by unfold Le at*;omega
theorem short{fs:List Int}(z:HN m ws)(h:Pt ws fs F)(A:0<=a/\a<m):∀(n:Nat){c:List aB},c.length<=n->il ws b c a->sU ws fs c->∃e,il ws b e a/\sU ws fs e/\e.length<=5/\Le (bN ws e) e.length (bN ws c) c.length/\(qZ ws e a).Nodup:=by
 intro n;have done:∀{c:List aB},il ws b c a->(qZ ws c a).Nodup->c.length<=5:=λt u=>by have:=six z.m1 u (Je z t A);rw[Dn]at this;omega
 induction n with|zero=>intro c hc t ho;have:c=[]:=gE (by omega);subst this;exact⟨[],t,ho,by simp,.refl,by simp[qZ]⟩|succ n B=>
   intro c hc t ho;by_cases u:(qZ ws c a).Nodup;.exact⟨c,t,ho,done t u,.refl,u⟩
   .obtain⟨c1,c2,c3,q,rfl,h0,h1,C,E⟩:=Dh t u;have y:sU ws fs c2:=λs hs=>ho s (by simp[hs]);have hr:=lC h C y;simp only[dZ]at hc;obtain⟨e,G,H,I,J,L⟩:=B (c:=c1++c3) (by simp only[dZ];omega) (il.app E h1) λs hs=>ho s (by rcases eW.mp hs with hs|hs<;>simp[hs]);refine⟨e,G,H,I,J.trans ?_,L⟩;rw[km,km,km];simp only[dZ];unfold Le;omega
structure Ea(m:Int)(ws:List Wy)(fs:List Int)(bs:List (Int×Int))(es:List En):Prop where
 nd:(es.map (·.1)).Nodup
 inm:∀p l o,(p,l,o)∈es->0<=p/\p<m
 z:(0,0,(none,0))∈es
 wk:∀p l o,(p,l,o)∈es->∃a b c,(a,b)∈bs/\il ws p c a/\sU ws fs c/\c.length=l/\b+bN ws c=o.2
 stp:∀p l o,(p,l,o)∈es->(o.1=none/\(p,o.2)∈bs/\l=0)\/∃(s:aB)(v:Wy)(l':Nat)(o':Option aB×Int),o.1=some s/\ws[s.1]?=some v/\too v s.2=p/\j7 ws fs (frm v s.2) s=true/\(frm v s.2,l',o')∈es/\Le (o'.2+hsp v s.2) (l'+1) o.2 l
theorem Ea.len{fs:List Int}{bs:List (Int×Int)}(h:Ea m ws fs bs es)(m1:m<=6):es.length<=6:=by
 have:=six m1 h.nd λp e=>by obtain⟨⟨p,l,o⟩,he,rfl⟩:=cU.mp e;exact h.inm p l o he
 simpa using this
theorem jD{l:List En}{a b:Nat}{u:Option aB×Int}(e:(l.map (·.1)).Nodup)(h1:(p,a,o)∈l)(h:(p,b,u)∈l):a=b/\o=u:=by have:=uR e h1 h;cases this;exact⟨rfl,rfl⟩
noncomputable def At(es:List En)(p h:Int)(n:Nat):Prop:=∃l o,(p,l,o)∈es/\Le o.2 l h n
theorem At.le{h h':Int}{e:Nat}(a:At es p h n)(z:Le h n h' e):At es p h' e:=by obtain⟨l,o,h1,t⟩:=a;exact⟨l,o,h1,t.trans z⟩
structure Wh(m:Int)(ws:List Wy)(fs:List Int)(bs:List (Int×Int))(n:Nat)(R:List Int)(es:List En):Prop where
 cm:Ea m ws fs bs es
 row:∀p∈R,∃l o,(p,l,o)∈es
 nr:R.Nodup
 wl:∀a b c p,(a,b)∈bs->il ws p c a->sU ws fs c->c.length<=n->At es p (b+bN ws c) c.length
 cl:∀l o(s:aB)v,ws[s.1]?=some v->frm v s.2∉R->(frm v s.2,l,o)∈es->j7 ws fs (frm v s.2) s=true->At es (too v s.2) (o.2+hsp v s.2) (l+1)few:6<=n->R=[]
structure In(m:Int)(ws:List Wy)(fs:List Int)(bs:List (Int×Int))(n:Nat)(R:List Int)(uI:List En)(K:aB->Prop)(es:List En)(ch:List Int):Prop where
 wh:Wh m ws fs bs n R uI
 cm:Ea m ws fs bs es
 le:∀p l o,(p,l,o)∈uI->At es p o.2 l
 out:∀p l o,p∉ch->(p,l,o)∈es->(p,l,o)∈uI
 chg:∀p∈ch,∃l o,(p,l,o)∈es
 nc:ch.Nodup
 dn:∀s,K s->∀v,ws[s.1]?=some v->∀l o,(frm v s.2,l,o)∈uI->At es (too v s.2) (o.2+hsp v s.2) (l+1)few:5<=n->ch=[]
theorem In.row{m:Int}{ws:List Wy}{fs:List Int}{bs:List (Int×Int)}{n:Nat}{R:List Int}{uI:List En}{K:aB->Prop}{es:List En}{ch:List Int}(h:In m ws fs bs n R uI K es ch){p:Int}(e:p∈R):∃l o,(p,l,o)∈es:=by obtain⟨l,o,z⟩:=h.wh.row p e;obtain⟨l,o,z,_⟩:=h.le _ _ _ z;exact⟨l,o,z⟩
theorem In.keep{fs:List Int}{bs:List (Int×Int)}{R:List Int}{K:aB->Prop}(h:In m ws fs bs n R uI K es ch)(e:ws[s.1]?=some v)(z:(frm v s.2,l,o)∈es)(A:At es (too v s.2) (o.2+hsp v s.2) (l+1)):In m ws fs bs n R uI (λu=>K u\/u=s) es ch:=by
 refine⟨h.wh,h.cm,h.le,h.out,h.chg,h.nc,λu t=>?_,h.few⟩;rcases t with t|rfl;.exact h.dn u t
 .intro E y G H h0;rw[e]at y;cases y;obtain⟨l1,I,B,C⟩:=h.le _ _ _ h0;obtain⟨rfl,rfl⟩:=jD h.cm.nd z B;exact A.le (C.add _)
theorem In.put{fs:List Int}{bs:List (Int×Int)}{R:List Int}{K:aB->Prop}(h:In m ws fs bs n R uI K es ch)(L:HN m ws)(hF:Pt ws fs F)(hb:∀a b,(a,b)∈bs->0<=a/\a<m)(hZ:∀a b c,(a,b)∈bs->il ws 0 c a->sU ws fs c->0<=b+bN ws c)(e:ws[s.1]?=some v)(M:(frm v s.2,l,o)∈es)(ho:j7 ws fs (frm v s.2) s=true)(O:¬ At es (too v s.2) (o.2+hsp v s.2) (l+1)):In m ws fs bs n R uI (λu=>K u\/u=s) (o6 es (too v s.2) (l+1,(some s,o.2+hsp v s.2))) (rH ch (too v s.2)):=by
 have m0:=L.m0;obtain⟨E,b0,c,c0,c1,c2,c3,c4⟩:=h.cm.wk _ _ _ M;have H:il ws (too v s.2) (c++[s]) E:=il.app (c2:=[s]) ⟨v,e,rfl,rfl⟩ c1;have U:sU ws fs (c++[s]):=λu hu=>by
  rcases eW.mp hu with hu|hu;.exact c2 u hu
  .rw[dV.mp hu];exact⟨v,e,ho⟩
 have w3:(c++[s]).length=l+1:=by simp[c3]
 have W:b0+bN ws (c++[s])=o.2+hsp v s.2:=by rw[km,<-c4,bN,bN,gY e];omega
 have A:(too v s.2,l+1,(some s,o.2+hsp v s.2))∈o6 es (too v s.2) (l+1,(some s,o.2+hsp v s.2)):=gn.mpr (.inl ⟨rfl,rfl⟩);have mono:∀{q l2 t},(q,l2,t)∈es->At (o6 es (too v s.2) (l+1,(some s,o.2+hsp v s.2))) q t.2 l2:=λ{q l2 t}z=>by
  by_cases c:q=too v s.2;.subst c;refine⟨_,_,A,?_⟩;have:¬ Le t.2 l2 (o.2+hsp v s.2) (l+1):=λy=>O ⟨_,_,z,y⟩;unfold Le at this ⊢;simp only;omega
  .exact⟨l2,t,gn.mpr (.inr ⟨c,z⟩),.refl⟩
 have QW:∀{q h n},At es q h n->At (o6 es (too v s.2) (l+1,(some s,o.2+hsp v s.2))) q h n:=λ⟨l2,t,G,X⟩=>(mono G).le X;refine⟨h.wh,⟨by rw[Eu];exact BK h.cm.nd,λp l o z=>?_,?_,λp l2 t z=>?_,λp l2 t z=>?_⟩,λp l o z=>QW (h.le p l o z),λp l o hc z=>?_,λp hc=>?_,BK h.nc,λu hu=>?_,λh5=>?_⟩
 . rcases gn.mp z with⟨rfl,_⟩|⟨_,z⟩;.exact Jx L e s.2
   .exact h.cm.inm p l o z
 .refine gn.mpr (.inr ⟨λz=>O ?_,h.cm.z⟩);have:=hZ E b0 _ c0 (by rw[<-z]at H;exact H) U;rw[W]at this;rw[<-z];exact⟨_,_,h.cm.z,by unfold Le;simp only;omega⟩
 . rcases gn.mp z with⟨rfl,y⟩|⟨_,z⟩;.cases y;exact⟨E,b0,_,c0,H,U,w3,W⟩
   .exact h.cm.wk p l2 t z
 . rcases gn.mp z with⟨rfl,y⟩|⟨_,z⟩;.cases y;obtain⟨l',o',B,C⟩:=mono M;exact .inr ⟨s,v,l',o',rfl,e,rfl,ho,B,C.add _⟩
   . rcases h.cm.stp p l2 t z with z|⟨s',I,l',o',G,z3,z4,z5,z6,z7⟩;.exact .inl z
     .obtain⟨Y,Z,B,C⟩:=mono z6;exact .inr ⟨s',I,Y,Z,G,z3,z4,z5,B,(C.add _).trans z7⟩
 . rw[yo,not_or]at hc;rcases gn.mp z with⟨rfl,_⟩|⟨_,z⟩;.exact absurd rfl hc.2
   .exact h.out p l o hc.1 z
 . rcases yo.mp hc with hc|rfl;.obtain⟨l2,t,z⟩:=h.chg p hc;obtain⟨Y,Z,z,_⟩:=mono z;exact⟨Y,Z,z⟩
   .exact⟨_,_,A⟩
 . rcases hu with hu|rfl;.exact λI J l0 o0 h0=>QW (h.dn u hu I J l0 o0 h0)
   .intro I J l0 o0 h0;rw[e]at J;cases J;obtain⟨l1,o1,B,C⟩:=h.le _ _ _ h0;obtain⟨rfl,rfl⟩:=jD h.cm.nd M B;exact⟨_,_,A,C.add _⟩
 .obtain⟨c',B,C,q3,q4,_⟩:=short L hF (hb E b0 c0) _ (dw) H U;obtain⟨l1,o1,G,X⟩:=h.wh.wl E b0 c' _ c0 B C (by omega);rw[w3]at q4;refine absurd ((h.le _ _ _ G).le (X.trans ?_)) O;rw[<-W];unfold Le at q4 ⊢;omega
noncomputable def bE(p:Int×Int):En:=(p.1,0,(none,p.2))
theorem Wh.start{fs:List Int}{bs:List (Int×Int)}(A:∀a b,(a,b)∈bs->0<=a/\a<m)(h0:(0,0)∈bs)(y:(bs.map (·.1)).Nodup):Wh m ws fs bs 0 (bs.map (·.1)) (bs.map bE):=by
 have B:(bs.map bE).map (·.1)=bs.map (·.1):=by rw[ec];rfl
 have un:∀{p l o},(p,l,o)∈bs.map bE->l=0/\o.1=none/\(p,o.2)∈bs:=λ{p l o}z=>by obtain⟨⟨a,b⟩,h1,e⟩:=cU.mp z;cases e;exact⟨rfl,rfl,h1⟩
 have to:∀{a b},(a,b)∈bs->(a,0,(none,b))∈bs.map bE:=λh=>cU.mpr ⟨_,h,rfl⟩;refine⟨⟨by rw[B];exact y,λp l o z=>A _ _ (un z).2.2,to h0,λp l o z=>?_,λp l o z=>.inl ⟨(un z).2.1,(un z).2.2,(un z).1⟩⟩,λp t=>?_,y,λa b c p u t _ hc=>?_,λl o s v _ C z=>?_,λh=>by omega⟩;.exact⟨p,o.2,[],(un z).2.2,rfl,λs hs=>(by cases hs),(un z).1.symm,by rw[bN];omega⟩
 .obtain⟨⟨a,b⟩,h1,rfl⟩:=cU.mp t;exact⟨_,_,to h1⟩
 .cases c with|nil=>have:a=p:=t;subst this;exact⟨0,(none,b),to u,by unfold Le bN;simp⟩|cons _ _=>simp at hc
 .exact absurd (cU.mpr ⟨_,(un z).2.2,rfl⟩) C
theorem Wh.to{fs:List Int}{bs:List (Int×Int)}{R:List Int}(h:Wh m ws fs bs n R es):In m ws fs bs n R es (λ_=>False) es []:=⟨h,h.cm,λp l o z=>⟨l,o,z,.refl⟩,λp l o _ z=>z,λp e=>(by cases e),.nil,λs hs=>hs.elim,λ_=>rfl⟩
theorem In.out'{fs:List Int}{bs:List (Int×Int)}{R:List Int}(h:In m ws fs bs n R uI (λs=>∃p∈R,j7 ws fs p s=true) es ch):Wh m ws fs bs (n+1) ch es:=by
 have t:∀{p h' k},At uI p h' k->At es p h' k:=λ⟨l,o,A,B⟩=>(h.le _ _ _ A).le B;have G:∀(s:aB)v l o,ws[s.1]?=some v->(frm v s.2,l,o)∈uI->j7 ws fs (frm v s.2) s=true->At es (too v s.2) (o.2+hsp v s.2) (l+1):=λs v l o e z ho=>by
  by_cases c:frm v s.2∈R;.exact h.dn s ⟨_,c,ho⟩ v e l o z
  .exact t (h.wh.cl l o s v e c z ho)
 refine⟨h.cm,h.chg,h.nc,λa b c p y H ho hc=>?_,λl o s v e hc z hs=>G s v l o e (h.out _ _ _ hc z) hs,λO=>h.few (by omega)⟩;rcases n5 c with rfl|⟨C,s,rfl⟩;.exact t (h.wh.wl a b [] p y H ho (vU))
 . rw[n8]at*;obtain⟨q,h1,v,e,rfl,E⟩:=Cu H;have E:too v s.2=p:=E;subst E;obtain⟨U,I,J⟩:=ho s (by simp);rw[e]at I;cases I;simp only[dZ,ea,length_nil]at hc;obtain⟨l,o,A,B⟩:=h.wh.wl a b C _ y h1 (λu L=>ho u (by simp[L])) (by omega);refine(G s v l o e A J).le ?_;have:=B.add (hsp v s.2);have M:bN ws (C++[s])=bN ws C+hsp v s.2:=by rw[km,bN,bN,gY e];omega
   rw[M,<-ng];simpa using this
structure xr(m:Int)(ws:List Wy)(fs:List Int)(bs:List (Int×Int))(es:List En):Prop where
 cm:Ea m ws fs bs es
 cl:∀l o(s:aB)v,ws[s.1]?=some v->(frm v s.2,l,o)∈es->j7 ws fs (frm v s.2) s=true->At es (too v s.2) (o.2+hsp v s.2) (l+1)bg:∀a b,(a,b)∈bs->At es a b 0
theorem Wh.fin{fs:List Int}{bs:List (Int×Int)}(h:Wh m ws fs bs n [] es):xr m ws fs bs es:=⟨h.cm,λl o s v e z ho=>h.cl l o s v e (by simp) z ho,λa b t=>by have:=h.wl a b [] a t rfl (λs hs=>by cases hs) (vU);simpa[bN]using this⟩
noncomputable abbrev Cme(m:Int)(ws:List Wy)(fs:List Int)(es:List En):Prop:=Ea m ws fs [(0,0)] es
noncomputable abbrev jd(m:Int)(ws:List Wy)(fs:List Int)(es:List En):Prop:=xr m ws fs [(0,0)] es
theorem In.imp{fs:List Int}{bs:List (Int×Int)}{R:List Int}{K e:aB->Prop}(h:In m ws fs bs n R uI K es ch)(z:∀s,e s->K s):In m ws fs bs n R uI e es ch:=⟨h.wh,h.cm,h.le,h.out,h.chg,h.nc,λs hs=>h.dn s (z s hs),h.few⟩
theorem Tf{fs:List Int}{l:List aB}(e:0<=p/\p<m):at' ((rD (jq ws fs m.toNat l)).map D.lst) p=some (.lst ((l.filter (j7 ws fs p)).map sD)):=by rw[vh e.1 (by simp[rD,jq];omega)];simp[rD,jq,show p.toNat<m.toNat by omega,ja e.1]
@[simp]theorem cut3{a b c:D}:Hg (.tup [a,b,c]) (part (.con .non) .non) (part (.con (.int 2)) (.int 2))=some (.val (.tup [a,b])):=rfl
theorem RW{j:Int}:cm .lt (.tup [.int a,.int i]) (.tup [.int b,.int j])=some (bB [a,i] [b,j]):=rfl
theorem lex_lt{i:Nat}:bB [a,(i:Int)] [b,(j:Int)]=true↔¬ Le b j a i:=by unfold Le;simp[bB];omega
noncomputable def v8(bs:List (Int×Int)):Sl:=.val false (.dv (bs.map (·.1)) (bs.map λp=>.int p.2))
noncomputable abbrev bg:Sl:=v8 [(0,0)]
inductive JC2(m:Int)(ws:List Wy)(fs:List Int)(bs:List (Int×Int))(a0 a1 a2 a3 a6:Sl)(n:Nat)(R:List Int)(uI:List En)(pre:List Int)(p:Int)(r:List D)(ρ:List Sl):Prop where|mk(es:List En)(ch:List Int)(bI us:List aB)(s8 s9 iG:Sl)(q0:ρ=[a0,a1,a2,a3,.cQ (es.map en),.val false (.int p),a6,.cQ (ch.map yO),s8,s9,iG])(q1:A3 (fr s8=true) (fr s9=true) (fr iG=true))(q2:r=us.map sD)(q3:bI++us=(ik ws.length).filter (j7 ws fs p))(q4:In m ws fs bs n R uI (λs=>(∃q∈pre,j7 ws fs q s=true)\/s∈bI) es ch)
inductive JC1(m:Int)(ws:List Wy)(fs:List Int)(bs:List (Int×Int))(a0 a1 a2 a3 a6:Sl)(n:Nat)(R:List Int)(uI:List En)(r:List D)(ρ:List Sl):Prop where|mk(es:List En)(ch pre qs:List Int)(s5 s8 s9 iG:Sl)(q0:ρ=[a0,a1,a2,a3,.cQ (es.map en),s5,a6,.cQ (ch.map yO),s8,s9,iG])(q1:A4 (fr s5=true) (fr s8=true) (fr s9=true) (fr iG=true))(q2:r=qs.map D.int)(q3:pre++qs=R)(q4:In m ws fs bs n R uI (λs=>∃q∈pre,j7 ws fs q s=true) es ch)
inductive JCw(m:Int)(ws:List Wy)(fs:List Int)(bs:List (Int×Int))(a0 a1 a2 a3:Sl)(M:Nat)(ρ:List Sl):Prop where|mk(n:Nat)(R:List Int)(es:List En)(s5 s7 s8 s9 iG:Sl)(q0:ρ=[a0,a1,a2,a3,.cQ (es.map en),s5,.own false (R.map D.int),s7,s8,s9,iG])(q1:A4 (fr s5=true) (fr s8=true) (fr s9=true) (fr iG=true))(q2:(s7=.aQ\/∃d,s7=.val false d))(q3:Wh m ws fs bs n R es)(q4:7<=n+M)
inductive JC0(a0 a1 a2 a3:Sl)(bs:List (Int×Int))(r:List D)(ρ:List Sl):Prop where|mk(bI us:List (Int×Int))(s5:Sl)(q0:ρ=[a0,a1,a2,a3,.cQ ((bI.map bE).map en),s5,.aQ,.aQ,.aQ,.aQ,.aQ])(q1:fr s5=true)(q2:r=(us.map (·.1)).map D.int)(q3:bI++us=bs)
theorem BP{a b:Int}:∀{bs:List (Int×Int)},(bs.map (·.1)).Nodup->(a,b)∈bs->lL ((bs.map (·.1)).zip (bs.map λp=>D.int p.2)) a=some (.int b)
 |[],_,h=>by cases h|p::bs,e,h=>by
   rw[c_,eK]at e;unfold lL;rw[c_,c_,lP,gl];rcases de.mp h with h|h;.subst h;simp
   .have t:p.1≠a:=λz=>e.1 (by rw[z];exact cU.mpr ⟨_,h,rfl⟩);have:=BP e.2 h;unfold lL at this;simpa[t]using this
theorem uq{s:Sl}{fs:List Int}{bs:List (Int×Int)}(hw:100<=w)(hF:Pt ws fs F)(hb:∀a b,(a,b)∈bs->0<=a/\a<m)(h0:(0,0)∈bs)(J:(bs.map (·.1)).Nodup)(hZ:∀a b c,(a,b)∈bs->il ws 0 c a->sU ws fs c->0<=b+bN ws c)(hs:Vs s fs)(h:HN m ws)(hf:fs.length=ws.length)(k:∀es,xr m ws fs bs es->Q (.val (jM es)) [.val false (aN m ws),s,v8 bs]):(run Γ w (n+3) 5 [.val false (aN m ws),s,v8 bs]).sat Q:=by
 have hn:=h.len;have m0:=h.m0;have m1:=h.m1;refine aL (d:=f5) rfl rfl (by decide) ?_;refine bW (λρ=>ρ=[.val false (aN m ws),s,v8 bs,.val false (.lst ((rD (jq ws fs m.toNat (ik ws.length))).map D.lst)),.aQ,.aQ,.aQ,.aQ,.aQ,.aQ,.aQ]) ?_ ?_;.have ax:=hs;rcases hs with rfl|⟨b,rfl⟩;all_goals simp[f5,v8];refine JT (by first|exact .inl rfl|exact .inr ⟨_,rfl⟩) h hf ?_;simp
 rintro _ rfl;generalize hA:((rD (jq ws fs m.toNat (ik ws.length))).map D.lst)=A;have ay:bs.length<=6:=by
  have:=six m1 J λp hp=>by obtain⟨⟨a,b⟩,h1,rfl⟩:=cU.mp hp;exact hb a b h1
  simpa using this
 apply ak;simp;apply ak;simp[v8];refine cA (JC0 (.val false (aN m ws)) s (v8 bs) (.val false (.lst A)) bs) ?_ ?_ ⟨[],bs,.aQ,rfl,rfl,by rw[ec],rfl⟩;.rintro d r _⟨G,C,s5,rfl,U,hr,hd⟩;cases C with|nil=>cases hr|cons u C=>
     obtain⟨rfl,rfl⟩:d=.int u.1/\r=(C.map (·.1)).map D.int:=by simpa using hr
     have al:(G++[u])++C=bs:=by rw[fb];exact hd
     have hg:=BP (a:=u.1) (b:=u.2) J (by rw[<-hd];simp);have hk:o9 ((G.map bE).map en) u.1=false:=kin_no λ⟨l,o,z⟩=>by obtain⟨⟨a,b⟩,h1,e⟩:=cU.mp z;cases e;rw[<-hd,fy,kM]at J;exact J.2.2 u.1 (cU.mpr ⟨_,h1,rfl⟩) u.1 (by simp) rfl
     have hp:fZ ((G.map bE).map en) u.1 (.tup [.int u.2,.int 0,.non])=((G++[u]).map bE).map en:=by rw[mZ hk,fy,fy];rfl
     have aE:G.length<=bs.length:=by rw[<-hd];simp
     simp[U];apply ak;rw[ec]at hp;simp[v8,hg];refine⟨λ_=>⟨G++[u],C,.val false (.int u.1),by rw[hp],rfl,(ec ..).symm,al⟩,by show _<16777216;omega⟩
 rintro _⟨G,C,s5,rfl,U,hr,hd⟩;have:C=[]:=by cases C with|nil=>rfl|cons _ _=>cases hr
 subst this;rw[fE]at hd;obtain rfl:bs=G:=hd.symm;simp;apply ak;simp[v8,show bs.length<=16777216 by omega];apply ak;simp;rw[show map (en ∘ bE) bs=(bs.map bE).map en from(ec ..).symm,show map (D.int ∘ λx=>x.1) bs=(bs.map (·.1)).map D.int from(ec ..).symm];refine jr (JCw m ws fs bs _ _ _ _) ?_ (k:=w) (m:=50) (by omega) ⟨0,bs.map (·.1),bs.map bE,s5,.aQ,.aQ,.aQ,.aQ,rfl,⟨U,rfl,rfl,rfl⟩,.inl rfl,Wh.start hb h0 J,by omega⟩;rintro M _⟨n',R,es,s5,s7,s8,s9,iG,rfl,⟨U,W,X,E⟩,h7,hW,hM⟩;by_cases hR:R=[];.subst hR;simp;apply ak;simp;have:=k es hW.fin;simp[io,en];exact this
 . have am:0<R.length:=by cases R with|nil=>exact absurd rfl hR|cons _ _=>simp
   simp[am];refine bW (λρ=>ρ=[.val false (aN m ws),s,v8 bs,.val false (.lst A),.cQ (es.map en),s5,.own false (R.map D.int),.cQ [],s8,s9,iG]) ?_ ?_
   . rcases h7 with rfl|⟨d,rfl⟩;.simp[v8]
     .simp[v8]
   rintro _ rfl;(first|apply ak|apply Fg);simp;refine cA (JC1 m ws fs bs _ _ _ _ _ n' R es) ?_ ?_ ⟨es,[],[],R,s5,s8,s9,iG,rfl,⟨U,W,X,E⟩,rfl,rfl,hW.to.imp λs hs=>by obtain⟨q,hq,_⟩:=hs;cases hq⟩;.rintro d r _⟨t,ch,pre,qs,s5,s8,s9,iG,rfl,⟨U,W,X,E⟩,hr,L,B⟩;cases qs with|nil=>cases hr|cons p qs=>
       obtain⟨rfl,rfl⟩:d=.int p/\r=qs.map D.int:=by simpa using hr
       have af:p∈R:=by rw[<-L];simp
       have ap:0<=p/\p<m:=by obtain⟨l,o,ho⟩:=B.row af;exact B.cm.inm _ _ _ ho
       have Z:=Tf (ws:=ws) (fs:=fs) (l:=ik ws.length) ap;rw[hA]at Z;simp[U];apply ak;simp[Z];refine cA (JC2 m ws fs bs _ _ _ _ _ n' R es pre p) ?_ ?_ ⟨t,ch,[],_,s8,s9,iG,rfl,⟨W,X,E⟩,rfl,rfl,B.imp λs hs=>by rcases hs with hs|hs;exact hs;cases hs⟩;.rintro d r _⟨t,ch,G,C,s8,s9,iG,rfl,⟨W,X,E⟩,hr,O,B⟩;cases C with|nil=>cases hr|cons u C=>
           obtain⟨rfl,rfl⟩:d=sD u/\r=C.map sD:=by simpa using hr
           have hu:j7 ws fs p u=true:=by
            have:u∈(ik ws.length).filter (j7 ws fs p):=by rw[<-O];simp
            exact(kw.mp this).2
           obtain⟨v,g,e1,e2,e3,e4⟩:=rW hu;have ag:(G++[u])++C=(ik ws.length).filter (j7 ws fs p):=by rw[fb];exact O
           obtain⟨I,op,ac⟩:=B.row af;subst e3;have gp:=pM B.cm.nd ac;have aw:=B.cm.len m1;have ar:ch.length<=6:=six m1 B.nc λq hq=>by obtain⟨l,o,z⟩:=B.chg q hq;exact B.cm.inm _ _ _ z
           have ah:∀s,((∃q∈pre,j7 ws fs q s=true)\/s∈G++[u])->((∃q∈pre,j7 ws fs q s=true)\/s∈G)\/s=u:=λs hs=>by
            rcases hs with hs|hs;.exact .inl (.inl hs)
            . rcases eW.mp hs with hs|hs;.exact .inl (.inr hs)
              .exact .inr (by simpa using hs)
           simp[W];apply ak;simp[sD];refine lN e1 ?_;simp[X];apply ak;simp[gp,zX];refine tR e1 ?_;simp[gp,zX,E];apply ak;have keep:At t (too v u.2) (op.2+hsp v u.2) (I+1)->JC2 m ws fs bs (.val false (aN m ws)) s (v8 bs) (.val false (.lst A)) (.lent (R.map D.int)) n' R es pre (frm v u.2) (C.map sD) [.val false (aN m ws),s,v8 bs,.val false (.lst A),.cQ (t.map en),.val false (.int (frm v u.2)),.lent (R.map D.int),.cQ (ch.map yO),.val false (fK u.1 u.2),.val false (.int (too v u.2)),.val false (.tup [.int (op.2+hsp v u.2),.int ((I:Int)+1)])]:=λH=>⟨t,ch,G++[u],C,_,_,_,rfl,⟨rfl,rfl,rfl⟩,rfl,ag,(B.keep e1 ac H).imp ah⟩;have ai:¬ At t (too v u.2) (op.2+hsp v u.2) (I+1)->JC2 m ws fs bs (.val false (aN m ws)) s (v8 bs) (.val false (.lst A)) (.lent (R.map D.int)) n' R es pre (frm v u.2) (C.map sD) [.val false (aN m ws),s,v8 bs,.val false (.lst A),.cQ ((o6 t (too v u.2) (I+1,(some u,op.2+hsp v u.2))).map en),.val false (.int (frm v u.2)),.lent (R.map D.int),.cQ ((rH ch (too v u.2)).map yO),.val false (fK u.1 u.2),.val false (.int (too v u.2)),.val false (.tup [.int (op.2+hsp v u.2),.int ((I:Int)+1)])]:=λH=>⟨_,_,G++[u],C,_,_,_,rfl,⟨rfl,rfl,rfl⟩,rfl,ag,(B.put h hF hb hZ e1 ac hu H).imp ah⟩;have p1:fZ (t.map en) (too v u.2) (.tup [.int (op.2+hsp v u.2),.int ((I:Int)+1),fK u.1 u.2])=(o6 t (too v u.2) (I+1,(some u,op.2+hsp v u.2))).map en:=by rw[<-Oi];simp[zX,oS,sD]
           have p2:fZ (ch.map yO) (too v u.2) (.bl true)=(rH ch (too v u.2)).map yO:=N5;by_cases hq:∃l o,(too v u.2,l,o)∈t
           . obtain⟨l,o,Y⟩:=hq;have gt:=pM B.cm.nd Y;have kt:o9 (t.map en) (too v u.2)=true:=Al.mpr ⟨l,o,Y⟩;have ae:=lex_lt (a:=op.2+hsp v u.2) (i:=I+1) (b:=o.2) (j:=l);rw[show((I+1:Nat):Int)=(I:Int)+1 by omega]at ae;simp[kt,gt,zX,RW];refine⟨λz=>?_,λz=>?_⟩
             . have H:¬ At t (too v u.2) (op.2+hsp v u.2) (I+1):=λ⟨l2,o2,y1,y2⟩=>by obtain⟨rfl,rfl⟩:=jD B.cm.nd Y y1;exact ae.mp z y2
               (first|apply ak|apply Fg);simp[p1];refine⟨by decide,λ_=>?_,by show _<16777216;omega⟩;(first|apply ak|apply Fg);simp[p2];refine⟨λ_=>ai H,by show _<16777216;omega⟩
             . have H:At t (too v u.2) (op.2+hsp v u.2) (I+1):=by
                refine⟨l,o,Y,?_⟩;by_cases y:Le o.2 l (op.2+hsp v u.2) (I+1);.exact y
                .rw[ae.mpr y]at z;cases z
               exact keep H
           .have kt:o9 (t.map en) (too v u.2)=false:=kin_no hq;simp[kt];apply ak;simp[p1];refine⟨by decide,λ_=>?_,by show _<16777216;omega⟩;(first|apply ak|apply Fg);simp[p2];exact⟨λ_=>ai λ⟨l2,o2,y1,_⟩=>hq ⟨l2,o2,y1⟩,by show _<16777216;omega⟩
       . rintro _⟨t,ch,G,C,s8,s9,iG,rfl,⟨W,X,E⟩,hr,O,B⟩;have:C=[]:=by cases C with|nil=>rfl|cons _ _=>cases hr
         subst this;rw[fE]at O;simp;refine⟨t,ch,pre++[p],qs,_,_,_,_,rfl,⟨rfl,W,X,E⟩,rfl,by rw[fb];exact L,B.imp λs hs=>?_⟩;obtain⟨q,hq,hs⟩:=hs;rcases eW.mp hq with hq|hq;.exact .inl ⟨q,hq,hs⟩
         . obtain rfl:q=p:=by simpa using hq
           refine .inr ?_;rw[O];obtain⟨v,g,e1,_⟩:=rW hs;exact kw.mpr ⟨yq (dJ e1).1,hs⟩
   . rintro _⟨t,ch,pre,qs,s5,s8,s9,iG,rfl,⟨U,W,X,E⟩,hr,L,B⟩;have:qs=[]:=by cases qs with|nil=>rfl|cons _ _=>cases hr
     subst this;rw[fE]at L;subst L;have ar:ch.length<=6:=six m1 B.nc λq hq=>by obtain⟨l,o,z⟩:=B.chg q hq;exact B.cm.inm _ _ _ z
     have hO:=B.out';have aI:n'<6:=by
      by_cases c:6<=n';.exact absurd (hW.few c) hR
      .omega
     simp;apply ak;simp[show ch.length<=16777216 by omega];exact⟨M-1,by omega,n'+1,ch,t,_,_,_,_,_,rfl,⟨U,W,X,E⟩,.inr ⟨_,rfl⟩,hO,by omega⟩
theorem yl{s:Sl}{fs:List Int}(u:100<=w)(t:Pt ws fs F)(hs:Vs s fs)(h:HN m ws)(y:fs.length=ws.length)(k:∀es,jd m ws fs es->Q (.val (jM es)) [.val false (aN m ws),s,bg]):(run Γ w (n+3) 5 [.val false (aN m ws),s,bg]).sat Q:=by
 have m0:=h.m0;have one:∀{a b:Int},(a,b)∈[((0:Int),(0:Int))]->a=0/\b=0:=λe=>by have:=dV.mp e;cases this;exact⟨rfl,rfl⟩
 refine uq u t (λa b e=>by obtain⟨rfl,rfl⟩:=one e;omega) (by simp) (by simp) (λa b c e z ho=>?_) hs h y k;obtain⟨rfl,rfl⟩:=one e;have:=lC t z ho;omega
theorem jd.all{m:Int}{ws:List Wy}{fs:List Int}{es:List En}(h:jd m ws fs es){b:Int}:∀{c:List aB}{a:Int}{l:Nat}{o:Option aB×Int},il ws b c a->sU ws fs c->(a,l,o)∈es->At es b (o.2+bN ws c) (l+c.length)|[],a,l,o,t,_,z=>by have:a=b:=t;subst this;exact⟨l,o,z,by unfold Le bN;simp⟩|s::c,a,l,o,⟨v,e,A,t⟩,ho,z=>by subst A;obtain⟨J,y,B⟩:=ho s (by simp);rw[e]at y;cases y;obtain⟨l1,L,C,M⟩:=h.cl l o s v e z B;obtain⟨l2,E,G,H⟩:=jd.all h t (λu I=>ho u (dE _ I)) C;refine⟨l2,E,G,H.trans ?_⟩;rw[bN,gY e,ea];unfold Le at*;omega
theorem jd.l5{fs:List Int}(h:jd m ws fs es)(t:HN m ws)(u:Pt ws fs F)(z:(p,l,o)∈es):l<=5:=by
 have m0:=t.m0;obtain⟨a,b,c,e,c1,c2,c3,c4⟩:=h.cm.wk p l o z;obtain⟨rfl,rfl⟩:a=0/\b=0:=by have:=dV.mp e;cases this;exact⟨rfl,rfl⟩
 obtain⟨G,y,A,H,B,_⟩:=short t u ⟨by omega,by omega⟩ _ (dw) c1 c2;obtain⟨l2,I,C,E⟩:=h.all y A h.cm.z;obtain⟨rfl,rfl⟩:=jD h.cm.nd z C;rw[Int.zero_add]at c4;rw[c3,c4]at B;unfold Le at*;simp only at E;omega
theorem jd.on{fs:List Int}(h:jd m ws fs es)(z:(p,l,o)∈es):(o=(none,0)/\p=0/\l=0)\/∃(s:aB)(v:Wy)(t:Nat)(e:Option aB×Int),o=(some s,e.2+hsp v s.2)/\l=t+1/\ws[s.1]?=some v/\too v s.2=p/\j7 ws fs (frm v s.2) s=true/\(frm v s.2,t,e)∈es:=by
 rcases h.cm.stp p l o z with⟨h1,u,rfl⟩|⟨s,v,t,e,h1,y,rfl,A,B,E⟩
 . obtain⟨rfl,_⟩:p=0/\o.2=0:=by have:=dV.mp u;exact⟨congrArg Prod.fst this,congrArg Prod.snd this⟩
   exact .inl ⟨(jD h.cm.nd z h.cm.z).2,rfl,rfl⟩
 . obtain⟨l2,G,C,H⟩:=h.cl t e s v y B A;obtain⟨rfl,rfl⟩:=jD h.cm.nd z C;refine .inr ⟨s,v,t,e,?_,?_,y,rfl,A,B⟩;.exact Prod.ext_iff.mpr ⟨h1,by show _=e.2+hsp v s.2;unfold Le at*;omega⟩
   .unfold Le at*;omega
structure Qt(ws:List Wy)(fs:List Int)(es:List En)(p:Int)(L:Nat)(H:Int)(a:Int)(l:Nat)(h:Int)(c:List aB):Prop where
 Kz:il ws p c a
 jq:sU ws fs c
 nd:(c.map (·.1)).Nodup
 lv:∀s∈c,∀v,ws[s.1]?=some v->∃l1 o1 o2,(frm v s.2,l1,o1)∈es/\(too v s.2,l1+1,o2)∈es/\l<=l1
 len:c.length+l=L
 hrs:bN ws c+h=H
theorem j9{g:Bool}(h:g≠f):frm v g=too v f/\too v g=frm v f:=by cases f<;>cases g<;>first|exact absurd rfl h|exact⟨rfl,rfl⟩
theorem Qt.cons{m:Int}{ws:List Wy}{fs:List Int}{es:List En}{p:Int}{L l:Nat}{H x:Int}{c:List aB}{s:aB}{v:Wy}{o G:Option aB×Int}(hc:Cme m ws fs es)(h:Qt ws fs es p L H (too v s.2) (l+1) (x+hsp v s.2) c)(e:ws[s.1]?=some v)(h1:(too v s.2,l+1,o)∈es)(B:(frm v s.2,l,G)∈es)(ho:j7 ws fs (frm v s.2) s=true):Qt ws fs es p L H (frm v s.2) l x (s::c):=by
 refine⟨⟨v,e,rfl,h.Kz⟩,λu hu=>?_,?_,λu hu x ex=>?_,by have:=h.len;simp only[ea];omega,by have:=h.hrs;rw[bN,gY e];omega⟩
 . rcases de.mp hu with rfl|hu;.exact⟨v,e,ho⟩
   .exact h.jq u hu
 . rw[c_,eK];refine⟨λI=>?_,h.nd⟩;obtain⟨t,ht,J⟩:=cU.mp I;obtain⟨l1,C,E,y,A,M⟩:=h.lv t ht v (by rw[J];exact e);by_cases z:t.2=s.2;.rw[z]at y;have:=(jD hc.nd y B).1;omega
   .rw[(j9 z).2]at A;have:=(jD hc.nd A B).1;omega
 . rcases de.mp hu with rfl|hu;.rw[e]at ex;cases ex;exact⟨l,_,_,B,h1,dw⟩
   .obtain⟨l1,C,E,y,A,M⟩:=h.lv u hu x ex;exact⟨l1,C,E,y,A,by omega⟩
theorem xW(e:(es.map (·.1)).Nodup)(h:(p,x)∈es):lL ((es.map (·.1)).zip (es.map zX)) p=some (zX (p,x)):=by
 have:(es.map (·.1)).zip (es.map zX)=es.map en:=by rw[List.zip_map'];rfl
 rw[this];exact pM e h
inductive JSt(m:Int)(ws:List Wy)(fs:List Int)(es:List En)(p:Int)(L:Nat)(H:Int)(a0 a1 a2:Sl)(M:Nat)(ρ:List Sl):Prop where|mk(a:Int)(l:Nat)(o:Option aB×Int)(c:List aB)(s5:Sl)(q0:ρ=[a0,a1,a2,.own false (c.reverse.map sD),.val false (.int a),s5])(q1:fr s5=true)(q2:(a,l,o)∈es)(q3:Qt ws fs es p L H a l o.2 c)(q4:l<=M)
theorem Fp{L:Nat}{fs:List Int}(G:100<=w)(h:jd m ws fs es)(H:L<=5)(B:(p,L,o)∈es)(k:∀c,Qt ws fs es p L o.2 0 0 0 c->Q (.val (.tup (c.map sD))) [.val false (aN m ws),.val false (jM es),.val false (.int p)]):(run Γ w (n+2) 6 [.val false (aN m ws),.val false (jM es),.val false (.int p)]).sat Q:=by
 refine aL (d:=f6) rfl rfl (by decide) ?_;(first|apply ak|apply Fg);simp[f6];apply ak;simp;apply ak;simp;refine jr (JSt m ws fs es p L o.2 _ _ _) ?_ (k:=w) (m:=L) (by omega) ⟨p,L,o,[],.aQ,rfl,rfl,B,⟨rfl,λs hs=>(by cases hs),by simp,by simp,by simp,by rw[bN];omega⟩,dw⟩;rintro M _⟨a,l,I,c,s5,rfl,C,t,hc,J⟩;have u:=xW h.cm.nd t;rcases h.on t with⟨rfl,rfl,rfl⟩|⟨s,v,z,E,rfl,rfl,e,rfl,ho,A⟩;.simp[jM,u,zX,oS];(first|apply ak|apply Fg);simp;exact k c hc
 . simp[jM,u,zX,oS,sD,fK];(first|apply ak|apply Fg);simp[u,zX,oS,C];apply ak;have y:c.length<16777216:=by have:=hc.len;omega
   simp[y];apply ak;simp[sD];refine lN e ?_;simp;exact⟨z,by omega,frm v s.2,z,E,s::c,.val false (fK s.1 s.2),by simp[jM,sD],rfl,A,hc.cons h.cm e t A ho,dw⟩
noncomputable def sg(x:Int)(f:Bool):Int:=if f then x else-x
noncomputable def jK(x:Int)(fs:List Int)(s:aB):List Int:=fs.set s.1 ((fs[s.1]?.getD 0)+sg x s.2)
noncomputable def aug(x:Int)(fs:List Int)(c:List aB):List Int:=c.foldl (jK x) fs
@[simp]theorem xX{x:Int}{fs:List Int}{s:aB}:(jK x fs s).length=fs.length:=by simp[jK]
theorem lY{x:Int}:∀{c:List aB}{fs:List Int},(aug x fs c).length=fs.length|[],_=>rfl|s::c,fs=>by show(aug x (jK x fs s) c).length=_;rw[lY,xX]
theorem m8{x:Int}{j:Nat}:∀{c:List aB}{fs:List Int},j∉c.map (·.1)->(aug x fs c)[j]?=fs[j]?|[],_,_=>rfl|s::c,fs,h=>by rw[c_,de,not_or]at h;show(aug x (jK x fs s) c)[j]?=_;rw[m8 h.2];unfold jK;rw[eP (λz=>h.1 z.symm)]
theorem uU{x:Int}:∀{c:List aB}{fs:List Int}{s:aB}{g:Int},(c.map (·.1)).Nodup->s∈c->fs[s.1]?=some g->(aug x fs c)[s.1]?=some (g+sg x s.2)
 |[],_,_,_,_,h,_=>by cases h|t::c,fs,s,g,u,h,e=>by
   rw[c_,eK]at u;show(aug x (jK x fs t) c)[s.1]?=_;have y:=(dJ e).1;rcases de.mp h with rfl|h;.rw[m8 u.1];unfold jK;rw[bx y,e];rfl
   .refine uU u.2 h ?_;unfold jK;rw[eP (λz=>u.1 (by rw[z];exact cU.mpr ⟨s,h,rfl⟩))];exact e
inductive JWt(x:Int)(fs:List Int)(c:List aB)(a0 a1 a2:Sl)(r:List D)(ρ:List Sl):Prop where|mk(bI us:List aB)(s4 s5:Sl)(q0:ρ=[a0,a1,a2,.own false ((aug x fs bI).map D.int),s4,s5])(q1:fr s4=true)(q2:fr s5=true)(q3:r=us.map sD)(q4:bI++us=c)
theorem yj{s:Sl}{x:Int}{fs:List Int}(hs:Vs s fs)(hc:∀s∈c,s.1<fs.length)(k:Q (.own ((aug x fs c).map D.int)) [s,.val false (.tup (c.map sD)),.val false (.int x)]):(run Γ w (n+1) 7 [s,.val false (.tup (c.map sD)),.val false (.int x)]).sat Q:=by
 refine aL (d:=f7) rfl rfl (by decide) ?_;refine bW (λρ=>ρ=[s,.val false (.tup (c.map sD)),.val false (.int x),.own false (fs.map D.int),.aQ,.aQ]) ?_ ?_;.rcases hs with rfl|⟨b,rfl⟩;all_goals simp[f7]
 rintro _ rfl;(first|apply ak|apply Fg);simp;refine cA (JWt x fs c _ _ _) ?_ ?_ ⟨[],c,.aQ,.aQ,rfl,rfl,rfl,rfl,rfl⟩;.rintro d r _⟨e,h,s4,s5,rfl,z,A,hr,hd⟩;cases h with|nil=>cases hr|cons u h=>
     obtain⟨rfl,rfl⟩:d=sD u/\r=h.map sD:=by simpa using hr
     have C:u.1<(aug x fs e).length:=by rw[lY];exact hc u (by rw[<-hd];simp)
     have y:(aug x fs e)[u.1]?=some (aug x fs e)[u.1]:=by simp[C]
     have B:jE (aug x fs e).length (u.1:Int)=some u.1:=by unfold jE;rw[if_pos (by omega),if_pos (by omega)];simp
     have he:aug x fs (e++[u])=(aug x fs e).set u.1 ((aug x fs e)[u.1]+sg x u.2):=by unfold aug;rw[List.foldl_append];show jK x (aug x fs e) u=_;unfold jK;rw[y];rfl
     have t:(e++[u])++h=c:=by rw[fb];exact hd
     generalize(aug x fs e)[u.1]=g at*;simp[sD,fK,z,A];apply ak;obtain⟨j,f⟩:=u;cases f with|true=>simp[cX y,B];exact⟨e++[(j,true)],h,_,_,by rw[he,map_set];rfl,rfl,rfl,rfl,t⟩|false=>simp[cX y,B];exact⟨e++[(j,false)],h,_,_,by rw[he,map_set];rfl,rfl,rfl,rfl,t⟩
 . rintro _⟨e,h,s4,s5,rfl,z,A,hr,hd⟩;have:h=[]:=by cases h with|nil=>rfl|cons _ _=>cases hr
   subst this;rw[fE]at hd;subst hd;simp;apply ak;simp;exact k
noncomputable def Et(F:Int->Int)(D:Int):List En->Int->Int|[],p=>F p+D|e::es,p=>if e.1=p then e.2.2.2 else Et F D es p
theorem ir{F:Int->Int}{D p:Int}{l:Nat}{o:Option aB×Int}:∀{es:List En},(es.map (·.1)).Nodup->(p,l,o)∈es->Et F D es p=o.2
 |[],_,h=>by cases h|e::es,t,h=>by
   rw[c_,eK]at t;rw[Et];rcases de.mp h with rfl|h;.rw[if_pos rfl]
   .rw[if_neg (λz=>t.1 (by rw[z];exact cU.mpr ⟨_,h,rfl⟩))];exact ir t.2 h
theorem p6{F:Int->Int}{D p:Int}:∀{es:List En},(¬ ∃l o,(p,l,o)∈es)->Et F D es p=F p+D|[],_=>rfl|e::es,h=>by rw[Et,if_neg (λz=>h ⟨e.2.1,e.2.2,by rw[<-z];simp⟩)];exact p6 λ⟨l,o,z⟩=>h ⟨l,o,dE _ z⟩
theorem Bf(F:Int->Int):∀(es:List En),∃D,∀p l o,(p,l,o)∈es->o.2<=F p+D
 |[]=>⟨0,λ_ _ _ h=>by cases h⟩|e::es=>by
   obtain⟨D,h⟩:=Bf F es;refine⟨max D (e.2.2.2-F e.1),λp l o z=>?_⟩;rcases de.mp z with rfl|z;.simp only;omega
   .have:=h p l o z;omega
theorem jd.pt{fs:List Int}{D:Int}(h:jd m ws fs es)(t:Pt ws fs F)(u:∀p l o,(p,l,o)∈es->o.2<=F p+D):Pt ws fs (Et F D es):=λs v e ho=>by
 by_cases c:∃l o,(frm v s.2,l,o)∈es;.obtain⟨l,o,c⟩:=c;obtain⟨l2,y,c2,c3⟩:=h.cl l o s v e c ho;rw[ir h.cm.nd c,ir h.cm.nd c2];unfold Le at c3;omega
 . rw[p6 c];have h1:=t s v e ho;by_cases c2:∃l o,(too v s.2,l,o)∈es;.obtain⟨l2,y,c2⟩:=c2;rw[ir h.cm.nd c2];have:=u _ _ _ c2;omega
   .rw[p6 c2];omega
theorem JM{fs:List Int}{G:Int->Int}(d:Int)(h:Pt ws fs F)(t:Pt ws fs G):Pt ws fs (λp=>min (F p) (G p+d)):=λs v e ho=>by have h1:=h s v e ho;have u:=t s v e ho;simp only;omega
theorem um{ws:List Wy}{fs:List Int}{F:Int->Int}(h:Pt ws fs F){b:Int}:∀{c:List aB}{a:Int},il ws b c a->sU ws fs c->F b=F a+bN ws c->∀s∈c,∀v,ws[s.1]?=some v->F (too v s.2)=F (frm v s.2)+hsp v s.2
 |[],_,_,_,_,s,hs,_,_=>by cases hs|s::c,a,⟨v,e,y,z⟩,ho,he,u,hu,x,ex=>by
   have t:sU ws fs c:=λu hu=>ho u (dE _ hu);have h1:=lC h z t;obtain⟨C,A,o⟩:=ho s (by simp);rw[e]at A;cases A;have B:=h s v e o;rw[y]at B;rw[bN,gY e]at he;rcases de.mp hu with rfl|hu;.rw[e]at ex;cases ex;rw[y];omega
   .exact um h z t (by omega) u hu x ex
theorem qG{fs:List Int}{x:Int}{t:aB}(hc:sU ws fs c)(e:ws[t.1]?=some v)(h:j7 ws (aug x fs c) (frm v t.2) t=true):j7 ws fs (frm v t.2) t=true\/∃s∈c,s.1=t.1/\t.2≠s.2:=by
 by_cases z:t.1∈c.map (·.1)
 . obtain⟨s,hs,es⟩:=cU.mp z;by_cases q:t.2=s.2;.have:t=s:=Prod.ext_iff.mpr ⟨es.symm,q⟩;subst this;obtain⟨y,u,o⟩:=hc t hs;rw[e]at u;cases u;exact .inl o
   .exact .inr ⟨s,hs,es,q⟩
 .refine .inl ?_;unfold j7 at h ⊢;rwa[m8 z]at h
theorem Pt.aug{ws:List Wy}{fs:List Int}{F:Int->Int}(h:Pt ws fs F){a b x:Int}{c:List aB}(y:il ws b c a)(ho:sU ws fs c)(he:F b=F a+bN ws c):Pt ws (aug x fs c) F:=λt v e o=>by
 rcases qG ho e o with o|⟨u,z,A,ne⟩;.exact h t v e o
 . have:=um h y ho he u z v (by rw[A];exact e);rw[(j9 ne).1,(j9 ne).2];have:hsp v t.2=-hsp v u.2:=by cases h1:t.2<;>cases h2:u.2<;>simp[hsp]<;>(rw[h1,h2]at ne;exact absurd rfl ne)
   omega
noncomputable def eU(G:Wy->Int):List Wy->List Int->Int|v::ws,g::fs=>G v*g+eU G ws fs|_,_=>0
noncomputable def jG(H:Wy->Int):List Wy->Int|[]=>0|v::ws=>H v+jG H ws
theorem Ag{G H:Wy->Int}:∀{ws:List Wy}{fs:List Int},fs.length=ws.length->(∀(j:Nat)v g,ws[j]?=some v->fs[j]?=some g->G v*g<=H v)->eU G ws fs<=jG H ws|[],[],_,_=>eM _|[],_::_,h,_=>by simp at h|_::_,[],h,_=>by simp at h|v::ws,g::fs,h,k=>by have h1:=k 0 v g rfl rfl;have u:=Ag (G:=G) (H:=H) (ws:=ws) (fs:=fs) (by simpa using h) λj v g e t=>k (j+1) v g (by simpa using e) (by simpa using t);rw[eU,jG];omega
theorem J4{G H:Wy->Int}:∀{ws:List Wy}{fs:List Int},fs.length=ws.length->(∀(j:Nat)v g,ws[j]?=some v->fs[j]?=some g->H v<=G v*g)->jG H ws<=eU G ws fs|[],[],_,_=>eM _|[],_::_,h,_=>by simp at h|_::_,[],h,_=>by simp at h|v::ws,g::fs,h,k=>by have h1:=k 0 v g rfl rfl;have u:=J4 (G:=G) (H:=H) (ws:=ws) (fs:=fs) (by simpa using h) λj v g e t=>k (j+1) v g (by simpa using e) (by simpa using t);rw[eU,jG];omega
theorem Cj{G:Wy->Int}{v:Wy}{g y:Int}:∀{j:Nat}{ws:List Wy}{fs:List Int},ws[j]?=some v->fs[j]?=some g->eU G ws (fs.set j (g+y))=eU G ws fs+G v*y|_,[],_,e,_=>by simp at e|_,_::_,[],_,e=>by simp at e|0,u::ws,f::fs,h,t=>by simp at h t;subst h t;rw[List.set_cons_zero,eU,eU,mul_add];omega|j+1,u::ws,f::fs,h,t=>by rw[List.set_cons_succ,eU,eU,Cj (j:=j) (by simpa using h) (by simpa using t)];omega
noncomputable def gap(k:Int)(q:Int->Int)(v:Wy):Int:=q v.t-q v.s-k*v.h
theorem HB{x:Int}:gap k q v*sg x f=x*(q (too v f)-q (frm v f)-k*hsp v f):=by cases f with|true=>show(q v.t-q v.s-k*v.h)*x=x*(q v.t-q v.s-k*v.h);exact qh _ _|false=>show(q v.t-q v.s-k*v.h)*(-x)=x*(q v.s-q v.t-k*(-v.h));rw[mul_neg,mul_neg k,show q v.s-q v.t- -(k*v.h)=-(q v.t-q v.s-k*v.h)by omega,mul_neg,qh]
theorem p7{k x:Int}{q:Int->Int}{ws:List Wy}{b:Int}:∀{c:List aB}{fs:List Int}{a:Int},fs.length=ws.length->il ws b c a->eU (gap k q) ws (aug x fs c)=eU (gap k q) ws fs+x*(q b-q a-k*bN ws c)
 |[],fs,a,_,h=>by have:a=b:=h;subst this;show _=_+x*(q a-q a-k*0);simp;rfl|s::c,fs,a,u,⟨v,e,z,A⟩=>by
   show eU (gap k q) ws (aug x (jK x fs s) c)=_;have t:s.1<fs.length:=by rw[u];exact(dJ e).1
   have y:fs[s.1]?=some fs[s.1]:=by simp[t]
   rw[p7 (by rw[xX];exact u) A];have:jK x fs s=fs.set s.1 (fs[s.1]+sg x s.2):=by unfold jK;rw[y];rfl
   rw[this,Cj e y,HB,z,ng,<-mul_add,bN,gY e,mul_add k];congr 2;omega
structure KJ(ws:List Wy)(fs:List Int):Prop where
 len:fs.length=ws.length
 ok:∀(j:Nat)v g,ws[j]?=some v->fs[j]?=some g->0<=g/\g<=v.r
theorem KJ.aug{ws:List Wy}{fs:List Int}{c:List aB}{x:Int}(h:KJ ws fs)(B:(c.map (·.1)).Nodup)(C:0<x)(hc:∀s∈c,∃v g,ws[s.1]?=some v/\fs[s.1]?=some g/\x<=oA v g s.2):KJ ws (aug x fs c):=by
 refine⟨by rw[lY];exact h.len,λj v g t e=>?_⟩;by_cases z:j∈c.map (·.1);.obtain⟨s,hs,rfl⟩:=cU.mp z;obtain⟨E,g',u,y,A⟩:=hc s hs;rw[t]at u;cases u;rw[uU B hs y]at e;cases e;have:=h.ok _ _ _ t y;cases hf:s.2<;>rw[hf]at A<;>simp[oA,sg]at A ⊢<;>omega
 .rw[m8 z]at e;exact h.ok _ _ _ t e
noncomputable def ji(q:Int->Int)(v:Wy):Int:=v.r*max 0 (q v.t-q v.s-v.h)
noncomputable def dU(q:Int->Int)(ws:List Wy):Int:=jG (ji q) ws
theorem Zx:gap 1 q v=q v.t-q v.s-v.h:=by unfold gap;omega
theorem vD{fs:List Int}(h:KJ ws fs):eU (gap 1 q) ws fs<=dU q ws:=Ag h.len λj v g e u=>by
 have:=h.ok _ _ _ e u;rw[Zx];unfold ji;generalize q v.t-q v.s-v.h=y;by_cases c:0<=y;.rw[Int.max_eq_right c,qh];exact i4 this.2 c
 .rw[Int.max_eq_left (by omega),n9];exact Int.mul_nonpos_of_nonpos_of_nonneg (by omega) this.1
theorem K7{fs:List Int}(h:KJ ws fs)(A:Pt ws fs q):dU q ws=eU (gap 1 q) ws fs:=by
 refine Int.le_antisymm (J4 h.len λj v g e u=>?_) (vD h);have E:=h.ok _ _ _ e u;have C:0<v.r-g->q v.t<=q v.s+v.h:=λz=>A (j,true) v e (by rw[jA (s:=(j,true)) e u];simp[frm,oA];omega);have B:0<g->q v.s<=q v.t+-v.h:=λz=>A (j,false) v e (by rw[jA (s:=(j,false)) e u];simp[frm,oA];omega);rw[Zx];unfold ji;generalize G:q v.t-q v.s-v.h=y;by_cases c:g=v.r
 . subst c;by_cases c0:0<v.r;.have:=B c0;rw[Int.max_eq_right (by omega),qh];exact eM _
   . have:v.r=0:=by omega
     rw[this];simp
 . have:=C (by omega);rw[Int.max_eq_left (by omega),n9];by_cases c0:0<g;.have:=B c0;rw[show y=0 by omega];simp
   .rw[show g=0 by omega];simp
noncomputable def oK(fs:List Int)(x:List aB×Int):List Int:=aug x.2 fs x.1
noncomputable def flow(N:Nat)(cs:List (List aB×Int)):List Int:=cs.foldl oK (b_ N 0)
theorem qR{x:List aB×Int}:flow N (cs++[x])=aug x.2 (flow N cs) x.1:=by unfold flow;rw[List.foldl_append];rfl
noncomputable def bR(H:List aB×Int->Int):List (List aB×Int)->Int|[]=>0|x::cs=>H x+bR H cs
theorem jF{H:List aB×Int->Int}{x:List aB×Int}:∀{cs:List (List aB×Int)},bR H (cs++[x])=bR H cs+H x|[]=>by simp[bR]|y::cs=>by rw[gT,bR,bR,jF];omega
theorem jc{H K:List aB×Int->Int}:∀{cs:List (List aB×Int)},(∀x∈cs,H x=K x)->bR H cs=bR K cs|[],_=>rfl|x::cs,h=>by rw[bR,bR,h x (by simp),jc λy e=>h y (by simp[e])]
theorem Jg{H:List aB×Int->Int}:∀{cs:List (List aB×Int)},(∀x∈cs,1<=H x)->(cs.length:Int)<=bR H cs|[],_=>by simp[bR]|x::cs,h=>by have h1:=h x (by simp);have t:=Jg (H:=H) (cs:=cs) λy e=>h y (by simp[e]);rw[bR,ea];omega
noncomputable def Tj(ws:List Wy)(T:Int)(x:List aB×Int):Int:=if bN ws x.1<=T then x.2*(T-bN ws x.1+1)else 0
noncomputable def val(ws:List Wy)(T:Int)(cs:List (List aB×Int)):Int:=bR (Tj ws T) cs
structure dW(m:Int)(ws:List Wy)(T v:Int):Prop where
 ex:∃q:Int->Int,q 0=0/\q (m-1)=T+1/\dU q ws=v
 le:∀q:Int->Int,q 0=0->q (m-1)=T+1->v<=dU q ws
theorem xV{T:Int}{fs:List Int}{G:Int->Int}(fit:KJ ws fs)(dt:∀k q,eU (gap k q) ws fs=bR (λx=>x.2*(q (m-1)-q 0-k*bN ws x.1)) cs)(z:∀x∈cs,bN ws x.1<=T+1)(A:Pt ws fs G)(t:G 0=0)(u:G (m-1)=T+1):dW m ws T (val ws T cs):=by
 have y:∀q:Int->Int,q 0=0->q (m-1)=T+1->eU (gap 1 q) ws fs=val ws T cs:=λq e h=>by
  rw[dt,e,h];refine jc λx B=>?_;have:=z x B;unfold Tj;split;.congr 1;omega
  .rw[show T+1-0-1*bN ws x.1=0 by omega,n9]
 exact⟨⟨G,t,u,by rw[K7 fit A,y G t u]⟩,λq e h=>by rw[<-y q e h];exact vD fit⟩
structure yD(m:Int)(ws:List Wy)(cs:List (List aB×Int))(fs:List Int)(F:Int->Int)(d:Int):Prop where
 fit:KJ ws fs
 pt:Pt ws fs F
 z:F 0=0
 e:F (m-1)=d
 d0:0<=d
 nn:(∀v∈ws,1<=v.h)->1<=d/\∀x∈cs,1<=bN ws x.1
 ch:∀x∈cs,bN ws x.1<=d/\0<x.2/\∀s∈x.1,s.1<ws.length
 dt:∀k q,eU (gap k q) ws fs=bR (λx=>x.2*(q (m-1)-q 0-k*bN ws x.1)) cs
 lst:∀T,0<=T->T+1<=d->dW m ws T (val ws T cs)
theorem rB{G:Wy->Int}:∀{ws:List Wy}{n:Nat},eU G ws (b_ n 0)=0|[],n=>by unfold eU;rfl|v::ws,0=>rfl|v::ws,n+1=>by rw[gS,eU,rB];simp
theorem uL(h:(b_ n (0:Int))[j]?=some g):g=0:=(List.mem_replicate.mp (da h)).2
noncomputable def F01(b p:Int):Int:=if p=0 then 0 else b
theorem yD.zero(m0:2<=m)(A:∀v∈ws,0<=v.h)(hr:∀v∈ws,0<=v.r):∃b,yD m ws [] (b_ ws.length 0) (F01 b) b:=by
 have fit:KJ ws (b_ ws.length 0):=⟨by simp,λj v g t u=>by rw[uL u];exact⟨eM _,hr v (da t)⟩⟩;have pt:∀b:Int,0<=b->(∀v∈ws,b<=v.h)->Pt ws (b_ ws.length 0) (F01 b):=λb b0 B s v e ho=>by obtain⟨E,g,t,u,_,y⟩:=rW ho;rw[e]at t;cases t;have:=uL u;subst this;have:=B v (da e);cases hf:s.2<;>rw[hf]at y<;>simp[oA,hsp,F01]at y ⊢;split<;>split<;>omega
 have dt:∀k q,eU (gap k q) ws (b_ ws.length 0)=bR (λx=>x.2*(q (m-1)-q 0-k*bN ws x.1)) []:=λk q=>by rw[rB];rfl
 have t:∀b,F01 b (m-1)=b:=λb=>by unfold F01;rw[if_neg (by omega)]
 by_cases c:∀v∈ws,1<=v.h;.exact⟨1,fit,pt 1 (by omega) c,rfl,t 1,by omega,λ_=>⟨eM _,by simp⟩,by simp,dt,λT h1 C=>xV fit dt (by simp) (pt 1 (by omega) c) rfl (by rw[t];omega)⟩
 .exact⟨0,fit,pt 0 (by omega) A,rfl,t 0,by omega,λz=>absurd z c,by simp,dt,λT h1 C=>by omega⟩
theorem yD.at{d T:Int}{fs:List Int}{G:Int->Int}(h:yD m ws cs fs F d)(e:d<=T+1)(t:Pt ws fs G)(u:G 0=0)(y:G (m-1)=T+1):dW m ws T (val ws T cs):=xV h.fit h.dt (λx z=>Int.le_trans (h.ch x z).1 e) t u y
theorem yD.more{d:Int}{fs:List Int}{x:Int}(h:yD m ws cs fs F d)(t:jd m ws fs es)(u:(m-1,l,o)∈es)(hc:Qt ws fs es (m-1) l o.2 0 0 0 c)(A:0<x)(hr:∀s∈c,∃v g,ws[s.1]?=some v/\fs[s.1]?=some g/\x<=oA v g s.2):∃G,yD m ws (cs++[(c,x)]) (aug x fs c) G o.2:=by
 obtain⟨D,H⟩:=Bf F es;have B:=t.pt h.pt H;have J:bN ws c=o.2:=by have:=hc.hrs;omega
 have C:Et F D es 0=0:=ir t.cm.nd t.cm.z;have E:Et F D es (m-1)=o.2:=ir t.cm.nd u;have hd:d<=o.2:=by have:=lC h.pt hc.Kz hc.jq;rw[h.e,h.z]at this;omega
 refine⟨Et F D es,h.fit.aug hc.nd A hr,B.aug hc.Kz hc.jq (by rw[C,E];omega),C,E,by have:=h.d0;omega,λz=>⟨by have:=(h.nn z).1;omega,λy hy=>?_⟩,λy hy=>?_,λk q=>?_,λT h0 h1=>?_⟩
 . rcases eW.mp hy with hy|hy;.exact(h.nn z).2 y hy
   .rw[dV.mp hy];show 1<=bN ws c;have:=(h.nn z).1;omega
 . rcases eW.mp hy with hy|hy;.have:=h.ch y hy;exact⟨by omega,this.2⟩
   .rw[dV.mp hy];refine⟨by show bN ws c<=_;omega,A,λs hs=>?_⟩;obtain⟨v,g,e,_⟩:=hr s hs;exact(dJ e).1
 .rw[p7 h.fit.len hc.Kz,jF,h.dt]
 . have I:val ws T (cs++[(c,x)])=val ws T cs:=by unfold val;rw[jF];show _+(if bN ws c<=T then _ else 0)=_;rw[if_neg (by omega)];omega
   rw[I];by_cases q:T+1<=d;.exact h.lst T h0 q
   . refine h.at (by omega) (JM (T+1-d) B h.pt) ?_ ?_;.have:=h.z;omega
     .have:=h.e;omega
theorem yD.least{d T:Int}{fs:List Int}(h:yD m ws cs fs F d)(t:jd m ws fs es)(u:¬ ∃l o,(m-1,l,o)∈es)(h0:0<=T):dW m ws T (val ws T cs):=by
 by_cases q:T+1<=d;.exact h.lst T h0 q
 . obtain⟨D,y⟩:=Bf F es;have A:=t.pt (D:=max D (T+1-d)) h.pt λp l o z=>by have:=y p l o z;omega
   have B:Et F (max D (T+1-d)) es 0=0:=ir t.cm.nd t.cm.z;have C:Et F (max D (T+1-d)) es (m-1)=F (m-1)+max D (T+1-d):=p6 u;refine h.at (by omega) (JM (T+1-d) A h.pt) ?_ ?_;.have:=h.z;omega
   .have:=h.e;omega
noncomputable def Gq(v:Wy)(f:Bool):Int:=7*hsp v f+1
noncomputable def PQ(ws:List Wy)(fs:List Int)(P:Int->Int):Prop:=∀(s:aB)(v:Wy),ws[s.1]?=some v->j7 ws fs (frm v s.2) s=true->P (too v s.2)<=P (frm v s.2)+Gq v s.2
noncomputable def yC(ws:List Wy)(c:List aB):Int:=7*bN ws c+c.length
theorem rA(e:ws[s.1]?=some v):yC ws (s::c)=Gq v s.2+yC ws c:=by unfold yC Gq;rw[bN,gY e,ea];omega
theorem yP{ws:List Wy}{fs:List Int}{P:Int->Int}(h:PQ ws fs P){b:Int}:∀{c:List aB}{a:Int},il ws b c a->sU ws fs c->P b<=P a+yC ws c|[],a,t,_=>by have:a=b:=t;rw[this];simp[yC,bN]|s::c,a,⟨v,e,z,t⟩,ho=>by have h1:=yP h t λu A=>ho u (dE _ A);obtain⟨C,y,o⟩:=ho s (by simp);rw[e]at y;cases y;have B:=h s v e o;rw[z]at B;rw[rA e];omega
theorem uo{ws:List Wy}{fs:List Int}{P:Int->Int}(h:PQ ws fs P){b:Int}:∀{c:List aB}{a:Int},il ws b c a->sU ws fs c->P b=P a+yC ws c->∀s∈c,∀v,ws[s.1]?=some v->P (too v s.2)=P (frm v s.2)+Gq v s.2
 |[],_,_,_,_,s,hs,_,_=>by cases hs|s::c,a,⟨v,e,y,z⟩,ho,he,u,hu,x,ex=>by
   have t:sU ws fs c:=λu hu=>ho u (dE _ hu);have h1:=yP h z t;obtain⟨C,A,o⟩:=ho s (by simp);rw[e]at A;cases A;have B:=h s v e o;rw[y]at B;rw[rA e]at he;rcases de.mp hu with rfl|hu;.rw[e]at ex;cases ex;rw[y];omega
   .exact uo h z t (by omega) u hu x ex
noncomputable def tgt(ws:List Wy)(fs:List Int)(P:Int->Int)(s:aB):Bool:=match ws[s.1]?with|some v=>j7 ws fs (frm v s.2) s&&decide (P (too v s.2)=P (frm v s.2)+Gq v s.2)|none=>false
theorem G8{fs:List Int}{P:Int->Int}(e:ws[s.1]?=some v):tgt ws fs P s=(j7 ws fs (frm v s.2) s&&decide (P (too v s.2)=P (frm v s.2)+Gq v s.2)):=by unfold tgt;rw[e]
noncomputable def JN(ws:List Wy)(fs:List Int)(P:Int->Int):Nat:=((ik ws.length).filter (tgt ws fs P)).length
theorem CN{fs:List Int}{P:Int->Int}(h:ws.length<=12):JN ws fs P<=24:=by have:=ky (tgt ws fs P) (ik ws.length);rw[wQ]at this;unfold JN;omega
theorem Hj{p q:aB->Bool}(h:∀t,q t=true->p t=true):∀(l:List aB),(l.filter q).length<=(l.filter p).length|[]=>dw|t::l=>by have e:=Hj h l;cases hq:q t with|true=>simp[hq,h t hq,e]|false=>cases hp:p t with|true=>simp[hq,hp];omega|false=>simp[hq,hp,e]
theorem Jv{p q:aB->Bool}{s:aB}(h:∀t,q t=true->p t=true)(e:p s=true)(u:q s=false):∀{l:List aB},s∈l->(l.filter q).length<(l.filter p).length
 |[],hs=>by cases hs|t::l,hs=>by
   have le:=Hj h l;rcases de.mp hs with rfl|hs;.simp[e,u];omega
   .have y:=Jv h e u hs;cases hq2:q t with|true=>simp[hq2,h t hq2,y]|false=>cases hp2:p t with|true=>simp[hq2,hp2];omega|false=>simp[hq2,hp2,y]
theorem Hb{fs:List Int}(h:(c.map (·.1)).Nodup)(hs:s∈c)(e:ws[s.1]?=some v)(t:fs[s.1]?=some g):j7 ws (aug (oA v g s.2) fs c) p s=false:=by
 rw[jA e (uU h hs t)];have:oA v (g+sg (oA v g s.2) s.2) s.2=0:=by cases s.2<;>simp[oA,sg]<;>omega
 rw[this];simp
theorem PQ.aug{ws:List Wy}{fs:List Int}{P:Int->Int}(h:PQ ws fs P){a b:Int}{c:List aB}{s:aB}{v:Wy}{g:Int}(E:il ws b c a)(ho:sU ws fs c)(G:(c.map (·.1)).Nodup)(he:P b=P a+yC ws c)(hs:s∈c)(e:ws[s.1]?=some v)(H:fs[s.1]?=some g):PQ ws (aug (oA v g s.2) fs c) P/\JN ws (aug (oA v g s.2) fs c) P<JN ws fs P:=by
 have A:=uo h E ho he;have back:∀(t u:aB)(x:Wy),u∈c->u.1=t.1->t.2≠u.2->ws[t.1]?=some x->P (too x t.2)<P (frm x t.2)+Gq x t.2:=λt u x y z ne ex=>by
  have h1:=A u y x (by rw[z];exact ex);rw[(j9 ne).1,(j9 ne).2];have B:hsp x t.2=-hsp x u.2:=by cases h1:t.2<;>cases B:u.2<;>simp[hsp]<;>(rw[h1,B]at ne;exact absurd rfl ne)
  unfold Gq at*;omega
 refine⟨λt x ex o=>?_,?_⟩
 . rcases qG ho ex o with o|⟨u,y,z,ne⟩;.exact h t x ex o
   .have:=back t u x y z ne ex;omega
 . obtain⟨I,C,o⟩:=ho s hs;rw[e]at C;cases C;refine Jv (s:=s) (λt ht=>?_) (by rw[G8 e,o,A s hs v e];simp) (by rw[G8 e,Hb G hs e H];rfl) (yq (dJ e).1);unfold tgt at ht ⊢;split at ht
   . rename_i x ex;simp only[fN,decide_eq_true_eq]at ht ⊢;refine⟨?_,ht.2⟩;rcases qG ho ex ht.1 with o|⟨u,y,z,ne⟩;.exact o
     .have:=back t u x y z ne ex;omega
   .cases ht
noncomputable abbrev PJ:=List (Option Bool)
noncomputable def kY:List Wy->PJ->Int|v::ws,some f::es=>Gq v f+kY ws es|_::ws,none::es=>kY ws es|_,_=>0
noncomputable def DQ(N:Nat):List aB->PJ|[]=>b_ N none|s::c=>(DQ N c).set s.1 (some s.2)
theorem uV{N:Nat}:∀{c:List aB},(DQ N c).length=N|[]=>by simp[DQ]|s::c=>by rw[DQ,List.length_set,uV]
theorem Dp{N j:Nat}:∀{c:List aB},j<N->j∉c.map (·.1)->(DQ N c)[j]?=some none|[],h,_=>by simp[DQ,h]|s::c,h,e=>by rw[c_,de,not_or]at e;rw[DQ,eP (λz=>e.1 z.symm)];exact Dp h e.2
theorem wF{v:Wy}{f:Bool}:∀{j:Nat}{ws:List Wy}{es:PJ},ws[j]?=some v->es[j]?=some none->kY ws (es.set j (some f))=kY ws es+Gq v f|_,[],_,e,_=>by simp at e|_,_::_,[],_,e=>by simp at e|0,u::ws,x::es,h,t=>by simp at h t;subst h t;rw[List.set_cons_zero,kY,kY];omega|j+1,u::ws,x::es,h,t=>by have y:=wF (f:=f) (j:=j) (ws:=ws) (es:=es) (by simpa using h) (by simpa using t);rw[List.set_cons_succ];cases x with|none=>rw[kY,kY,y]|some g=>rw[kY,kY,y];omega
theorem tX:∀{ws:List Wy}{n:Nat},kY ws (b_ n none)=0|[],n=>by unfold kY;rfl|v::ws,0=>rfl|v::ws,n+1=>by rw[gS,kY,tX]
theorem uX{ws:List Wy}{b:Int}:∀{c:List aB}{a:Int},il ws b c a->(c.map (·.1)).Nodup->kY ws (DQ ws.length c)=yC ws c|[],_,_,_=>by rw[DQ,tX];simp[yC,bN]|s::c,a,⟨v,e,_,t⟩,h=>by rw[c_,eK]at h;rw[DQ,wF e (Dp (dJ e).1 h.1),uX t h.2,rA e];omega
noncomputable def sZ:Nat->List PJ|0=>[[]]|n+1=>(sZ n).map (none::·)++((sZ n).map (some true::·)++(sZ n).map (some false::·))
theorem qH:∀{n:Nat},(sZ n).length=3^n|0=>rfl|n+1=>by rw[sZ,dZ,dZ,dy,dy,dy,qH,Nat.pow_succ];omega
theorem qY:∀{e:PJ},e∈sZ e.length|[]=>by simp[sZ]|x::e=>by have h:=qY (e:=e);rw[ea,sZ,eW,eW];cases x with|none=>exact .inl (cU.mpr ⟨e,h,rfl⟩)|some f=>cases f with|true=>exact .inr (.inl (cU.mpr ⟨e,h,rfl⟩))|false=>exact .inr (.inr (cU.mpr ⟨e,h,rfl⟩))
structure Ly(m:Int)(ws:List Wy)(k:Nat)(fs:List Int)(P:Int->Int)(lam:Int)(seen:List PJ):Prop where
 pt:PQ ws fs P
 z:P 0=0
 e:P (m-1)=lam
 nd:seen.Nodup
 sl:∀e∈seen,e.length=ws.length/\kY ws e<=lam
 cnt:k+JN ws fs P<=25*(seen.length+1)
theorem Ly.few{t:Int}{k:Nat}{fs:List Int}{P:Int->Int}{seen:List PJ}(h:Ly m ws k fs P t seen)(u:ws.length<=12):k<=13286050:=by
 have h1:=mR (l2:=sZ ws.length) h.nd λe he=>by rw[<-(h.sl e he).1];exact qY
 rw[qH]at h1;have y:3^ws.length<=3^12:=oy (by decide) u;have z:(3:Nat)^12=531441:=by decide
 have:=h.cnt;omega
theorem Ly.zero(y:ws.length<=12)(z:∀v∈ws,0<=v.h):Ly m ws 0 (b_ ws.length 0) (λ_=>0) 0 []:=by refine⟨λs v e ho=>?_,rfl,rfl,.nil,by simp,by have:=CN (fs:=b_ ws.length 0) (P:=λ_=>0) y;simp;omega⟩;obtain⟨B,g,t,A,_,u⟩:=rW ho;rw[e]at t;cases t;have:=uL A;subst this;have:=z v (da e);cases hf:s.2<;>rw[hf]at u<;>simp[oA,Gq,hsp]at u ⊢;omega
noncomputable def KH(F:Int->Int)(D:Int):List En->Int->Int|[],p=>F p+D|e::es,p=>if e.1=p then 7*e.2.2.2+(e.2.1:Int)else KH F D es p
theorem nC{F:Int->Int}{D p:Int}{l:Nat}{o:Option aB×Int}:∀{es:List En},(es.map (·.1)).Nodup->(p,l,o)∈es->KH F D es p=7*o.2+l
 |[],_,h=>by cases h|e::es,t,h=>by
   rw[c_,eK]at t;rw[KH];rcases de.mp h with rfl|h;.rw[if_pos rfl]
   .rw[if_neg (λz=>t.1 (by rw[z];exact cU.mpr ⟨_,h,rfl⟩))];exact nC t.2 h
theorem u6{F:Int->Int}{D p:Int}:∀{es:List En},(¬ ∃l o,(p,l,o)∈es)->KH F D es p=F p+D|[],_=>rfl|e::es,h=>by rw[KH,if_neg (λz=>h ⟨e.2.1,e.2.2,by rw[<-z];simp⟩)];exact u6 λ⟨l,o,z⟩=>h ⟨l,o,dE _ z⟩
theorem Hx(F:Int->Int):∀(es:List En),∃D,∀p l o,(p,l,o)∈es->7*o.2+(l:Int)<=F p+D
 |[]=>⟨0,λ_ _ _ h=>by cases h⟩|e::es=>by
   obtain⟨D,h⟩:=Hx F es;refine⟨max D (7*e.2.2.2+(e.2.1:Int)-F e.1),λp l o z=>?_⟩;rcases de.mp z with rfl|z;.simp only;omega
   .have:=h p l o z;omega
theorem jd.pts{fs:List Int}{P:Int->Int}{D:Int}(h:jd m ws fs es)(t:HN m ws)(u:Pt ws fs F)(y:PQ ws fs P)(z:∀p l o,(p,l,o)∈es->7*o.2+(l:Int)<=P p+D):PQ ws fs (KH P D es):=λs v e ho=>by
 by_cases c:∃l o,(frm v s.2,l,o)∈es;.obtain⟨l,o,c⟩:=c;obtain⟨l2,A,c2,c3⟩:=h.cl l o s v e c ho;rw[nC h.cm.nd c,nC h.cm.nd c2];have:=h.l5 t u c2;unfold Le at c3;unfold Gq;omega
 . rw[u6 c];have h1:=y s v e ho;by_cases c2:∃l o,(too v s.2,l,o)∈es;.obtain⟨l2,A,c2⟩:=c2;rw[nC h.cm.nd c2];have:=z _ _ _ c2;omega
   .rw[u6 c2];omega
theorem Ly.more{t:Int}{k:Nat}{fs:List Int}{P:Int->Int}{seen:List PJ}(h:Ly m ws k fs P t seen)(B:HN m ws)(I:Pt ws fs F)(u:jd m ws fs es)(y:(m-1,l,o)∈es)(hc:Qt ws fs es (m-1) l o.2 0 0 0 c)(hs:s∈c)(e:ws[s.1]?=some v)(C:fs[s.1]?=some g):∃J L M,Ly m ws (k+1) (aug (oA v g s.2) fs c) J L M:=by
 have O:bN ws c=o.2:=by have:=hc.hrs;omega
 have U:c.length=l:=by have:=hc.len;omega
 have W:yC ws c=7*o.2+l:=by unfold yC;rw[O,U]
 have X:t<=yC ws c:=by have:=yP h.pt hc.Kz hc.jq;rw[h.e,h.z]at this;omega
 by_cases q:t=yC ws c;.have A:=h.pt.aug hc.Kz hc.jq hc.nd (by rw[h.e,h.z];omega) hs e C;exact⟨P,t,seen,A.1,h.z,h.e,h.nd,h.sl,by have:=h.cnt;omega⟩
 . obtain⟨D,Y⟩:=Hx P es;have Z:=u.pts B I h.pt Y;have E:KH P D es 0=0:=by rw[nC u.cm.nd u.cm.z];rfl
   have G:KH P D es (m-1)=yC ws c:=by rw[nC u.cm.nd y,W]
   have A:=Z.aug hc.Kz hc.jq hc.nd (by rw[E,G];omega) hs e C;have H:=uX hc.Kz hc.nd;refine⟨KH P D es,yC ws c,seen++[DQ ws.length c],A.1,E,G,?_,λx hx=>?_,?_⟩;.rw[kM];refine⟨h.nd,by simp,λa ha b hb ab=>?_⟩;have:=(h.sl a ha).2;rw[ab,dV.mp hb,H]at this;omega
   . rcases eW.mp hx with hx|hx;.have:=h.sl x hx;exact⟨this.1,by omega⟩
     .rw[dV.mp hx];exact⟨uV,by rw[H];exact eM _⟩
   .have h1:=CN (fs:=fs) (P:=KH P D es) B.len;have h2:=h.cnt;rw[dZ,n3];omega
noncomputable def cD(x:List aB×Int):D:=.tup [.tup (x.1.map sD),.int x.2]
theorem Jz{ns:List Int}(h:ns≠[]):∃i,ns.min?=some i/\i∈ns/\∀j∈ns,i<=j:=by cases e:ns.min? with|none=>rw[List.min?_eq_none_iff]at e;exact absurd e h|some i=>have:=nX.mp e;exact⟨i,rfl,this.1,this.2⟩
noncomputable def Yi:D->aB|.tup [.int j,.bl f]=>(j.toNat,f)|_=>(0,true)
@[simp]theorem JC{s:aB}:Yi (sD s)=s:=rfl
noncomputable def QG(ws:List Wy)(fs:List Int)(s:aB):Int:=match ws[s.1]?,fs[s.1]?with|some v,some g=>oA v g s.2|_,_=>0
noncomputable def rmD(ws:List Wy)(fs:List Int)(d:D):D:=.int (QG ws fs (Yi d))
@[simp]theorem Yx{es:List En}{p:Int}:yf false (.int p) (jM es)=some (.val (.bl (o9 (es.map en) p))):=by show some (R.val (.bl ((es.map (·.1)).contains p)))=some (R.val (.bl ((FQ (es.map en)).contains p)));rw[zr]
noncomputable def Chk(m:Int)(ws:List Wy)(x:List aB×Int):Prop:=x.1.length<=5/\(∀s∈x.1,s.1<ws.length)/\il ws (m-1) x.1 0/\(x.1.map (·.1)).Nodup
structure Stg(m:Int)(ws:List Wy)(bI:List (List aB×Int))(x:List aB×Int):Prop where
 iv:∃F d,yD m ws bI (flow ws.length bI) F d
 ht:∃F,Pt ws (flow ws.length bI) F/\F 0=0/\F (m-1)=bN ws x.1
 op:sU ws (flow ws.length bI) x.1
 rm:∀s∈x.1,∃v g,ws[s.1]?=some v/\(flow ws.length bI)[s.1]?=some g/\x.2<=oA v g s.2
theorem yD.ht{d:Int}{fs:List Int}(h:yD m ws cs fs F d)(t:jd m ws fs es)(u:(m-1,l,o)∈es)(hc:Qt ws fs es (m-1) l o.2 0 0 0 c):(∃F,Pt ws fs F/\F 0=0/\F (m-1)=bN ws c)/\d<=bN ws c:=by
 obtain⟨D,y⟩:=Bf F es;have A:bN ws c=o.2:=by have:=hc.hrs;omega
 refine⟨⟨Et F D es,t.pt h.pt y,ir t.cm.nd t.cm.z,by rw[ir t.cm.nd u,A]⟩,?_⟩;have:=lC h.pt hc.Kz hc.jq;rw[h.e,h.z]at this;omega
noncomputable def FP(m:Int)(ws:List Wy)(cs:List (List aB×Int)):Prop:=cs.Pairwise (λa b=>bN ws a.1<=bN ws b.1)/\∀h x e,cs=h++x::e->Stg m ws h x
theorem FP.snoc{y:List aB×Int}(h:FP m ws cs)(h1:∀x∈cs,bN ws x.1<=bN ws y.1)(A:Stg m ws cs y):FP m ws (cs++[y]):=by
 refine⟨?_,λu x t e=>?_⟩;.rw[kD];exact⟨h.1,by simp,λa B b C=>by rw[dV.mp C];exact h1 a B⟩
 . rcases n5 t with rfl|⟨r,z,rfl⟩;.obtain⟨E,G⟩:=List.append_inj' e rfl;cases G;subst E;exact A
   . rw[n8]at e;have H:cs++[y]=(u++x::r)++[z]:=by rw[e];simp
     exact h.2 u x r (List.append_inj' H rfl).1
structure Ends(m:Int)(ws:List Wy)(cs:List (List aB×Int))(fs:List Int)(F:Int->Int)(d:Int)(es:List En):Prop where
 fl:fs=flow ws.length cs
 iv:yD m ws cs fs F d
 cm:jd m ws fs es
 no:¬ ∃l o,(m-1,l,o)∈es
 ck:∀x∈cs,Chk m ws x
 st:FP m ws cs
inductive FcE(a0 a1 a2 a3 a4 a5 a6:Sl)(ρ:List Sl):Prop where|mk(s:Sl)(q0:ρ=[a0,a1,a2,a3,a4,a5,a6,s])(q1:fr s=true)
inductive JE(m:Int)(ws:List Wy)(M:Nat)(ρ:List Sl):Prop where|mk(cs:List (List aB×Int))(fs:List Int)(es:List En)(F:Int->Int)(d:Int)(s5 s6:Sl)(q0:ρ=[.val false (aN m ws),.val false (.int (m-1)),.own false (fs.map D.int),.own false (cs.map cD),.val false (jM es),s5,s6])(q1:(fr s5=true/\fr s6=true))(q2:fs=flow ws.length cs)(q3:yD m ws cs fs F d)(q4:jd m ws fs es)(q5:(∃P lam seen,Ly m ws cs.length fs P lam seen))(q6:cs.length+M=13286050)(q7:(∀x∈cs,Chk m ws x))(q8:FP m ws cs)
theorem xm(hw:13286250<=w)(h:HN m ws)(hr:∀v∈ws,0<=v.r)(k:∀cs fs F d es,cs.length<=13286050->Ends m ws cs fs F d es->Q (.own (cs.map cD)) [.val false (aN m ws)]):(run Γ w (n+4) 8 [.val false (aN m ws)]).sat Q:=by
 have hn:=h.len;have m0:=h.m0;have m1:=h.m1;refine aL (d:=f8) rfl rfl (by decide) ?_;(first|apply ak|apply Fg);simp[f8];refine bW (λρ=>ρ=[.val false (aN m ws),.val false (.int (m-1)),.own false ((flow ws.length []).map D.int),.aQ,.aQ,.aQ,.aQ]) ?_ ?_;.simp[flow];show _<=16777216;omega
 rintro _ rfl;have hh:∀v∈ws,0<=v.h:=λv hv=>(h.ok v hv).2.2;obtain⟨b0,I0⟩:∃b,yD m ws [] (flow ws.length []) (F01 b) b:=yD.zero m0 hh hr;(first|apply ak|apply Fg);simp;apply ak;simp;refine yl (by omega) I0.pt (.inr ⟨true,rfl⟩) h I0.fit.len λes t=>?_;simp;apply ak;simp;refine jr (JE m ws) ?_ (k:=w) (m:=13286050) (by omega) ⟨[],flow ws.length [],es,F01 b0,b0,.aQ,.aQ,rfl,⟨rfl,rfl⟩,rfl,I0,t,⟨_,_,_,Ly.zero hn hh⟩,by simp,by simp,by simp,λbI x aE e=>by cases bI<;>cases e⟩;rintro M _⟨cs,fs,es,F,d,s5,s6,rfl,⟨h5,h6⟩,E,G,t,⟨P,aI,seen,hS⟩,hM,L,hst⟩;have ac:=G.fit.len;by_cases hq:∃l o,(m-1,l,o)∈es
 . obtain⟨l,o,z⟩:=hq;have kt:o9 (es.map en) (m-1)=true:=Al.mpr ⟨l,o,z⟩;have ae:=t.l5 h G.pt z;simp[kt];apply ak;simp;refine Fp (by omega) t ae z λc hc=>?_;simp[h5];apply ak;have af:c.length<=5:=by have:=hc.len;omega
   have Z:∀s∈c,∃v g,ws[s.1]?=some v/\fs[s.1]?=some g/\0<oA v g s.2:=λs hs=>by obtain⟨v,e,o⟩:=hc.jq s hs;obtain⟨v',g,A,C,_,e4⟩:=rW o;exact⟨v',g,A,C,e4⟩
   simp[show c.length<=16777216 by omega];refine bw (FcE _ _ _ _ _ _ _) (rmD ws fs) ⟨.aQ,rfl,rfl⟩ ?_ ?_;.rintro d hd _⟨s',rfl,O⟩;obtain⟨s,hs,rfl⟩:=cU.mp hd;obtain⟨v,g,A,C,_⟩:=Z s hs;simp[O,sD];refine uv (.inr ⟨true,rfl⟩) A C ?_;simp;refine⟨?_,_,rfl,rfl⟩;show D.int (QG ws fs (Yi (sD s)))=_;rw[JC];unfold QG;rw[A,C]
   rintro _⟨s',rfl,O⟩;have U:(c.map sD).map (rmD ws fs)=(c.map (QG ws fs)).map D.int:=by rw[ec,ec];rfl
   rw[U];have ag:c≠[]:=by rintro rfl;have:(0:Int)=m-1:=hc.Kz;omega
   obtain⟨x,ah,ai,al⟩:=Jz (ns:=c.map (QG ws fs)) (by simpa using ag);obtain⟨s,hs,am⟩:=cU.mp ai;obtain⟨v,g,A,C,e3⟩:=Z s hs;have ap:oA v g s.2=x:=by rw[<-am];unfold QG;rw[A,C]
   have ar:0<x:=by omega
   have H:∀s∈c,∃v g,ws[s.1]?=some v/\fs[s.1]?=some g/\x<=oA v g s.2:=λu J=>by obtain⟨v,g,A,C,_⟩:=Z u J;refine⟨v,g,A,C,?_⟩;have:=al _ (cU.mpr ⟨u,J,rfl⟩);unfold QG at this;rw[A,C]at this;exact this
   have W:∀s∈c,s.1<ws.length:=λu J=>by obtain⟨v,g,A,_⟩:=Z u J;exact(dJ A).1
   obtain⟨F',I⟩:=G.more t z hc ar H;have X:FP m ws (cs++[(c,x)]):=by obtain⟨g1,g2⟩:=G.ht t z hc;refine hst.snoc (λy hy=>Int.le_trans (G.ch y hy).1 g2) ?_;have Y:=G;rw[E]at Y g1 H;exact⟨⟨_,_,Y⟩,g1,by rw[<-E];exact hc.jq,H⟩
   have B:=hS.more h G.pt t z hc hs A C;rw[ap]at B;obtain⟨P',VJ,KC,B⟩:=B;have aS:=B.few hn;generalize c.map (QG ws fs)=ns at*;simp[gk,ah,h6];apply ak;simp[show cs.length<16777216 by omega];apply ak;simp;refine yj (.inr ⟨true,rfl⟩) (λu J=>by rw[ac];exact W u J) ?_;simp;apply ak;have aw:aug x fs c=flow ws.length (cs++[(c,x)]):=by rw[qR,<-E]
   simp;refine yl (by omega) I.pt (.inr ⟨true,rfl⟩) h I.fit.len λax ay=>?_;simp;refine⟨M-1,by omega,cs++[(c,x)],aug x fs c,ax,F',o.2,.val false (.tup (c.map sD)),.val false (.int x),by simp[cD],⟨rfl,rfl⟩,aw,I,ay,⟨P',VJ,KC,by rw[dZ];exact B⟩,by simp;omega,λy hy=>?_,X⟩;rcases eW.mp hy with hy|hy;.exact L y hy
   . obtain rfl:y=(c,x):=by simpa using hy
     exact⟨af,W,hc.Kz,hc.nd⟩
 .have kt:o9 (es.map en) (m-1)=false:=kin_no hq;simp[kt];apply ak;simp;exact k cs fs F d es (by omega) ⟨E,G,t,hq,L,hst⟩
theorem Tu{c:Call}{x:Nat}{k d:P}:ev c (.Xp x k d) ρ=match ρ[x]?with
 |some (.gO _)=>(cP (isVar k) (ev c k) ρ).bind λe ρ=>(cP (isVar d) (ev c d) ρ).bind λh ρ=>match ρ[x]?with|some (.gO m)=>lift ((m.get e).bind λo=>(iY h).map λv=>.val (.int (o.getD v))) ρ|_=>.stuck
 |_=>.stuck:=(rfl)
theorem Lj{c:Call}{x:Nat}:ex c n (.Kh x false) ρ=match ρ[x]?with|some .aQ=>.ok .next (ρ.set x (.gO (.k [])))|_=>.stuck:=(rfl)
theorem M9{c:Call}{x:Nat}{k e:P}:ex c n (.dput x k e) ρ=(ev c e ρ).bind λr ρ=>match ρ[x]?with
 |some (.gO _)=>(cP (isVar k) (ev c k) ρ).bind λh ρ=>match ρ[x]?,r with
   |some (.gO m),.val (.int v)=>match m.put h v with|some t=>.ok .next (ρ.set x (.gO t))|none=>.stuck
   |_,_=>.stuck
 |_=>.stuck:=(rfl)
@[simp]theorem Wx{x:Nat}{k d:P}:isVar (.Xp x k d)=none:=rfl
@[simp]theorem YB{kvs:List (Int×Int)}:blt .Ke [.eG (.k kvs)]=if kvs.length<=16777216/\kvs.Pairwise (λa b=>a.1<b.1)then some (.own (kvs.map jC))else none:=rfl
theorem U9:(Dc.get (.k kvs) (.int i))=some ((kvs.find? λe=>decide (e.1=i)).map (·.2)):=rfl
theorem Yh{v:Int}(h:kvs.length<lim):Dc.put (.k kvs) (.int i) v=some (.k (putD kvs i v)):=by show(if _ then _ else _)=_;rw[if_pos h]
noncomputable def hsD(ws:List Wy)(d:D):D:=.int (hst ws (Yi d))
theorem CP{ws:List Wy}:∀{c:List aB},(c.map (hst ws)).sum=bN ws c|[]=>rfl|s::c=>by rw[c_,nv,CP,bN]
inductive F2s(a b:Sl)(ρ:List Sl):Prop where|mk(s:Sl)(q0:ρ=[a,b,s])(q1:fr s=true)
theorem zN(hc:∀s∈c,s.1<ws.length)(A:c.length<=1000)(k:Q (.val (.int (bN ws c))) [.val false (aN m ws),.val false (.tup (c.map sD))]):(run Γ w (n+2) 3 [.val false (aN m ws),.val false (.tup (c.map sD))]).sat Q:=by
 refine aL (d:=f3) rfl rfl (by decide) ?_;(first|apply ak|apply Fg);simp[f3,show c.length<=16777216 by omega];refine bw (F2s _ _) (hsD ws) ⟨.aQ,rfl,rfl⟩ ?_ ?_
 . rintro d hd _⟨z,rfl,h⟩;obtain⟨s,hs,rfl⟩:=cU.mp hd;have y:=hc s hs;have e:ws[s.1]?=some ws[s.1]:=by simp[y]
   simp[h,sD];refine tR e ?_;simp;refine⟨?_,_,rfl,rfl⟩;show D.int (hst ws (Yi (sD s)))=_;rw[JC,gY e]
 rintro _⟨z,rfl,h⟩;have t:(c.map sD).map (hsD ws)=(c.map (hst ws)).map D.int:=by rw[ec,ec];rfl
 rw[t];have u:=CP (ws:=ws) (c:=c);generalize c.map (hst ws)=ns at*;simp[gk,u];exact k
noncomputable def gv(kvs:List (Int×Int))(k:Int):Int:=((kvs.find? λe=>decide (e.1=k)).map (·.2)).getD 0
noncomputable def Yk(W:Int->Int->Int):Prop:=∀k a b,W k (a+b)=W k a+W k b
noncomputable def sI(W:Int->Int->Int):List (Int×Int)->Int|[]=>0|kv::r=>W kv.1 kv.2+sI W r
theorem Cw{W:Int->Int->Int}{b:List (Int×Int)}:∀{a:List (Int×Int)},sI W (a++b)=sI W a+sI W b|[]=>by simp[sI]|x::a=>by rw[gT,sI,sI,Cw];omega
theorem Bu{k v:Int}:∀{r:List (Int×Int)},k∉r.map (·.1)->(r.map λe=>if e.1=k then(e.1,v)else e)=r|[],_=>rfl|x::r,h=>by rw[c_,de,not_or]at h;rw[c_,Bu h.2,if_neg (λz=>h.1 z.symm)]
theorem Bs{W:Int->Int->Int}(z:Yk W){k x:Int}:∀{r:List (Int×Int)},(r.map (·.1)).Nodup->k∈r.map (·.1)->sI W (r.map λe=>if e.1=k then(e.1,gv r k+x)else e)=sI W r+W k x
 |[],_,h=>by cases h|y::r,t,h=>by
   rw[c_,eK]at t;by_cases c:y.1=k
   . have u:gv (y::r) k=y.2:=by unfold gv;rw[gl];simp[c]
     rw[u,c_,if_pos c,Bu (by rw[<-c];exact t.1),sI,sI];show W y.1 (y.2+x)+_=_;rw[z,c];omega
   . have u:gv (y::r) k=gv r k:=by unfold gv;rw[gl];simp[c]
     have A:k∈r.map (·.1):=by
      rcases de.mp h with h|h;.exact absurd h.symm c
      .exact h
     rw[u,c_,if_neg c,sI,sI,Bs z t.2 A];omega
theorem Ru(h:k∉r.map (·.1)):gv r k=0:=by
 unfold gv;rw[List.find?_eq_none.mpr];.rfl
 .intro x t;simp;intro e;exact h (cU.mpr ⟨x,t,e⟩)
theorem YG(h:∀t∈r,0<t.2):0<=gv r k:=by unfold gv;cases e:r.find? λt=>decide (t.1=k)with|none=>simp|some x=>have:=h x (List.mem_of_find?_eq_some e);simp;omega
theorem uY{x:Int}(u:(r.map (·.1)).Nodup):((putD r k (gv r k+x)).map (·.1)).Nodup/\(putD r k (gv r k+x)).length<=r.length+1/\(∀h∈putD r k (gv r k+x),h=(k,gv r k+x)\/h∈r)/\∀W,Yk W->sI W (putD r k (gv r k+x))=sI W r+W k x:=by
 have B:(r.any λh=>decide (h.1=k))=true↔k∈r.map (·.1):=by rw[m3,cU];exact⟨λ⟨y,h1,A⟩=>⟨y,h1,by simpa using A⟩,λ⟨y,h1,A⟩=>⟨y,h1,by simpa using A⟩⟩
 unfold putD;by_cases c:k∈r.map (·.1)
 . rw[if_pos (B.mpr c)];have e:(r.map λh=>if h.1=k then(h.1,gv r k+x)else h).map (·.1)=r.map (·.1):=by rw[ec];refine fF λy _=>?_;show(if y.1=k then _ else _:Int×Int).1=y.1;split<;>rfl
   refine⟨by rw[e];exact u,by simp,λh t=>?_,λW C=>Bs C u c⟩;obtain⟨y,E,rfl⟩:=cU.mp t;by_cases z:y.1=k;.rw[if_pos z,z];exact .inl rfl
   .rw[if_neg z];exact .inr E
 . rw[if_neg λz=>c (B.mp z),Ru c,Int.zero_add];refine⟨?_,by simp,λh t=>?_,λW _=>?_⟩;.rw[fy,kM];exact⟨u,by simp,λa G b H e=>c (by
      have:b=k:=by simpa using H
      rw[<-this,<-e];exact G)⟩
   . rcases eW.mp t with hj|hj;.exact .inr hj
     .exact .inl (dV.mp hj)
   .rw[Cw];simp[sI]
theorem S6{v:Int}(h:r.Pairwise (λa b=>a.1<b.1))(u:∀y∈r,y.1<=k):(putD r k v).Pairwise (λa b=>a.1<b.1):=by
 unfold putD;split;.rw[List.pairwise_map];refine h.imp λ{a b}e=>?_;split<;>split<;>exact e
 .rename_i A;rw[kD];refine⟨h,by simp,λa t b B=>?_⟩;have h1:=u a t;have C:a.1≠k:=λz=>A (m3.mpr ⟨a,t,by simpa using z⟩);rw[dV.mp B];show a.1<k;omega
noncomputable def Ra:D->Int×Int|.tup [.int a,.int b]=>(a,b)|_=>(0,0)
@[simp]theorem ahf{a b:Int}:Ra (.tup [.int a,.int b])=(a,b):=rfl
structure Ph(ws:List Wy)(cs:List (List aB×Int))(kvs:List (Int×Int)):Prop where
 nd:(kvs.map (·.1)).Nodup
 len:kvs.length<=cs.length
 nn:∀kv∈kvs,1<=kv.1/\0<kv.2
 key:∀kv∈kvs,∃x∈cs,kv.1=bN ws x.1
 so:kvs.Pairwise (λa b=>a.1<b.1)sm:∀W,Yk W->sI W kvs=bR (λx=>W (bN ws x.1) x.2) cs
theorem Ph.put(h:Ph ws cs kvs){x:List aB×Int}(h0:1<=bN ws x.1)(h1:0<x.2)(B:∀y∈cs,bN ws y.1<=bN ws x.1):Ph ws (cs++[x]) (putD kvs (bN ws x.1) (gv kvs (bN ws x.1)+x.2)):=by
 obtain⟨p1,p2,p3,C⟩:=uY (k:=bN ws x.1) (x:=x.2) h.nd;have E:=h.len;refine⟨p1,by simp;omega,λu t=>?_,λu t=>?_,S6 h.so λu t=>?_,λW A=>?_⟩
 . rcases p3 u t with e|e;.have:=YG (k:=bN ws x.1) λu t=>(h.nn u t).2;rw[e];exact⟨h0,by show 0<_+_;omega⟩
   .exact h.nn u e
 . rcases p3 u t with e|e;.exact⟨x,by simp,by rw[e]⟩
   .obtain⟨y,z,e⟩:=h.key u e;exact⟨y,by simp[z],e⟩
 .obtain⟨y,z,e⟩:=h.key u t;rw[e];exact B y z
 .rw[C W A,h.sm W A,jF]
theorem Hu{ws:List Wy}{b:Int}(h0:∀v∈ws,0<=v.h)(t:∀v∈ws,v.h<=1000000):∀{c:List aB}{a:Int},il ws b c a->bN ws c<=1000000*(c.length:Int)
 |[],_,_=>by simp[bN]|s::c,a,⟨v,e,_,u⟩=>by
   have h1:=Hu h0 t u;have y:=t v (da e);have z:=h0 v (da e);have A:hst ws s<=1000000:=by rw[gY e];unfold hsp;split<;>omega
   rw[bN,ea];omega
theorem Ph.few(h:Ph ws cs kvs)(y:∀x∈cs,Chk m ws x)(z:ws.length<=12):kvs.length<=531441:=by
 have h1:=mR (l2:=(sZ ws.length).map λe=>kY ws e/7) h.nd λk t=>by obtain⟨A,u,rfl⟩:=cU.mp t;obtain⟨x,B,e⟩:=h.key A u;obtain⟨c1,c2,c3,c4⟩:=y x B;refine cU.mpr ⟨DQ ws.length x.1,by have:=qY (e:=DQ ws.length x.1);rwa[uV]at this,?_⟩;rw[uX c3 c4,e];unfold yC;omega
 rw[dy,dy,qH]at h1;have C:3^ws.length<=3^12:=oy (by decide) z;have E:(3:Nat)^12=531441:=by decide
 omega
inductive JBn(m:Int)(ws:List Wy)(cs:List (List aB×Int))(r:List D)(ρ:List Sl):Prop where|mk(bI us:List (List aB×Int))(kvs:List (Int×Int))(s2 s3 s4:Sl)(q0:ρ=[.val false (aN m ws),.gO (.k kvs),s2,s3,s4])(q1:A3 (fr s2=true) (fr s3=true) (fr s4=true))(q2:r=us.map cD)(q3:bI++us=cs)(q4:Ph ws bI kvs)
theorem tH(Y:13286250<=w)(h:cR m ws)(k:∀cs fs F d es kvs,kvs.length<=531441->Ends m ws cs fs F d es->Ph ws cs kvs->kvs.Pairwise (λa b=>a.1<b.1)->(∀G∈kvs,G.1<=5000000)->Q (.own (kvs.map jC)) [.val false (aN m ws)]):(run Γ w (n+5) 10 [.val false (aN m ws)]).sat Q:=by
 refine aL (d:=f10) rfl rfl (by decide) ?_;(first|apply ak|apply Fg);simp[f10,Lj];apply ak;simp;refine xm Y (HN.of h) (λv B=>(h.ok v B).r0) λcs fs F d es hl z=>?_;simp;refine cA (JBn m ws cs) ?_ ?_ ⟨[],cs,[],.aQ,.aQ,.aQ,rfl,⟨rfl,rfl,rfl⟩,rfl,rfl,⟨by simp,by simp,by simp,by simp,by simp,λW _=>rfl⟩⟩;.rintro d r _⟨C,A,kvs,s2,s3,s4,rfl,⟨H,O,U⟩,hr,hd,t⟩;cases A with|nil=>cases hr|cons u A=>
     obtain⟨rfl,rfl⟩:d=cD u/\r=A.map cD:=by simpa using hr
     have I:u∈cs:=by rw[<-hd];simp
     have E:=z.ck u I;have Z:C.length<=cs.length:=by rw[<-hd];simp
     have J:=t.len;have L:(C++[u])++A=cs:=by rw[fb];exact hd
     simp[cD,H,O];apply ak;simp;refine zN E.2.1 (by have:=E.1;omega) ?_;simp[U];apply ak;simp[M9,Tu,U9];rw[Yh (by show _<16777216;omega)];simp;refine⟨C++[u],A,_,_,_,_,rfl,⟨rfl,rfl,rfl⟩,rfl,L,t.put ((z.iv.nn λv B=>(h.ok v B).h0).2 u I) (z.iv.ch u I).2.1 λy hy=>?_⟩;have hst:=z.st.1;rw[<-hd,kD]at hst;exact hst.2.2 y hy u (by simp)
 . rintro _⟨C,A,kvs,s2,s3,s4,rfl,⟨H,O,U⟩,hr,hd,t⟩;have:A=[]:=by cases A with|nil=>rfl|cons _ _=>cases hr
   subst this;rw[fE]at hd;subst hd;have J:=t.len;simp;apply ak;simp[show kvs.length<=16777216 by omega,t.so];refine k C fs F d es kvs (t.few z.ck (HN.of h).len) z t t.so λG M=>?_;obtain⟨x,X,e⟩:=t.key G M;have h1:=Hu (λv B=>((HN.of h).ok v B).2.2) (λv B=>(h.ok v B).h1) (z.ck x X).2.2.1;have H:=(z.ck x X).1;rw[e];omega
noncomputable def vt(T k v:Int):Int:=if k<=T then v*(T-k+1)else 0
noncomputable def gt(T k v:Int):Int:=if k<=T then v else 0
theorem UW{T:Int}:Yk (vt T):=λk a b=>by
 unfold vt;split;.exact Int.add_mul ..
 .rfl
theorem Va{T:Int}:Yk (gt T):=λk a b=>by unfold gt;split<;>rfl
noncomputable def cY(m:Int)(ws:List Wy)(cs:List (List aB×Int)):Prop:=(∀v∈ws,1<=v.h)/\∃fs F d es,Ends m ws cs fs F d es
noncomputable def Rt(ws:List Wy)(cs:List (List aB×Int))(T:Int):Int:=bR (λx=>gt T (bN ws x.1) x.2) cs
noncomputable def RP(cs:List (List aB×Int)):Int:=bR (λx=>x.2) cs
theorem dW.uniq{T v e:Int}(h:dW m ws T v)(h':dW m ws T e):v=e:=by obtain⟨q,t,u,y⟩:=h.ex;obtain⟨r,r0,r1,z⟩:=h'.ex;have:=h.le r r0 r1;have:=h'.le q t u;omega
theorem cY.least{m:Int}{ws:List Wy}{cs:List (List aB×Int)}(h:cY m ws cs){T:Int}(h0:0<=T):dW m ws T (val ws T cs):=by obtain⟨t,fs,F,d,es,e⟩:=h;exact e.iv.least e.cm e.no h0
theorem wR{H K:List aB×Int->Int}:∀{cs:List (List aB×Int)},bR (λx=>H x-K x) cs=bR H cs-bR K cs|[]=>rfl|x::cs=>by rw[bR,bR,bR,wR];omega
theorem vp{H K:List aB×Int->Int}:∀{cs:List (List aB×Int)},(∀x∈cs,H x<=K x)->bR H cs<=bR K cs|[],_=>eM _|x::cs,h=>by have h1:=h x (by simp);have t:=vp (H:=H) (K:=K) (cs:=cs) λy e=>h y (by simp[e]);rw[bR,bR];omega
theorem zx{T:Int}:Rt ws cs T=val ws T cs-val ws (T-1) cs:=by
 unfold Rt val;rw[<-wR];refine jc λx _=>?_;show gt T (bN ws x.1) x.2=vt T (bN ws x.1) x.2-vt (T-1) (bN ws x.1) x.2;unfold gt vt;by_cases c:bN ws x.1<=T-1;.rw[if_pos (by omega),if_pos (by omega),if_pos c,<-Int.mul_sub,show T-bN ws x.1+1-(T-1-bN ws x.1+1)=1 by omega,mul_one]
 . by_cases c2:bN ws x.1<=T;.rw[if_pos c2,if_pos c2,if_neg c,show T-bN ws x.1+1=1 by omega,mul_one];omega
   .rw[if_neg c2,if_neg c2,if_neg c];rfl
theorem cY.nn{m:Int}{ws:List Wy}{cs:List (List aB×Int)}(h:cY m ws cs):∀x∈cs,1<=bN ws x.1/\0<x.2:=by obtain⟨e,fs,F,d,es,t⟩:=h;exact λx u=>⟨(t.iv.nn e).2 x u,(t.iv.ch x u).2.1⟩
theorem cY.dm(h:cY m ws cs){T:Int}(h0:T<=0):val ws T cs=0:=by
 have:val ws T cs=bR (λ_=>0) cs:=jc λx e=>by have:=(h.nn x e).1;show vt T (bN ws x.1) x.2=0;unfold vt;rw[if_neg (by omega)]
 rw[this];clear this h;induction cs with|nil=>rfl|cons x cs t=>rw[bR,t];rfl
theorem cY.val_eq{e:List (List aB×Int)}(h:cY m ws cs)(h':cY m ws e)(T:Int):val ws T cs=val ws T e:=by
 by_cases c:0<=T;.exact(h.least c).uniq (h'.least c)
 .rw[h.dm (by omega),h'.dm (by omega)]
theorem cY.Pq{e:List (List aB×Int)}(h:cY m ws cs)(h':cY m ws e)(T:Int):Rt ws cs T=Rt ws e T:=by rw[zx,zx,h.val_eq h',h.val_eq h']
theorem cY.mono(h:cY m ws cs){T U:Int}(t:T<=U):Rt ws cs T<=Rt ws cs U:=vp λx e=>by have:=(h.nn x e).2;unfold gt;split<;>split<;>omega
theorem cY.Z2(h:cY m ws cs){T:Int}:Rt ws cs T<=RP cs:=vp λx e=>by have:=(h.nn x e).2;unfold gt;split<;>omega
theorem cY.Zc(h:cY m ws cs){T:Int}:0<=Rt ws cs T:=by
 have h1:=h.mono (T:=min T 0) (U:=T) (by omega);have:Rt ws cs (min T 0)=0:=by rw[zx,h.dm (by omega),h.dm (by omega)];rfl
 omega
noncomputable def moD(T:Int)(d:D):Option D:=if(Ra d).1<=T then some (.int ((Ra d).2*(T-(Ra d).1+1)))else none
theorem Jj{T:Int}:∀(kvs:List (Int×Int)),∃ns:List Int,(kvs.map jC).filterMap (moD T)=ns.map D.int/\ns.sum=sI (vt T) kvs
 |[]=>⟨[],rfl,rfl⟩|kv::r=>by
   obtain⟨ns,h1,h⟩:=Jj (T:=T) r;have e:moD T (jC kv)=if kv.1<=T then some (.int (kv.2*(T-kv.1+1)))else none:=rfl;rw[c_,ia,h1,sI,<-h,e];unfold vt;by_cases c:kv.1<=T;.rw[if_pos c,if_pos c];exact⟨_::ns,rfl,by rw[nv]⟩
   .rw[if_neg c,if_neg c];exact⟨ns,rfl,by omega⟩
inductive F2t(a b:Sl)(ρ:List Sl):Prop where|mk(s:Sl)(t:Sl)(q0:ρ=[a,b,s,t])(q1:fr s=true)(q2:fr t=true)
theorem yQ{T:Int}{s:Sl}(hs:s=.own false (kvs.map jC)\/s=.val false (.lst (kvs.map jC)))(A:kvs.length<=16000000)(h0:∀h∈kvs,1<=h.1/\0<h.2)(B:T<=1000000000000000000)(k:Q (.val (.int (sI (vt T) kvs))) [s,.val false (.int T)]):(run Γ w (n+1) 21 [s,.val false (.int T)]).sat Q:=by refine aL (d:=f21) rfl rfl (by decide) ?_;(first|apply ak|apply Fg);rcases hs with rfl|rfl;all_goals
  simp[f21,show kvs.length<=16777216 by omega];refine tG (F2t _ _) (moD T) ⟨.aQ,.aQ,rfl,rfl,rfl⟩ ?_ ?_
  . rintro d hd _⟨s,t,rfl,hs,ht⟩;obtain⟨h,u,rfl⟩:=cU.mp hd;have:=(h0 h u).1;have e:moD T (jC h)=if h.1<=T then some (.int (h.2*(T-h.1+1)))else none:=rfl;by_cases c:h.1<=T
    . rw[if_pos c]at e;have y:mY (.int h.2) (.int (T-h.1+1))=some (.val (.int (h.2*(T-h.1+1)))):=by show(if _ then _ else _)=_;rw[if_pos];right;omega
      rw[e];simp[hs,ht,jC,c,y];exact⟨_,_,rfl,rfl,rfl⟩
    .rw[if_neg c]at e;rw[e];simp[hs,ht,jC,c];exact⟨_,_,rfl,rfl,rfl⟩
  .rintro _⟨s,t,rfl,hs,ht⟩;obtain⟨ns,h1,z⟩:=Jj (T:=T) kvs;rw[h1];simp[gk,z];exact k
theorem zg{T:Int}(t:13286250<=w)(h:cR m ws)(u:T<=1000000000000000000)(k:∀cs,cY m ws cs->Q (.val (.int (val ws T cs))) [.val false (aN m ws),.val false (.int T)]):(run Γ w (n+6) 22 [.val false (aN m ws),.val false (.int T)]).sat Q:=by refine aL (d:=f22) rfl rfl (by decide) ?_;(first|apply ak|apply Fg);simp[f22];refine tH t h λcs fs F d es kvs A y e _ _=>?_;simp;refine yQ (.inl rfl) (by omega) e.nn u ?_;simp;rw[e.sm _ UW];exact k cs ⟨λv z=>(h.ok v z).h0,fs,F,d,es,y⟩
noncomputable def byD(T:Int)(d:D):Option D:=if(Ra d).1<=T then some d else none
noncomputable def sO(T:Int)(kvs:List (Int×Int)):List (Int×Int):=kvs.filter λe=>decide (e.1<=T)
theorem GD{T:Int}:∀{kvs:List (Int×Int)},(kvs.map jC).filterMap (byD T)=(sO T kvs).map jC
 |[]=>rfl|kv::r=>by
   have e:byD T (jC kv)=if kv.1<=T then some (jC kv)else none:=rfl;rw[c_,ia,GD,e];unfold sO;rw[List.filter_cons];by_cases c:kv.1<=T;.rw[if_pos c,if_pos (by simpa using c)];rfl
   .rw[if_neg c,if_neg (by simpa using c)]
theorem Dj{T:Int}:∀{kvs:List (Int×Int)},((sO T kvs).map (·.2)).sum=sI (gt T) kvs
 |[]=>rfl|kv::r=>by
   have e:=Dj (T:=T) (kvs:=r);unfold sO at e ⊢;rw[List.filter_cons,sI];unfold gt at*;by_cases c:kv.1<=T;.rw[if_pos (by simpa using c),if_pos c,c_,nv,e]
   .rw[if_neg (by simpa using c),if_neg c,e];omega
theorem xF{T:Int}(u:13286250<=w)(h:cR m ws)(k:∀cs kvs,kvs.length<=531441->cY m ws cs->Ph ws cs kvs->Q (.own ((sO T kvs).map jC)) [.val false (aN m ws),.val false (.int T)]):(run Γ w (n+6) 20 [.val false (aN m ws),.val false (.int T)]).sat Q:=by
 refine aL (d:=f20) rfl rfl (by decide) ?_;(first|apply ak|apply Fg);simp[f20];refine tH u h λcs fs F d es kvs y z A _ _=>?_;simp[show kvs.length<=16777216 by omega];refine tG (F2s _ _) (byD T) ⟨.aQ,rfl,rfl⟩ ?_ ?_
 . rintro d hd _⟨s,rfl,hs⟩;obtain⟨t,B,rfl⟩:=cU.mp hd;have e:byD T (jC t)=if t.1<=T then some (jC t)else none:=rfl;by_cases c:t.1<=T;.rw[if_pos c]at e;rw[e];simp[hs,jC,c];exact⟨_,rfl,rfl⟩
   .rw[if_neg c]at e;rw[e];simp[hs,jC,c];exact⟨_,rfl,rfl⟩
 .rintro _⟨s,rfl,hs⟩;rw[GD];simp;exact k cs kvs y ⟨λv C=>(h.ok v C).h0,fs,F,d,es,z⟩ A
noncomputable def S5(d:D):D:=.int (Ra d).2
theorem Ah{T:Int}(A:13286250<=w)(h:cR m ws)(k:∀cs,cY m ws cs->Q (.val (.int (Rt ws cs T))) [.val false (aN m ws),.val false (.int T)]):(run Γ w (n+7) 23 [.val false (aN m ws),.val false (.int T)]).sat Q:=by
 refine aL (d:=f23) rfl rfl (by decide) ?_;(first|apply ak|apply Fg);simp[f23];refine xF A h λcs kvs G B C=>?_;have u:(sO T kvs).length<=16777216:=by have:=ky (λy:Int×Int=>decide (y.1<=T)) kvs;unfold sO;omega
 simp[u];refine bw (F2t _ _) S5 ⟨.aQ,.aQ,rfl,rfl,rfl⟩ ?_ ?_;.rintro d hd _⟨s,t,rfl,hs,ht⟩;obtain⟨y,E,rfl⟩:=cU.mp hd;simp[hs,ht,jC,S5,Ra];exact⟨_,_,rfl,rfl,rfl⟩
 . rintro _⟨s,t,rfl,hs,ht⟩;have e:((sO T kvs).map jC).map S5=((sO T kvs).map (·.2)).map D.int:=by rw[ec,ec];rfl
   rw[e];have z:=Dj (T:=T) (kvs:=kvs);rw[C.sm _ Va]at z;generalize(sO T kvs).map (·.2)=ns at*;simp[gk,z];exact k cs B
noncomputable def lW:List (List aB×Int)->Int->List (List aB×Int)|[],_=>[]|x::r,q=>(x.1,min q x.2)::lW r (q-min q x.2)
noncomputable def Qv:List (List aB×Int)->Int->Int|[],q=>q|x::r,q=>Qv r (q-min q x.2)
theorem Nf:∀{l:List (List aB×Int)}{q:Int},(lW l q).length=l.length|[],_=>rfl|x::r,q=>by rw[lW,ea,Nf,ea]
theorem Ci:∀{l:List (List aB×Int)}{q:Int}{y:List aB×Int},y∈lW l q->∃x∈l,y.1=x.1
 |[],_,_,h=>by cases h|x::r,q,y,h=>by
   rw[lW,de]at h;rcases h with rfl|h;.exact⟨x,by simp,rfl⟩
   .obtain⟨z,hz,e⟩:=Ci h;exact⟨z,by simp[hz],e⟩
theorem Py:∀{l:List (List aB×Int)}{q:Int},(∀x∈l,0<x.2)->0<=q->q<=RP l->Qv l q=0
 |[],q,_,h0,h1=>by have h1:q<=0:=h1;rw[Qv];omega|x::r,q,h,h0,h1=>by
   have A:=h x (by simp);have h1:q<=x.2+RP r:=h1;have hr:0<=RP r:=by
    have:∀(l:List (List aB×Int)),(∀x∈l,0<x.2)->0<=RP l:=λl=>by induction l with|nil=>intro _;exact eM _|cons y l t=>intro e;have B:=t λz hz=>e z (by simp[hz]);have C:=e y (by simp);show 0<=y.2+RP l;omega
    exact this r λz hz=>h z (by simp[hz])
   rw[Qv];exact Py (λy u=>h y (by simp[u])) (by omega) (by omega)
inductive JCu(a0 a1:Sl)(N:Nat)(out:List (List aB×Int))(z:Int)(r:List D)(ρ:List Sl):Prop where|mk(us bI:List (List aB×Int))(q:Int)(s4 s5 s6:Sl)(q0:ρ=[a0,a1,.own false (bI.map cD),.val false (.int q),s4,s5,s6])(q1:A3 (fr s4=true) (fr s5=true) (fr s6=true))(q2:r=us.map cD)(q3:bI++lW us q=out)(q4:Qv us q=z)(q5:bI.length+us.length=N)
theorem FN{q:Int}(C:cs.length<=16000000)(hz:Qv cs q=0)(k:Q (.own ((lW cs q).map cD)) [.own false (cs.map cD),.val false (.int q)]):(run Γ w (n+1) 9 [.own false (cs.map cD),.val false (.int q)]).sat Q:=by
 refine aL (d:=f9) rfl rfl (by decide) ?_;(first|apply ak|apply Fg);simp[f9];apply ak;simp;apply ak;simp;refine cA (JCu _ _ cs.length (lW cs q) 0) ?_ ?_ ⟨cs,[],q,.aQ,.aQ,.aQ,rfl,⟨rfl,rfl,rfl⟩,rfl,rfl,hz,by simp⟩;.rintro d r _⟨e,h,q,s4,s5,s6,rfl,⟨t,y,z⟩,hr,ho,hz,A⟩;cases e with|nil=>cases hr|cons u e=>
     obtain⟨rfl,rfl⟩:d=cD u/\r=e.map cD:=by simpa using hr
     rw[lW]at ho;rw[Qv]at hz;rw[ea]at A;simp[cD,t,y];apply ak;simp[z];apply ak;simp[show h.length<16777216 by omega];apply ak;simp;have B:(if u.2<q then u.2 else q)=min q u.2:=by split<;>omega
     rw[B];exact⟨e,h++[(u.1,min q u.2)],q-min q u.2,_,_,_,by rw[fy];rfl,⟨rfl,rfl,rfl⟩,rfl,by rw[fb];exact ho,hz,by simp;omega⟩
 . rintro _⟨e,h,q,s4,s5,s6,rfl,⟨t,y,z⟩,hr,ho,hz,A⟩;have:e=[]:=by cases e with|nil=>rfl|cons _ _=>cases hr
   subst this;rw[lW,fE]at ho;rw[Qv]at hz;subst ho;subst hz;simp;apply ak;simp;apply ak;simp;exact k
theorem G5{fs:List Int}:∀{c:List aB},aug 0 fs c=fs
 |[]=>rfl|s::c=>by
   show aug 0 (jK 0 fs s) c=fs;have:jK 0 fs s=fs:=by
    unfold jK;have h0:sg 0 s.2=0:=by cases s.2<;>rfl
    rw[h0,Int.add_zero];refine List.ext_getElem? λi=>?_;rw[mr];split
    . rename_i e;subst e;split;.rename_i h;simp[h]
      .rename_i h;simp at h;simp[h]
    .rfl
   rw[this,G5]
structure Mz(m:Int)(ws:List Wy)(ts:List (List aB×Int))(fs:List Int):Prop where
 fit:KJ ws fs
 ht:∃F,Pt ws fs F/\F 0=0
 dt:∀k q,eU (gap k q) ws fs=bR (λx=>x.2*(q (m-1)-q 0-k*bN ws x.1)) ts
theorem Ir:∀{l:List (List aB×Int)}{fs:List Int}{H:List aB×Int->Int},(∀x∈l,0<x.2)->(∀c,H (c,0)=0)->(lW l 0).foldl oK fs=fs/\bR H (lW l 0)=0
 |[],_,_,_,_=>⟨rfl,rfl⟩|x::r,fs,H,h,t=>by
   have B:=h x (by simp);have u:=Ir (l:=r) (fs:=fs) (λy z=>h y (by simp[z])) t;have e:lW (x::r) 0=(x.1,0)::lW r 0:=by rw[lW,show min 0 x.2=0 by omega,Int.sub_self]
   rw[e,nE,bR,t,u.2];have A:oK fs (x.1,0)=fs:=G5;rw[A];exact⟨u.1,rfl⟩
theorem oY{H:List aB×Int->Int}{b:List (List aB×Int)}:∀{a:List (List aB×Int)},bR H (a++b)=bR H a+bR H b|[]=>by simp[bR]|x::a=>by rw[gT,bR,bR,oY];omega
theorem Ends.light{d:Int}{fs:List Int}(B:Ends m ws cs fs F d es):∀(t A:List (List aB×Int))(q:Int),A++t=cs->0<=q->Mz m ws (A++lW t q) ((lW t q).foldl oK (flow ws.length A)):=by
 have pos:∀x∈cs,0<x.2:=λx I=>(B.iv.ch x I).2.1;have C:∀A t,A++t=cs->Mz m ws A (flow ws.length A):=λA t e=>by cases t with|nil=>rw[fE]at e;subst e;rw[<-B.fl];exact⟨B.iv.fit,⟨F,B.iv.pt,B.iv.z⟩,B.iv.dt⟩|cons x r=>have s:=B.st.2 A x r e.symm;obtain⟨J,d0,iv⟩:=s.iv;exact⟨iv.fit,⟨J,iv.pt,iv.z⟩,iv.dt⟩
 have zero:∀(t E:List (List aB×Int))(gs:List Int),(∀x∈t,0<x.2)->Mz m ws E gs->Mz m ws (E++lW t 0) ((lW t 0).foldl oK gs):=λt E gs L h=>by have hz:=λH M=>Ir (l:=t) (fs:=gs) (H:=H) L M;rw[(hz (λ_=>0) λ_=>rfl).1];refine⟨h.fit,h.ht,λk q=>?_⟩;rw[oY,(hz (λx=>x.2*(q (m-1)-q 0-k*bN ws x.1)) λc=>by simp).2,h.dt,Int.add_zero]
 intro t;induction t with|nil=>intro A q e _;rw[lW,fE];exact C A [] e|cons x r O=>
   intro A q e Y;have I:=pos x (by rw[<-e];simp);have hr:∀y∈r,0<y.2:=λy U=>pos y (by rw[<-e];simp[U]);rw[lW];by_cases c:x.2<=q
   . have G:min q x.2=x.2:=by omega
     rw[G];have:=O (A++[x]) (q-x.2) (by rw[fb];exact e) (by omega);rw[fb,qR]at this;exact this
   . have G:min q x.2=q:=by omega
     rw[G,Int.sub_self,nE];have s:=B.st.2 A x r e.symm;have ck:=B.ck x (by rw[<-e];simp);obtain⟨F1,p1,p2,p3⟩:=s.ht;obtain⟨J,d0,iv⟩:=s.iv;have g:Mz m ws (A++[(x.1,q)]) (oK (flow ws.length A) (x.1,q)):=by
      show Mz m ws _ (aug q (flow ws.length A) x.1);refine⟨?_,⟨F1,p1.aug ck.2.2.1 s.op (by rw[p2,p3];omega),p2⟩,λk Z=>?_⟩
      . by_cases z:q=0;.subst z;rw[G5];exact iv.fit
        .refine iv.fit.aug ck.2.2.2 (by omega) λu W=>?_;obtain⟨v,g,h1,X,h3⟩:=s.rm u W;exact⟨v,g,h1,X,by omega⟩
      .rw[p7 iv.fit.len ck.2.2.1,iv.dt,jF]
     have:=zero r _ _ hr g;rw[fb]at this;exact this
theorem Im{ws:List Wy}{T:Int}:∀{cs:List (List aB×Int)},cs.Pairwise (λa b=>bN ws a.1<=bN ws b.1)->(∀x∈cs,0<x.2)->0<=Rt ws cs T/\bR (λx=>x.2*(T+1-bN ws x.1)) (lW cs (Rt ws cs T))=val ws T cs
 |[],_,_=>⟨eM _,rfl⟩|x::r,t,h=>by
   have G:=h x (by simp);have t:=kU.mp t;obtain⟨H,e⟩:=Im (T:=T) t.2 λy hy=>h y (by simp[hy]);have u:Rt ws (x::r) T=gt T (bN ws x.1) x.2+Rt ws r T:=rfl;have A:val ws T (x::r)=vt T (bN ws x.1) x.2+val ws T r:=rfl;by_cases c:bN ws x.1<=T
   . have B:gt T (bN ws x.1) x.2=x.2:=by unfold gt;rw[if_pos c]
     have C:vt T (bN ws x.1) x.2=x.2*(T+1-bN ws x.1):=by unfold vt;rw[if_pos c];congr 1;omega
     rw[u,A,B,C,lW,show min (x.2+Rt ws r T) x.2=x.2 by omega,show x.2+Rt ws r T-x.2=Rt ws r T by omega,bR,e];exact⟨by omega,rfl⟩
   . have z:∀y∈x::r,¬ bN ws y.1<=T:=λy hy=>by
      rcases de.mp hy with rfl|hy;.exact c
      .have:=t.1 y hy;omega
     have r0:Rt ws (x::r) T=0:=by
      have:Rt ws (x::r) T=bR (λ_=>0) (x::r):=jc λy hy=>by unfold gt;rw[if_neg (z y hy)]
      rw[this];have:∀l:List (List aB×Int),bR (λ_=>0) l=0:=λl=>by induction l with|nil=>rfl|cons y l e=>rw[bR,e];rfl
      exact this _
     have E:val ws T (x::r)=0:=by
      have:val ws T (x::r)=bR (λ_=>0) (x::r):=jc λy hy=>by unfold Tj;rw[if_neg (z y hy)]
      rw[this];have:∀l:List (List aB×Int),bR (λ_=>0) l=0:=λl=>by induction l with|nil=>rfl|cons y l e=>rw[bR,e];rfl
      exact this _
     rw[r0,E];exact⟨eM _,(Ir (fs:=[]) h λc=>by simp).2⟩
noncomputable def late(ws:List Wy):Int:=jG (λv=>v.h) ws
theorem CZ{ws:List Wy}{b:Int}{t:aB}{v:Wy}(e:ws[t.1]?=some v):∀{c:List aB}{a:Int},il ws b c a->t∈c->frm v t.2∈qZ ws c a/\too v t.2∈qZ ws c a
 |[],_,_,h=>by cases h|s::c,a,⟨y,u,z,A⟩,h=>by
   have B:qC ws s=too y s.2:=by unfold qC;rw[u]
   rw[qZ,B];rcases de.mp h with rfl|h;.rw[e]at u;cases u;refine⟨by rw[z];simp,dE _ ?_⟩;cases c<;>simp[qZ]
   .have:=CZ e A h;exact⟨dE _ this.1,dE _ this.2⟩
theorem Dt{ws:List Wy}{b:Int}:∀{c:List aB}{a:Int},il ws b c a->(qZ ws c a).Nodup->(c.map (·.1)).Nodup
 |[],_,_,_=>by simp|s::c,a,⟨v,e,A,B⟩,h=>by
   have C:qC ws s=too v s.2:=by unfold qC;rw[e]
   rw[qZ,C,eK]at h;rw[c_,eK];refine⟨λE=>?_,Dt B h.2⟩;obtain⟨t,ht,y⟩:=cU.mp E;have u:=CZ (t:=t) (by rw[y];exact e) B ht;by_cases z:t.2=s.2;.rw[z,A]at u;exact h.1 u.1
   .rw[(j9 z).2,A]at u;exact h.1 u.2
theorem R5(u:∀v∈ws,0<=v.h)(y:il ws b c a)(A:(c.map (·.1)).Nodup):0<=late ws+bN ws c:=by
 have h1:=p7 (k:=1) (x:=1) (q:=λ_=>0) (fs:=b_ ws.length 0) (by simp) y;rw[rB]at h1;have E:eU (gap 1 λ_=>0) ws (aug 1 (b_ ws.length 0) c)<=late ws:=by
  refine Ag (by rw[lY];simp) λj v g t e=>?_;have G:=u v (da t);have B:g=0\/g=1\/g=-1:=by
   by_cases z:j∈c.map (·.1);.obtain⟨s,hs,rfl⟩:=cU.mp z;have C:s.1<ws.length:=(dJ t).1;rw[uU A hs (g:=0) (by simp[C])]at e;cases e;cases s.2<;>simp[sg]
   .rw[m8 z]at e;exact .inl (uL e)
  unfold gap;rcases B with rfl|rfl|rfl<;>simp<;>omega
 omega
noncomputable def tM(m:Int)(L:Int)(i:Nat):List (Int×Int):=(0,0)::(dP i).map λ(j:Nat)=>(1+(j:Int),L)
theorem kJ{L:Int}{i:Nat}:(a,b)∈tM m L i↔(a=0/\b=0)\/(1<=a/\a<1+(i:Int)/\b=L):=by
 unfold tM;rw[de,cU];constructor
 . rintro(h|⟨j,e,h⟩);.cases h;exact .inl ⟨rfl,rfl⟩
   .cases h;have:=j4.mp e;exact .inr ⟨by omega,by omega,rfl⟩
 . rintro(⟨rfl,rfl⟩|⟨h1,t,rfl⟩);.exact .inl rfl
   .exact .inr ⟨(a-1).toNat,j4.mpr (by omega),by rw[mv];exact⟨by omega,rfl⟩⟩
theorem Jo{L:Int}{i:Nat}:tM m L (i+1)=tM m L i++[(1+(i:Int),L)]:=by unfold tM;rw[range_succ,fy];rfl
theorem Vv{L:Int}{i:Nat}:((tM m L i).map (·.1)).Nodup:=by
 unfold tM;rw[c_,ec,eK];refine⟨λh=>?_,?_⟩;.obtain⟨j,_,e⟩:=cU.mp h;have e:1+(j:Int)=0:=e;omega
 .refine List.Pairwise.map _ (λa b(h:a≠b)=>?_) List.nodup_range;show 1+(a:Int)≠1+(b:Int);omega
noncomputable def bD(p:Int×Int):Int×D:=(p.1,.int p.2)
theorem Pz{bs:List (Int×Int)}:FQ (bs.map bD)=bs.map (·.1):=by simp[FQ,bD,io]
theorem ZJ{bs:List (Int×Int)}:dsV (bs.map bD)=bs.map λp=>.int p.2:=by simp[dsV,bD,io]
theorem Zy{bs:List (Int×Int)}(h:p∉bs.map (·.1)):o9 (bs.map bD) p=false:=by cases e:o9 (bs.map bD) p with|false=>rfl|true=>have e:(FQ (bs.map bD)).contains p=true:=e;rw[Pz,i7]at e;exact absurd e h
theorem LR{c:Call}{x:Nat}{e:Int}:ex c n (.Ko x k e) ρ=match ρ[x]?with|some .aQ=>.ok .next (ρ.set x (.cQ [(k,.int e)]))|some (.cQ _)=>.ok .next (ρ.set x (.cQ [(k,.int e)]))|some (.val false _)=>.ok .next (ρ.set x (.cQ [(k,.int e)]))|_=>.stuck:=(rfl)
noncomputable def hD4(d:D):D:=match d with|.tup [_,_,_,h]=>h|_=>d
@[simp]theorem agF{a b c h:D}:hD4 (.tup [a,b,c,h])=h:=rfl
theorem wW:∀{ws:List Wy},(ws.map Wy.h).sum=late ws|[]=>rfl|v::ws=>by rw[c_,nv,wW];rfl
inductive F6c(a0 a1 a2 a3 a4 a5:Sl)(ρ:List Sl):Prop where|mk(s:Sl)(q0:ρ=[a0,a1,a2,a3,a4,a5,s])(q1:fr s=true)
inductive JFc(m:Int)(ws:List Wy)(a0 a1:Sl)(i:Nat)(ρ:List Sl):Prop where|mk(s4:Sl)(q0:ρ=[a0,a1,.val false (.int (late ws)),.cQ ((tM m (late ws) i).map bD),s4,.aQ])(q1:fr s4=true)
noncomputable def Wn(es:List En)(p:Int):Int:=Et (λ_=>0) 0 es p
noncomputable def lbD(es:List En):D->D|.int p=>.int (Wn es p)|d=>d
theorem zF{s:Sl}{fs:List Int}(hw:100<=w)(hs:Vs s fs)(h:HN m ws)(E:fs.length=ws.length)(I:Pt ws fs F)(k:∀es,xr m ws fs (tM m (late ws) (m-1).toNat) es->Q (.own (((dP m.toNat).map λ(i:Nat)=>Wn es (i:Int)).map D.int)) [.val false (aN m ws),s]):(run Γ w (n+4) 18 [.val false (aN m ws),s]).sat Q:=by
 have m0:=h.m0;have m1:=h.m1;have hn:=h.len;have X:∀v∈ws,0<=v.h:=λv hv=>(h.ok v hv).2.2;have ac:0<=late ws:=by
  have:∀(l:List Wy),(∀v∈l,0<=v.h)->0<=late l:=λl=>by induction l with|nil=>intro _;exact eM _|cons v l ih=>intro E;have h1:=E v (by simp);have J:=ih λu hu=>E u (by simp[hu]);show 0<=v.h+late l;omega
  exact this ws X
 refine aL (d:=f18) rfl rfl (by decide) ?_;refine bW (λρ=>ρ=[.val false (aN m ws),s,.val false (.int (late ws)),.aQ,.aQ,.aQ]) ?_ ?_
 . simp[f18,show ws.length<=16777216 by omega];refine bw (F6c _ _ _ _ _ _) hD4 ⟨.aQ,rfl,rfl⟩ ?_ ?_;.rintro d hd _⟨B,rfl,t⟩;obtain⟨v,_,rfl⟩:=cU.mp hd;simp[t,Wy.d];exact⟨_,rfl,rfl⟩
   . rintro _⟨B,rfl,t⟩;have e:(ws.map Wy.d).map hD4=(ws.map Wy.h).map D.int:=by rw[ec,ec];rfl
     rw[e];have e2:=wW (ws:=ws);generalize ws.map Wy.h=ns at*;simp[gk,e2]
 rintro _ rfl;(first|apply ak|apply Fg);simp[LR];refine bW (JFc m ws (.val false (aN m ws)) s (m-1).toNat) ?_ ?_
 . simp[show m<=1000000000 by omega,show-1000000000<=m by omega];rw[show m.toNat-1=(m-1).toNat by omega];refine fH (JFc m ws (.val false (aN m ws)) s) ?_ ?_ ⟨.aQ,rfl,rfl⟩
   . rintro i _ hi⟨s4,rfl,G⟩;have L:o9 ((tM m (late ws) i).map bD) (1+(i:Int))=false:=Zy λz=>by obtain⟨⟨a,b⟩,y,e⟩:=cU.mp z;have e:a=1+(i:Int):=e;rcases kJ.mp y with⟨h1,_⟩|⟨h1,J,_⟩<;>omega
     have H:fZ ((tM m (late ws) i).map bD) (1+(i:Int)) (.int (late ws))=(tM m (late ws) (i+1)).map bD:=by rw[mZ L,Jo,fy];rfl
     simp[G];apply ak;simp[H];refine⟨λ_=>⟨_,rfl,rfl⟩,?_⟩;have:(tM m (late ws) i).length=i+1:=by simp[tM]
     show _<16777216;omega
   .rintro _⟨s4,rfl,G⟩;exact⟨rfl,_,rfl,G⟩
 rintro _⟨s4,rfl,G⟩;have Y:∀a b,(a,b)∈tM m (late ws) (m-1).toNat->0<=a/\a<m:=λa b y=>by rcases kJ.mp y with⟨h1,_⟩|⟨h1,J,_⟩<;>omega
 have hZ:∀a b c,(a,b)∈tM m (late ws) (m-1).toNat->il ws 0 c a->sU ws fs c->0<=b+bN ws c:=λa b c y H ho=>by
  obtain⟨c',Z,q2,q3,q4,q5⟩:=short h I (Y a b y) _ (dw) H ho;have h1:=R5 X Z (Dt Z q5);have J:bN ws c'<=bN ws c:=by unfold Le at q4;omega
  rcases kJ.mp y with⟨rfl,rfl⟩|⟨_,_,rfl⟩;.have:=lC I H ho;omega
  .omega
 have M:∀{n:Nat}{Q:R->List Sl->Prop}(B:Sl),Vs B fs->(∀es,xr m ws fs (tM m (late ws) (m-1).toNat) es->Q (.val (jM es)) [.val false (aN m ws),B,v8 (tM m (late ws) (m-1).toNat)])->(run Γ w (n+3) 5 [.val false (aN m ws),B,v8 (tM m (late ws) (m-1).toNat)]).sat Q:=λB t k'=>uq hw I Y (kJ.mpr (.inl ⟨rfl,rfl⟩)) Vv hZ t h E k';generalize O:tM m (late ws) (m-1).toNat=bs at*;(first|apply ak|apply Fg);rcases hs with rfl|⟨b,rfl⟩;all_goals
  simp[Pz,ZJ];refine M _ (by first|exact .inl rfl|exact .inr ⟨_,rfl⟩) λes A=>?_;simp;apply ak;simp[show m<=1000000000 by omega,show-1000000000<=m by omega];refine⟨λ_=>?_,by show _<=16777216;omega⟩;refine bw (F6c _ _ _ _ _ _) (lbD es) ⟨.aQ,rfl,rfl⟩ ?_ ?_
  . rintro d hd _⟨B,rfl,t⟩;obtain⟨i,hi,rfl⟩:=cU.mp hd;have hi:=j4.mp hi;obtain⟨l,o,z,_⟩:∃l o,((i:Int),l,o)∈es/\True:=by
     have C:∃b,((i:Int),b)∈bs:=by
      rw[<-O];by_cases c:i=0;.exact⟨0,kJ.mpr (.inl ⟨by omega,rfl⟩)⟩
      .exact⟨late ws,kJ.mpr (.inr ⟨by omega,by omega,rfl⟩)⟩
     obtain⟨b,U⟩:=C;obtain⟨l,o,z,_⟩:=A.bg _ _ U;exact⟨l,o,z,trivial⟩
    have gz:=xW A.cm.nd z;have W:Wn es (i:Int)=o.2:=ir A.cm.nd z;simp[t,jM,gz,zX,lbD,W];exact⟨_,rfl,rfl⟩
  . rintro _⟨B,rfl,t⟩;have e:((dP m.toNat).map λ(k:Nat)=>D.int (k:Int)).map (lbD es)=((dP m.toNat).map λ(i:Nat)=>Wn es (i:Int)).map D.int:=by rw[ec,ec];rfl
    rw[e];have L:=k es A;generalize((dP m.toNat).map λ(i:Nat)=>Wn es (i:Int))=ns at*;simp;exact L
noncomputable def lgD(fs:List Int)(cl:List Int):D:=.tup [.lst (fs.map D.int),.lst (cl.map D.int)]
inductive JLi(m q:Int)(ws:List Wy)(ts:List (List aB×Int))(r:List D)(ρ:List Sl):Prop where|mk(bI us:List (List aB×Int))(s3 s4:Sl)(q0:ρ=[.val false (aN m ws),.val false (.int q),.own false ((flow ws.length bI).map D.int),s3,s4])(q1:(fr s3=true/\fr s4=true))(q2:r=us.map cD)(q3:bI++us=ts)
theorem HD:(flow N cs).length=N:=by
 have:∀(cs:List (List aB×Int))(fs:List Int),(cs.foldl oK fs).length=fs.length:=λcs=>by induction cs with|nil=>intro fs;rfl|cons x cs e=>intro fs;rw[nE,e];exact lY
 unfold flow;rw[this];simp
theorem Ec{q:Int}(X:13286250<=w)(h:cR m ws)(M:0<=q)(Y:∀cs,cY m ws cs->q<=RP cs)(k:∀cs fs cl,cY m ws cs->cs.Pairwise (λa b=>bN ws a.1<=bN ws b.1)->Mz m ws (lW cs q) fs->Q (.val (lgD fs cl)) [.val false (aN m ws),.val false (.int q)]):(run Γ w (n+5) 19 [.val false (aN m ws),.val false (.int q)]).sat Q:=by
 have hn:=h.len;have O:=HN.of h;refine aL (d:=f19) rfl rfl (by decide) ?_;refine bW (λρ=>ρ=[.val false (aN m ws),.val false (.int q),.own false ((flow ws.length []).map D.int),.aQ,.aQ]) ?_ ?_;.simp[f19,flow];show _<=16777216;omega
 rintro _ rfl;(first|apply ak|apply Fg);simp;refine xm X O (λv C=>(h.ok v C).r0) λcs fs F d es Z z=>?_;have A:cY m ws cs:=⟨λv C=>(h.ok v C).h0,fs,F,d,es,z⟩;have B:=z.light cs [] q rfl M;have E:(lW cs q).foldl oK (flow ws.length [])=flow ws.length (lW cs q):=rfl;rw[E,nz]at B;have G:=z.ck;simp;refine FN (by omega) (Py (λx H=>(z.iv.ch x H).2.1) M (Y cs A)) ?_;simp;refine cA (JLi m q ws (lW cs q)) ?_ ?_ ⟨[],lW cs q,.aQ,.aQ,rfl,⟨rfl,rfl⟩,rfl,rfl⟩;.rintro d r _⟨I,t,s3,s4,rfl,⟨U,W⟩,hr,hd⟩;cases t with|nil=>cases hr|cons u t=>
     obtain⟨rfl,rfl⟩:d=cD u/\r=t.map cD:=by simpa using hr
     have J:(I++[u])++t=lW cs q:=by rw[fb];exact hd
     obtain⟨x,H,e⟩:=Ci (l:=cs) (q:=q) (y:=u) (by rw[<-hd];simp);simp[cD,U,W];apply ak;simp;refine yj (.inr ⟨true,rfl⟩) (λs hs=>by rw[HD];exact(G x H).2.1 s (by rw[<-e];exact hs)) ?_;simp;exact⟨I++[u],t,_,_,by rw[qR],⟨rfl,rfl⟩,rfl,J⟩
 . rintro _⟨I,t,s3,s4,rfl,⟨U,W⟩,hr,hd⟩;have:t=[]:=by cases t with|nil=>rfl|cons _ _=>cases hr
   subst this;rw[fE]at hd;subst hd;obtain⟨F1,p1,p2⟩:=B.ht;simp;apply ak;simp;refine zF (by omega) (.inl rfl) O B.fit.len p1 λL ac=>?_;have hk:=λcl=>k cs (flow ws.length (lW cs q)) cl A z.st.1 B;generalize((dP m.toNat).map λ(i:Nat)=>Wn L (i:Int))=ns at*;simp;exact hk ns
theorem vC{T:Int}(y:13286250<=w)(h:cR m ws)(k:∀cs fs z,cY m ws cs->Mz m ws z fs->bR (λx=>x.2*(T+1-bN ws x.1)) z=val ws T cs->Q (.val (.lst (fs.map D.int))) [.val false (aN m ws),.val false (.int T)]):(run Γ w (n+8) 24 [.val false (aN m ws),.val false (.int T)]).sat Q:=by refine aL (d:=f24) rfl rfl (by decide) ?_;(first|apply ak|apply Fg);simp[f24];refine Ah y h λcs u=>?_;simp;refine Ec y h u.Zc (λt e=>by rw[u.Pq e];exact e.Z2) λt fs cl e B A=>?_;rw[u.Pq e]at A;simp[lgD];exact k t fs _ e A (Im B λx C=>(e.nn x C).2).2
@[simp]theorem Zz{c:Call}{i n:Nat}{a u:P}{is:List Nat}{one:Bool}{h:Option P}{ρ:List Sl}:ev c (.lA i a n is one h u) ρ=(Il i (ev c a) ρ).bind λy e=>if y.1.length<=lim then(mz c is one h u y.1 (e++b_ n .aQ)).bind λxs t=>.ok (.own xs) (aY y.2 (some i) (t.take e.length))else .stuck:=(rfl)
@[simp]theorem abZ{i:Nat}{f:Ev}{ρ:List Sl}:Il i f ρ=(f ρ).bind λr e=>(lift (items r.d) e).bind λes e=>match e[i]?with|some (.val _ d)=>(lift (items d) e).bind λds e=>.ok ((es.zip ds).map λp=>D.tup [p.1,p.2],e) e|some (.own _ ds)=>.ok ((es.zip ds).map λp=>D.tup [p.1,p.2],e) (e.set i (.lent ds))|some (.lent ds)=>.ok ((es.zip ds).map λp=>D.tup [p.1,p.2],e) e|_=>.stuck:=rfl
noncomputable def lM:List Wy->List Int->List Wy|w::ws,l::ls=>{w with r:=l}::lM ws ls|_,_=>[]
theorem gU:∀{ws:List Wy}{ls:List Int},ls.length=ws.length->(lM ws ls).length=ws.length|[],[],_=>rfl|[],_::_,h=>by simp at h|_::_,[],h=>by simp at h|w::ws,l::ls,h=>by simp[lM,gU (ws:=ws) (ls:=ls) (by simpa using h)]
theorem zj:∀{ws:List Wy}{ls:List Int}{k:Nat}{u:Wy},(lM ws ls)[k]?=some u->∃v l,ws[k]?=some v/\ls[k]?=some l/\u={v with r:=l}|[],_,k,u,h=>by simp[lM]at h|_::_,[],k,u,h=>by simp[lM]at h|w::ws,l::ls,0,u,h=>by simp[lM]at h;exact⟨w,l,rfl,rfl,h.symm⟩|w::ws,l::ls,k+1,u,h=>by simp only[lM,fk]at h ⊢;exact zj h
theorem GQ:∀{ws:List Wy}{ls:List Int}{k:Nat}{v:Wy}{l:Int},ws[k]?=some v->ls[k]?=some l->(lM ws ls)[k]?=some {v with r:=l}|[],_,k,v,l,h,_=>by simp at h|_::_,[],k,v,l,_,h=>by simp at h|w::ws,x::ls,0,v,l,h,h'=>by simp at h h';subst h h';simp[lM]|w::ws,x::ls,k+1,v,l,h,h'=>by simp only[lM,fk]at h h' ⊢;exact GQ h h'
noncomputable def zrD:D->D|.tup [.tup [a,b,_,e],l]=>.tup [a,b,l,e]|d=>d
@[simp]theorem ag4{a b c e l:D}:zrD (.tup [.tup [a,b,c,e],l])=.tup [a,b,l,e]:=rfl
theorem Ju:∀{ws:List Wy}{ls:List Int},((((ws.map Wy.d).zip (ls.map D.int)).map λp=>D.tup [p.1,p.2]).map zrD)=(lM ws ls).map Wy.d|[],_=>by simp[lM]|_::_,[]=>by simp[lM]|w::ws,l::ls=>by have:=Ju (ws:=ws) (ls:=ls);simp only[c_,lP,lM,this];rfl
inductive FY(a b c:Sl)(ρ:List Sl):Prop where|mk(s:Sl)(t:Sl)(q0:ρ=[a,b,c,s,t])(q1:fr s=true)(q2:fr t=true)
noncomputable def LX1(s:Sl)(ls:List Int):Prop:=(∃b,s=.val b (.lst (ls.map D.int)))\/(∃b,s=.val b (.tup (ls.map D.int)))
noncomputable def LX2(s:Sl)(ls:List Int):Prop:=(∃b,s=.own b (ls.map D.int))\/(∃b,s=.val b (.lst (ls.map D.int)))
theorem Eb{s1:Sl}(u:ws.length<=12)(hs:LX1 s1 ls)(k:Q (.val (aN m (lM ws ls))) [.val false (aN m ws),s1]):(run Γ w (n+1) 17 [.val false (aN m ws),s1]).sat Q:=by refine aL (d:=f17) rfl rfl (by decide) ?_;(first|apply ak|apply Fg);rcases hs with⟨b,rfl⟩|⟨b,rfl⟩;all_goals
  simp[f17];refine⟨λ_=>?_,by show _<=16777216;omega⟩;refine bw (FY _ _ _) zrD ⟨.aQ,.aQ,rfl,rfl,rfl⟩ ?_ ?_;.rintro d hd _⟨s,t,rfl,hs,ht⟩;obtain⟨⟨x,y⟩,h,rfl⟩:=cU.mp hd;obtain⟨v,_,rfl⟩:=cU.mp (iE h).1;simp[hs,ht,Wy.d];exact⟨_,_,rfl,rfl,rfl⟩
  rintro _⟨s,t,rfl,hs,ht⟩;have e:=Ju (ws:=ws) (ls:=ls);generalize(((ws.map Wy.d).zip (ls.map D.int)).map λp=>D.tup [p.1,p.2]).map zrD=X at*;subst e;simp;apply ak;simp;exact k
noncomputable def kW:List Wy->List Int->List Wy|v::ws,l::ls=>⟨v.t,v.s,l,v.h⟩::kW ws ls|_,_=>[]
theorem kI:∀{ws:List Wy}{ls:List Int},ls.length=ws.length->(kW ws ls).length=ws.length|[],[],_=>rfl|[],_::_,h=>by simp at h|_::_,[],h=>by simp at h|w::ws,l::ls,h=>by simp[kW,kI (ws:=ws) (ls:=ls) (by simpa using h)]
theorem zB:∀{ws:List Wy}{ls:List Int}{k:Nat}{u:Wy},(kW ws ls)[k]?=some u->∃v l,ws[k]?=some v/\ls[k]?=some l/\u=⟨v.t,v.s,l,v.h⟩|[],_,k,u,h=>by simp[kW]at h|_::_,[],k,u,h=>by simp[kW]at h|w::ws,l::ls,0,u,h=>by simp[kW]at h;exact⟨w,l,rfl,rfl,h.symm⟩|w::ws,l::ls,k+1,u,h=>by simp only[kW,fk]at h ⊢;exact zB h
noncomputable def ztD:D->D|.tup [.tup [a,b,_,e],l]=>.tup [b,a,l,e]|d=>d
@[simp]theorem ahq{a b c e l:D}:ztD (.tup [.tup [a,b,c,e],l])=.tup [b,a,l,e]:=rfl
theorem Ho:∀{ws:List Wy}{ls:List Int},((((ws.map Wy.d).zip (ls.map D.int)).map λp=>D.tup [p.1,p.2]).map ztD)=(kW ws ls).map Wy.d|[],_=>by simp[kW]|_::_,[]=>by simp[kW]|w::ws,l::ls=>by have:=Ho (ws:=ws) (ls:=ls);simp only[c_,lP,kW,this];rfl
noncomputable def iC(ws:List Wy)(fo ba:List Int):List Wy:=lM ws fo++kW ws ba
inductive F4l(a b c d:Sl)(ρ:List Sl):Prop where|mk(s:Sl)(t:Sl)(q0:ρ=[a,b,c,d,s,t])(q1:fr s=true)(q2:fr t=true)
theorem tK{s1 s2:Sl}(z:ws.length<=12)(h:fo.length=ws.length)(u:ba.length=ws.length)(h1:LX1 s1 fo)(A:LX2 s2 ba)(k:Q (.val (aN m (iC ws fo ba))) [.val false (aN m ws),s1,s2]):(run Γ w (n+2) 26 [.val false (aN m ws),s1,s2]).sat Q:=by
 refine aL (d:=f26) rfl rfl (by decide) ?_;refine bW (λρ=>ρ=[.val false (aN m ws),s1,s2,.own false ((kW ws ba).map Wy.d)]) ?_ ?_;.rcases A with⟨b,rfl⟩|⟨b,rfl⟩;all_goals
    simp[f26];refine⟨λ_=>?_,by show _<=16777216;omega⟩;refine bw (F4l _ _ _ _) ztD ⟨.aQ,.aQ,rfl,rfl,rfl⟩ ?_ ?_;.rintro d hd _⟨s,t,rfl,hs,ht⟩;obtain⟨⟨x,y⟩,B,rfl⟩:=cU.mp hd;obtain⟨v,_,rfl⟩:=cU.mp (iE B).1;simp[hs,ht,Wy.d];exact⟨_,_,rfl,rfl,rfl⟩
    rintro _⟨s,t,rfl,hs,ht⟩;have e:=Ho (ws:=ws) (ls:=ba);generalize(((ws.map Wy.d).zip (ba.map D.int)).map λp=>D.tup [p.1,p.2]).map ztD=X at*;subst e;simp
 rintro _ rfl;have C:=gU (ws:=ws) h;have E:=kI (ws:=ws) u;(first|apply ak|apply Fg);have G:=h1;rcases h1 with⟨b,rfl⟩|⟨b,rfl⟩;all_goals
  simp;refine Eb z (by first|exact .inl ⟨_,rfl⟩|exact .inr ⟨_,rfl⟩) ?_;simp;refine⟨by show _<=16777216;omega,?_⟩;have e:D.tup [.int m,.tup ((lM ws fo).map Wy.d++(kW ws ba).map Wy.d)]=aN m (iC ws fo ba):=by unfold aN iC;rw[fy]
  rw[e];exact k
theorem Bg(e:ws.length<=6)(k:Q (.val .non) [.val false (aN m ws)]):(run Γ w (n+1) 25 [.val false (aN m ws)]).sat Q:=by refine aL (d:=f25) rfl rfl (by decide) ?_;(first|apply ak|apply Fg);simp[f25,show ¬(6:Int)<(ws.length:Int)by omega,show ¬ 6<ws.length by omega];exact k
noncomputable def yV(d:D):D:=match d with|.tup [_,_,r,_]=>r|_=>d
@[simp]theorem aey{a b c e:D}:yV (.tup [a,b,c,e])=c:=rfl
inductive F2o(a b:Sl)(ρ:List Sl):Prop where|mk(s:Sl)(q0:ρ=[a,b,s])(q1:fr s=true)
noncomputable def bL(ws:List Wy):List Int:=ws.map Wy.r
theorem uC(t:ws.length<=6)(k:Q (.val (aN m (iC ws (bL ws) (bL ws)))) [.val false (aN m ws)]):(run Γ w (n+3) 27 [.val false (aN m ws)]).sat Q:=by
 refine aL (d:=f27) rfl rfl (by decide) ?_;(first|apply ak|apply Fg);simp[f27];refine Bg t ?_;simp;apply ak;simp[show ws.length<=16777216 by omega];refine bw (F2o _ _) yV ⟨.aQ,rfl,rfl⟩ ?_ ?_;.rintro d hd _⟨s,rfl,hs⟩;obtain⟨v,_,rfl⟩:=cU.mp hd;simp[hs,Wy.d];exact⟨_,rfl,rfl⟩
 rintro _⟨s,rfl,hs⟩;have e:(ws.map Wy.d).map yV=(bL ws).map D.int:=by unfold bL;rw[ec,ec];rfl
 rw[e];have h:(bL ws).length=ws.length:=dy _;generalize bL ws=ls at*;simp;apply ak;simp;refine tK (by omega) h h (.inl ⟨_,rfl⟩) (.inr ⟨_,rfl⟩) ?_;simp;exact k
noncomputable def fits(ws:List Wy)(ls:List Int):Prop:=ls.length=ws.length/\∀(j:Nat)v l,ws[j]?=some v->ls[j]?=some l->0<=l/\l<=v.r
theorem mL{H:Wy->Int}{b:List Wy}:∀{a:List Wy},jG H (a++b)=jG H a+jG H b|[]=>by simp[jG]|v::a=>by rw[gT,jG,jG,mL];omega
noncomputable def Lg(v:Wy):Int×Int×Int:=(v.s,v.t,v.h)
theorem Be{k:Int}{q:Int->Int}:∀{ws t:List Wy}{fs:List Int},ws.map Lg=t.map Lg->eU (gap k q) ws fs=eU (gap k q) t fs
 |[],[],_,_=>rfl|[],_::_,_,h=>by simp at h|_::_,[],_,h=>by simp at h|v::ws,u::t,[],_=>rfl|v::ws,u::t,f::fs,h=>by
   rw[c_,c_,List.cons.injEq]at h;have e:gap k q v=gap k q u:=by have h1:=h.1;unfold Lg at h1;rw[mv,mv]at h1;unfold gap;rw[h1.1,h1.2.1,h1.2.2]
   rw[eU,eU,e,Be h.2]
theorem vL:∀{ws:List Wy}{ls:List Int},ls.length=ws.length->(lM ws ls).map Lg=ws.map Lg|[],[],_=>rfl|[],_::_,h=>by simp at h|_::_,[],h=>by simp at h|w::ws,l::ls,h=>by rw[lM,c_,c_,vL (by simpa using h)];rfl
theorem Ce:∀{ws:List Wy}{as bs:List Int},as.length=ws.length->bs.length=ws.length->(kW ws as).map Lg=(kW ws bs).map Lg|[],[],[],_,_=>rfl|[],_::_,_,h,_=>by simp at h|[],[],_::_,_,h=>by simp at h|_::_,[],_,h,_=>by simp at h|_::_,_::_,[],_,h=>by simp at h|w::ws,a::as,b::bs,h,h'=>by rw[kW,kW,c_,c_,Ce (as:=as) (bs:=bs) (by simpa using h) (by simpa using h')];rfl
theorem Nz{a b c d:List Int}(h1:a.length=ws.length)(e:b.length=ws.length)(h:c.length=ws.length)(t:d.length=ws.length):(iC ws a b).map Lg=(iC ws c d).map Lg:=by unfold iC;rw[fy,fy,vL h1,vL h,Ce e t]
noncomputable def xO(as bs:List Int):Prop:=∀(j:Nat)a b,as[j]?=some a->bs[j]?=some b->a<=b
theorem xO.tail{as bs:List Int}(h:xO (a::as) (b::bs)):xO as bs:=λj x y e t=>h (j+1) x y (by simpa using e) (by simpa using t)
theorem xu{q:Int->Int}:∀{ws:List Wy}{as bs:List Int},as.length=ws.length->bs.length=ws.length->xO as bs->dU q (lM ws as)<=dU q (lM ws bs)|[],[],[],_,_,_=>eM _|[],_::_,_,h,_,_=>by simp at h|[],[],_::_,_,h,_=>by simp at h|_::_,[],_,h,_,_=>by simp at h|_::_,_::_,[],_,h,_=>by simp at h|w::ws,a::as,b::bs,h,h',e=>by have t:=xu (q:=q) (ws:=ws) (as:=as) (bs:=bs) (by simpa using h) (by simpa using h') e.tail;have h0:=e 0 a b rfl rfl;have h1:ji q {w with r:=a}<=ji q {w with r:=b}:=i4 h0 (by omega);show ji q {w with r:=a}+dU q (lM ws as)<=ji q {w with r:=b}+dU q (lM ws bs);omega
theorem wZ{q:Int->Int}:∀{ws:List Wy}{as bs:List Int},as.length=ws.length->bs.length=ws.length->xO as bs->dU q (kW ws as)<=dU q (kW ws bs)|[],[],[],_,_,_=>eM _|[],_::_,_,h,_,_=>by simp at h|[],[],_::_,_,h,_=>by simp at h|_::_,[],_,h,_,_=>by simp at h|_::_,_::_,[],_,h,_=>by simp at h|w::ws,a::as,b::bs,h,h',e=>by have u:=wZ (q:=q) (ws:=ws) (as:=as) (bs:=bs) (by simpa using h) (by simpa using h') e.tail;have h0:=e 0 a b rfl rfl;have h1:ji q ⟨w.t,w.s,a,w.h⟩<=ji q ⟨w.t,w.s,b,w.h⟩:=i4 h0 (by omega);show ji q ⟨w.t,w.s,a,w.h⟩+dU q (kW ws as)<=ji q ⟨w.t,w.s,b,w.h⟩+dU q (kW ws bs);omega
theorem qU(h:cR m ws)(G:ws.length<=6)(h1:fo.length=ws.length)(B:ba.length=ws.length)(C:∀l∈fo,0<=l/\l<=1000000000)(E:∀l∈ba,0<=l/\l<=1000000000):cR m (iC ws fo ba):=by
 refine⟨h.m0,h.m1,by unfold iC;rw[dZ,gU h1,kI B];omega,λu hu=>?_⟩;rcases eW.mp hu with hu|hu;.obtain⟨k,y,e⟩:=kc hu;obtain⟨v,l,z,A,rfl⟩:=zj (ws:=ws) (ls:=fo) (k:=k) (u:=u) (by rw[fv y,e]);have t:=h.ok v (da z);have:=C l (da A);exact⟨t.s0,t.s1,t.t0,t.t1,t.ne,this.1,this.2,t.h0,t.h1⟩
 .obtain⟨k,y,e⟩:=kc hu;obtain⟨v,l,z,A,rfl⟩:=zB (ws:=ws) (ls:=ba) (k:=k) (u:=u) (by rw[fv y,e]);have t:=h.ok v (da z);have:=E l (da A);exact⟨t.t0,t.t1,t.s0,t.s1,λe=>t.ne e.symm,this.1,this.2,t.h0,t.h1⟩
theorem yG:∀{ws:List Wy}{ls:List Int}{k:Nat}{v:Wy}{l:Int},ws[k]?=some v->ls[k]?=some l->(kW ws ls)[k]?=some ⟨v.t,v.s,l,v.h⟩|[],_,k,v,l,h,_=>by simp at h|_::_,[],k,v,l,_,h=>by simp at h|w::ws,x::ls,0,v,l,h,h'=>by simp at h h';subst h h';simp[kW]|w::ws,x::ls,k+1,v,l,h,h'=>by simp only[kW,fk]at h h' ⊢;exact yG h h'
structure Fth(ws:List Wy)(F fo:List Int):Prop where
 len:fo.length=ws.length
 at_:∀(j:Nat)v g,ws[j]?=some v->F[ws.length+j]?=some g->fo[j]?=some (v.r-g)
theorem gQ(e:ws[j]?=some v):(bL ws)[j]?=some v.r:=by unfold bL;rw[eR,e];rfl
theorem Ey{T v1 v2:Int}{F:List Int}{ts:List (List aB×Int)}(h:cR m ws)(L:Mz m (iC ws (bL ws) (bL ws)) ts F)(hs:bR (λx=>x.2*(T+1-bN (iC ws (bL ws) (bL ws)) x.1)) ts=v2)(l2:dW m (iC ws (bL ws) (bL ws)) T v2)(E:Fth ws F fo)(Y:ba.length=ws.length)(M:∀(j:Nat)v g,ws[j]?=some v->F[ws.length+j]?=some g->ba[j]?=some g)(l1:dW m (iC ws fo ba) T v1):v1=v2:=by
 have H:(bL ws).length=ws.length:=dy _;have O:=gU (ws:=ws) H;have U:=gU (ws:=ws) E.len;have ac:F.length=ws.length+ws.length:=by rw[L.fit.len];unfold iC;rw[dZ,O,kI H]
 have I:∀j,j<ws.length+ws.length->∃g,F[j]?=some g:=λj C=>⟨F[j]'(by omega),by simp[show j<F.length by omega]⟩;have VL:∀(j:Nat)v,ws[j]?=some v->(iC ws (bL ws) (bL ws))[j]?=some {v with r:=v.r}:=λj v e=>by have C:=(dJ e).1;unfold iC;rw[cK (by omega)];exact GQ e (gQ e)
 have VM:∀(j:Nat)v,ws[j]?=some v->(iC ws (bL ws) (bL ws))[ws.length+j]?=some ⟨v.t,v.s,v.r,v.h⟩:=λj v e=>by unfold iC;rw[er (by omega),O,show ws.length+j-ws.length=j by omega];exact yG e (gQ e)
 have z:∀(j:Nat)v g g',ws[j]?=some v->F[j]?=some g->F[ws.length+j]?=some g'->(0<=g/\g<=v.r)/\(0<=g'/\g'<=v.r)/\¬(0<g/\0<g'):=λj v g g' e y A=>by have W:=L.fit.ok _ _ _ (VL j v e) y;have Z:=L.fit.ok _ _ _ (VM j v e) A;refine⟨W,Z,λ⟨p1,p2⟩=>?_⟩;obtain⟨G,hG,_⟩:=L.ht;have o1:=hG (j,false) _ (VL j v e) (by rw[jA (s:=(j,false)) (VL j v e) y];simp[oA];exact p1);have o2:=hG (ws.length+j,false) _ (VM j v e) (by rw[jA (s:=(ws.length+j,false)) (VM j v e) A];simp[oA];exact p2);have hh:=(h.ok v (da e)).h0;simp[too,frm,hsp]at o1 o2;omega
 have fit:KJ (iC ws fo ba) F:=by
  refine⟨by rw[ac];unfold iC;rw[dZ,U,kI Y],λj u g y A=>?_⟩;by_cases c:j<ws.length;.unfold iC at y;rw[cK (by omega)]at y;obtain⟨v,l,J,a2,rfl⟩:=zj y;obtain⟨g',B⟩:=I (ws.length+j) (by omega);have b1:=z j v g g' J A B;have b2:=E.at_ j v g' J B;rw[a2]at b2;cases b2;show 0<=g/\g<=v.r-g';omega
  . unfold iC at y;rw[er (by omega),U]at y;obtain⟨v,l,J,a2,rfl⟩:=zB y;have ej:ws.length+(j-ws.length)=j:=by omega
    have B:=M _ v g J (by rw[ej];exact A);rw[a2]at B;cases B;obtain⟨g0,X⟩:=I (j-ws.length) (by have:=(dJ J).1;omega);have b1:=z _ v g0 g J X (by rw[ej];exact A);exact⟨b1.2.1.1,eM _⟩
 refine Int.le_antisymm ?_ ?_
 . obtain⟨q,q0,W,Z⟩:=l2.ex;have:=l1.le q q0 W;have d1:dU q (lM ws fo)<=dU q (lM ws (bL ws)):=xu E.len H λj a b y A=>by
    have C:=(dJ y).1;rw[E.len]at C;have ev:ws[j]?=some ws[j]:=by simp[C]
    obtain⟨g',B⟩:=I (ws.length+j) (by omega);obtain⟨g,X⟩:=I j (by omega);have b1:=z j _ g g' ev X B;rw[E.at_ j _ g' ev B]at y;rw[gQ ev]at A;cases y;cases A;omega
   have d2:dU q (kW ws ba)<=dU q (kW ws (bL ws)):=wZ Y H λj a b y A=>by
    have C:=(dJ y).1;rw[Y]at C;have ev:ws[j]?=some ws[j]:=by simp[C]
    obtain⟨g',B⟩:=I (ws.length+j) (by omega);obtain⟨g,X⟩:=I j (by omega);have b1:=z j _ g g' ev X B;rw[M j _ g' ev B]at y;rw[gQ ev]at A;cases y;cases A;omega
   have y:dU q (iC ws fo ba)=dU q (lM ws fo)+dU q (kW ws ba):=mL;have A:dU q (iC ws (bL ws) (bL ws))=dU q (lM ws (bL ws))+dU q (kW ws (bL ws)):=mL;omega
 . obtain⟨q,q0,W,Z⟩:=l1.ex;rw[<-Z,<-hs];have d:=L.dt 1 q;rw[q0,W]at d;have d2:bR (λx=>x.2*(T+1-bN (iC ws (bL ws) (bL ws)) x.1)) ts=eU (gap 1 q) (iC ws (bL ws) (bL ws)) F:=by rw[d];refine jc λx _=>?_;congr 1;omega
   rw[d2,Be (Nz H H E.len Y)];exact vD fit
@[simp]theorem Qz{i n:Nat}{a h:P}{is:List Nat}{one:Bool}{e:Option P}:isVar (.lA i a n is one e h)=none:=rfl
theorem aeI{ds:List D}{b:Zu}{ps:List P}:Hg (.lst ds) (part (.blt b ps) (.int i)) (part (.con .non) .non)=some (.own (cut ds (some i) none)):=rfl
theorem Ja{F:List Int}(h:n<=F.length):cut F (some (n:Int)) none=F.drop n:=by unfold cut dO;simp;rw[Nat.min_eq_left h,hX (by simp)]
inductive F3w(a b:Sl)(ρ:List Sl):Prop where|mk(s:Sl)(t:Sl)(q0:ρ=[a,b,s,t])(q1:fr s=true)(q2:fr t=true)
theorem aeX:∀{fs:List Int},((fs.map D.int).zip (ws.map Wy.d)).map (λp=>D.tup [p.1,p.2])=(fs.zip ws).map λp=>D.tup [.int p.1,p.2.d]:=by intro fs;rw[List.zip_map,ec];rfl
theorem Jw{bs:List Bool}:(bs.map D.bl).mapM yI=some bs:=by induction bs with|nil=>rfl|cons b bs e=>simp[e]
noncomputable def QC(p:Int×Wy):Bool:=decide (0<=p.1)&&decide (p.1<=p.2.r)
noncomputable def okD:D->D|.tup [.int l,.tup [_,_,.int r,_]]=>.bl (decide (0<=l)&&decide (l<=r))|d=>d
theorem Hl{l s t r h:Int}:okD (.tup [.int l,.tup [.int s,.int t,.int r,.int h]])=.bl (decide (0<=l)&&decide (l<=r)):=rfl
@[simp]theorem agz{l:Int}{v:Wy}:okD (.tup [.int l,v.d])=.bl (QC (l,v)):=rfl
theorem xg(u:ws.length<=12)(y:ls.length<=12)(k:Q (.val (.bl ((ls.zip ws).all QC))) [.val false (aN m ws),.val false (.tup (ls.map D.int))]):(run Γ w (n+1) 16 [.val false (aN m ws),.val false (.tup (ls.map D.int))]).sat Q:=by
 refine aL (d:=f16) rfl rfl (by decide) ?_;(first|apply ak|apply Fg);simp[f16];rw[aeX];refine⟨λ_=>?_,by show _<=16777216;omega⟩;refine bw (F3w _ _) okD ⟨.aQ,.aQ,rfl,rfl,rfl⟩ ?_ ?_
 . rintro d hd _⟨s,t,rfl,hs,ht⟩;obtain⟨⟨l,v⟩,z,rfl⟩:=cU.mp hd;by_cases h1:0<=l
   . by_cases h:l<=v.r;.simp[hs,ht,Wy.d,h1,h,Hl];exact⟨_,_,rfl,rfl,rfl⟩
     .simp[hs,ht,Wy.d,h1,h,Hl];exact⟨_,_,rfl,rfl,rfl⟩
   .simp[hs,ht,Wy.d,h1,Hl];exact⟨_,_,rfl,rfl,rfl⟩
 . rintro _⟨s,t,rfl,hs,ht⟩;have e:((ls.zip ws).map λp=>D.tup [.int p.1,p.2.d]).map okD=((ls.zip ws).map QC).map D.bl:=by rw[ec,ec];exact fF λp _=>rfl
   rw[e,Jw];simp;rw[show((ls.zip ws).all QC)=((ls.zip ws).all QC)from rfl]at k;first|exact k|skip
theorem JH(t:ls.length=ws.length):(ls.zip ws).all QC=true↔fits ws ls:=by
 rw[fP];constructor;.intro h;refine⟨t,λj v l u y=>?_⟩;have:=h (l,v) (da (i:=j) (by rw[h9];exact⟨y,u⟩));simpa[QC]using this
 .rintro h⟨l,v⟩z;obtain⟨j,e⟩:=iy z;rw[h9]at e;have:=h.2 j v l e.2 e.1;simpa[QC]using this
theorem lX(e:ws.length<=12)(t:ls.length<=12)(k:∀b,(b=true↔fits ws ls)->Q (.val (.bl b)) [.val false (aN m ws),.val false (.tup (ls.map D.int))]):(run Γ w (n+2) 28 [.val false (aN m ws),.val false (.tup (ls.map D.int))]).sat Q:=by
 refine aL (d:=Yv) rfl rfl (by decide) ?_;(first|apply ak|apply Fg);by_cases he:ls.length=ws.length;.simp[Yv,he];refine xg e t ?_;simp;exact k _ (JH he)
 .simp[Yv,show ¬((ls.length:Int)=(ws.length:Int))by omega];exact k false ⟨λh=>(by cases h),λh=>absurd h.1 he⟩
theorem xJ(e:ws.length<=12)(h:fits ws ls)(k:Q (.val (.bl true)) [.val false (aN m ws),.val false (.tup (ls.map D.int))]):(run Γ w (n+2) 28 [.val false (aN m ws),.val false (.tup (ls.map D.int))]).sat Q:=lX e (by rw[h.1];exact e) λb t=>by rw[t.mpr h];exact k
noncomputable def sJ:List Wy->List Int->List Int|v::ws,l::ls=>(v.r-l)::sJ ws ls|_,_=>[]
theorem gf:∀{ws:List Wy}{ls:List Int},ls.length=ws.length->(sJ ws ls).length=ws.length|[],[],_=>rfl|[],_::_,h=>by simp at h|_::_,[],h=>by simp at h|w::ws,l::ls,h=>by simp[sJ,gf (ws:=ws) (ls:=ls) (by simpa using h)]
theorem jw:∀{ws:List Wy}{ls:List Int}{k:Nat}{v:Wy}{l:Int},ws[k]?=some v->ls[k]?=some l->(sJ ws ls)[k]?=some (v.r-l)|[],_,k,v,l,h,_=>by simp at h|_::_,[],k,v,l,_,h=>by simp at h|w::ws,x::ls,0,v,l,h,h'=>by simp at h h';subst h h';simp[sJ]|w::ws,x::ls,k+1,v,l,h,h'=>by simp only[sJ,fk]at h h' ⊢;exact jw h h'
noncomputable def zbD:D->D|.tup [.tup [_,_,.int r,_],.int l]=>.int (r-l)|d=>d
@[simp]theorem ag1{a b e:D}{r l:Int}:zbD (.tup [.tup [a,b,.int r,e],.int l])=.int (r-l):=rfl
theorem zY:∀{ws:List Wy}{ls:List Int},((((ws.map Wy.d).zip (ls.map D.int)).map λp=>D.tup [p.1,p.2]).map zbD)=(sJ ws ls).map D.int|[],_=>by simp[sJ]|_::_,[]=>by simp[sJ]|w::ws,l::ls=>by have:=zY (ws:=ws) (ls:=ls);simp only[c_,lP,sJ,this];rfl
theorem Fj(u:ws.length<=6)(e:fits ws ls)(k:Q (.val (aN m (iC ws ls (sJ ws ls)))) [.val false (aN m ws),.val false (.tup (ls.map D.int))]):(run Γ w (n+3) 29 [.val false (aN m ws),.val false (.tup (ls.map D.int))]).sat Q:=by
 refine aL (d:=f29) rfl rfl (by decide) ?_;(first|apply ak|apply Fg);simp[f29];refine Bg u ?_;simp;apply ak;simp;refine xJ (by omega) e ?_;simp;apply ak;simp;refine⟨λ_=>?_,by show _<=16777216;omega⟩;refine bw (F3w _ _) zbD ⟨.aQ,.aQ,rfl,rfl,rfl⟩ ?_ ?_;.rintro d hd _⟨s,t,rfl,hs,ht⟩;obtain⟨⟨x,y⟩,h,rfl⟩:=cU.mp hd;obtain⟨v,_,rfl⟩:=cU.mp (iE h).1;obtain⟨l,_,rfl⟩:=cU.mp (iE h).2;simp[hs,ht,Wy.d];exact⟨_,_,rfl,rfl,rfl⟩
 rintro _⟨s,t,rfl,hs,ht⟩;rw[zY];simp;refine tK (by omega) e.1 (gf e.1) (.inr ⟨_,rfl⟩) (.inl ⟨_,rfl⟩) ?_;simp;exact k
theorem di(h:cR m ws):∀l∈bL ws,0<=l/\l<=1000000000:=λl t=>by obtain⟨v,e,rfl⟩:=cU.mp t;exact⟨(h.ok v e).r0,(h.ok v e).r1⟩
structure Bst(m T:Int)(ws:List Wy)(fo:List Int):Prop where
 fit:fits ws fo
 opt:∀v1 v2,dW m (iC ws (bL ws) (bL ws)) T v2->dW m (iC ws fo (sJ ws fo)) T v1->v1=v2
theorem Gv{T:Int}(O:13286250<=w)(h:cR m ws)(J:ws.length<=6)(h0:0<=T)(k:∀fo,Bst m T ws fo->Q (.val (.tup (fo.map D.int))) [.val false (aN m ws),.val false (.int T)]):(run Γ w (n+9) 30 [.val false (aN m ws),.val false (.int T)]).sat Q:=by
 have A:(bL ws).length=ws.length:=dy _;have U:=qU h J A A (di h) (di h);refine aL (d:=f30) rfl rfl (by decide) ?_;(first|apply ak|apply Fg);simp[f30];refine uC J ?_;simp;refine vC O U λcs F Z W E B=>?_;have X:F.length=ws.length+ws.length:=by rw[E.fit.len];unfold iC;rw[dZ,gU A,kI A]
 simp[aeI,mC,Ja (F:=F) (n:=ws.length) (by omega)];apply ak;simp[<-List.map_drop];refine⟨λ_=>?_,by show _<=16777216;omega⟩;have G:(F.drop ws.length).length=ws.length:=by rw[lV];omega
 have z:∀j,(F.drop ws.length)[j]?=F[ws.length+j]?:=λj=>List.getElem?_drop;generalize F.drop ws.length=gs at*;refine bw (FY _ _ _) zbD ⟨.aQ,.aQ,rfl,rfl,rfl⟩ ?_ ?_;.rintro d hd _⟨s,t,rfl,hs,ht⟩;obtain⟨⟨x,y⟩,L,rfl⟩:=cU.mp hd;obtain⟨v,_,rfl⟩:=cU.mp (iE L).1;obtain⟨l,_,rfl⟩:=cU.mp (iE L).2;simp[hs,ht,Wy.d];exact⟨_,_,rfl,rfl,rfl⟩
 rintro _⟨s,t,rfl,hs,ht⟩;rw[zY];have bl:=gf G;have H:∀(j:Nat)v g,ws[j]?=some v->gs[j]?=some g->0<=g/\g<=v.r:=λj v g e u=>by
  rw[z]at u;have Y:(iC ws (bL ws) (bL ws))[ws.length+j]?=some ⟨v.t,v.s,v.r,v.h⟩:=by unfold iC;rw[er (by rw[gU A];omega),gU A,show ws.length+j-ws.length=j by omega];exact yG e (gQ e)
  have q:=E.fit.ok _ _ _ Y u;exact q
 have C:fits ws (sJ ws gs):=⟨bl,λj v l e u=>by
  have hj:=(dJ e).1;have M:gs[j]?=some gs[j]:=by simp[show j<gs.length by omega]
  rw[jw e M]at u;cases u;have:=H j v _ e M;omega⟩;have I:Bst m T ws (sJ ws gs):=⟨C,λv1 v2 l2 l1=>by
  refine Ey h E (by rw[B];exact(W.least h0).uniq l2) l2 ⟨bl,λj v g e u=>?_⟩ (gf bl) (λj v g e u=>?_) l1;.rw[<-z]at u;exact jw e u
  .rw[<-z]at u;rw[jw e (jw e u)];congr 1;omega⟩;simp;exact k _ I
theorem oG{T:Int}(e:13286250<=w)(h:cR m ws)(h0:0<=T)(t:T<=1000000000000000000)(k:∀v,dW m ws T v->Q (.val (.int v)) [.val false (aN m ws),.val false (.int T)]):(run Γ w (n+6) 22 [.val false (aN m ws),.val false (.int T)]).sat Q:=zg e h t λcs u=>k _ (u.least h0)
theorem Jd{T:Int}(h:cR m ws)(E:ws.length<=6)(u:fits ws fo):cR m (iC ws fo (sJ ws fo)):=by
 have key:∀(j:Nat)l,fo[j]?=some l->∃v,ws[j]?=some v/\v∈ws/\0<=l/\l<=v.r:=λj l e=>by
  have t:=(dJ e).1;rw[u.1]at t;have ev:ws[j]?=some ws[j]:=by simp[t]
  exact⟨_,ev,iP t,u.2 j _ l ev e⟩
 refine qU h E u.1 (gf u.1) (λl y=>?_) (λl y=>?_);.obtain⟨j,t,e⟩:=kc y;obtain⟨v,_,z,G,H⟩:=key j l (by rw[fv t,e]);have:=(h.ok v z).r1;omega
 . obtain⟨j,t,e⟩:=kc y;have A:j<fo.length:=by rw[gf u.1]at t;rw[u.1];exact t
   have B:fo[j]?=some fo[j]:=by simp[A]
   obtain⟨v,ev,z,G,H⟩:=key j _ B;have C:=jw ev B;rw[fv t,e]at C;cases C;have:=(h.ok v z).r1;omega
noncomputable def fB(row:List Int)(i:Int):Int:=row.getD i.toNat 0
theorem uK{row:List Int}(h0:0<=i)(h:i<(row.length:Int)):at' (row.map D.int) i=some (.int (fB row i)):=by
 rw[vh h0 (by simpa using h)];have:i.toNat<row.length:=by omega
 simp[fB,this]
noncomputable def lD(T:Int)(row:List Int):List (List Int):=(dP (T+2).toNat).map λ(h:Nat)=>row++[(h:Int)]
noncomputable def eN(T:Int):Nat->List (List Int)|0=>[[0]]|j+1=>(eN T j).flatMap (lD T)
noncomputable def rK(row:List Int):D:=.lst (row.map D.int)
theorem rT{T:Int}(e:T<=12):∀{j:Nat},(eN T j).length<=14^j
 |0=>by simp[eN]|j+1=>by
   rw[eN,List.length_flatMap];have h:=rT e (j:=j);have:∀(l:List (List Int)),(l.map λa=>(lD T a).length).sum<=l.length*14:=λl=>by induction l with|nil=>simp|cons a l h=>
      rw[c_,nv,ea];have:(lD T a).length<=14:=by simp[lD];omega
      omega
   have:=this (eN T j);rw[Nat.pow_succ];omega
theorem jB{T:Int}:∀{j:Nat}{row:List Int},row∈eN T j->row.length=j+1/\row[0]?=some 0|0,row,h=>by rw[eN,dV]at h;subst h;simp|j+1,row,h=>by rw[eN,lU]at h;obtain⟨r,hr,h⟩:=h;obtain⟨i,_,rfl⟩:=cU.mp h;have:=jB hr;refine⟨by simp[this.1],?_⟩;rw[cK (by omega)];exact this.2
theorem rN{T:Int}{q:Int->Int}(h:q 0=0)(e:∀i,0<=q i/\q i<=T+1):∀{j:Nat},(dP (j+1)).map (λ(i:Nat)=>q (i:Int))∈eN T j
 |0=>by simp[eN,h]|j+1=>by
   rw[eN,lU];refine⟨_,rN h e (j:=j),?_⟩;refine cU.mpr ⟨(q ((j+1:Nat):Int)).toNat,?_,?_⟩;.have:=e ((j+1:Nat):Int);rw[j4];omega
   .rw[range_succ (n:=j+1),fy,ja (e _).1];rfl
theorem Nu{c:Call}{x:Nat}{e:P}:ex c n (.Kg x e) ρ=(lift (zJ ρ x) ρ).bind λ_ ρ=>(ev c e ρ).bind λr ρ=>match ρ[x]?,r with|some (.own b ds),.own es=>if ds.length+es.length<=lim then .ok .next (ρ.set x (.own b (ds++es)))else .stuck|_,_=>.stuck:=(rfl)
noncomputable def LO(s:Sl)(ds:List D):Prop:=s=.own false ds\/s=.val false (.lst ds)
inductive JAc(T:Int)(a0 a1:Sl)(i:Nat)(ρ:List Sl):Prop where|mk(s2:Sl)(s3:Sl)(s4:Sl)(s5:Sl)(q0:ρ=[a0,a1,s2,s3,s4,s5])(q1:LO s2 ((eN T i).map rK))(q2:A3 (fr s3=true) (fr s4=true) (fr s5=true))
inductive JAd(T:Int)(rows:List (List Int))(a0 a1 a2 a3:Sl)(r:List D)(ρ:List Sl):Prop where|mk(bI us:List (List Int))(s5:Sl)(q0:ρ=[a0,a1,a2,a3,.own false ((bI.flatMap (lD T)).map rK),s5])(q1:fr s5=true)(q2:r=us.map rK)(q3:bI++us=rows)
inductive F6a(a0 a1 a2 a3 a4 a5:Sl)(ρ:List Sl):Prop where|mk(s:Sl)(q0:ρ=[a0,a1,a2,a3,a4,a5,s])(q1:fr s=true)
noncomputable def SJ(row:List Int):D->D|.int h=>rK (row++[h])|d=>d
noncomputable def U8(x:Int):D->D|.lst ds=>.lst (ds++[.int x])|d=>d
theorem xn{T:Int}{row:List Int}(h:T<=12):(lD T row).length<=14:=by simp[lD];omega
theorem wJ{T:Int}(e:T<=12):∀{l:List (List Int)},(l.flatMap (lD T)).length<=l.length*14|[]=>by simp|a::l=>by have h1:=wJ e (l:=l);have h:=xn (row:=a) e;rw[List.flatMap_cons,dZ,ea];omega
theorem HR{T:Int}(m0:2<=m)(m1:m<=6)(h0:0<=T)(G:T<=12)(k:Q (.own (((eN T (m-2).toNat).map λrow=>row++[T+1]).map rK)) [.val false (.int m),.val false (.int T)]):(run Γ w (n+1) 36 [.val false (.int m),.val false (.int T)]).sat Q:=by
 refine aL (d:=f36) rfl rfl (by decide) ?_;(first|apply ak|apply Fg);simp[f36];have A:∀i:Nat,i<=4->(eN T i).length<=38416:=λi hi=>by
  have h1:=rT G (j:=i);have:i=0\/i=1\/i=2\/i=3\/i=4:=by omega
  rcases this with rfl|rfl|rfl|rfl|rfl<;>omega
 refine bW (JAc T (.val false (.int m)) (.val false (.int T)) (m-2).toNat) ?_ ?_
 . simp[show m-2<=1000000000 by omega,show-1000000000<=m-2 by omega];refine fH (JAc T (.val false (.int m)) (.val false (.int T))) ?_ ?_ ⟨_,.aQ,.aQ,.aQ,rfl,.inl rfl,rfl,rfl,rfl⟩
   . rintro i _ hi⟨s2,s3,s4,s5,rfl,z,C,E,h⟩;have J:=A i (by omega);simp[C];apply ak;simp[E];refine bW (λρ=>∃s2 s5,ρ=[.val false (.int m),.val false (.int T),s2,.val false (.int (i:Int)),.own false ((eN T (i+1)).map rK),s5]/\LO s2 ((eN T i).map rK)/\fr s5=true) ?_ ?_;.rcases z with rfl|rfl;all_goals
        simp;refine cA (JAd T (eN T i) _ _ _ _) ?_ ?_ ⟨[],eN T i,s5,rfl,h,rfl,rfl⟩;.rintro d r _⟨t,y,s5,rfl,h,hr,hd⟩;cases y with|nil=>cases hr|cons u y=>
            obtain⟨rfl,rfl⟩:d=rK u/\r=y.map rK:=by simpa using hr
            have L:t.length<=(eN T i).length:=by rw[<-hd];simp
            have M:=wJ G (l:=t);have H:(t++[u])++y=eN T i:=by rw[fb];exact hd
            have I:=(jB (T:=T) (j:=i) (row:=u) (by rw[<-hd];simp)).1;have O:=xn (row:=u) G;simp[h];apply ak;simp[Nu,show T+2<=1000000000 by omega,show-1000000000<=T+2 by omega];refine⟨λ_=>?_,by omega⟩;refine bw (F6a _ _ _ _ _ _) (SJ u) ⟨.aQ,rfl,rfl⟩ ?_ ?_;.rintro d hd _⟨s,rfl,hs⟩;obtain⟨j,_,rfl⟩:=cU.mp hd;simp[hs,rK,SJ,show u.length+1<=lim by show _<=16777216;omega];exact⟨_,rfl,rfl⟩
            . rintro _⟨s,rfl,hs⟩;have e:((dP (T+2).toNat).map λ(k:Nat)=>D.int (k:Int)).map (SJ u)=(lD T u).map rK:=by rw[ec,lD,ec];rfl
              have U:(t++[u]).flatMap (lD T)=t.flatMap (lD T)++lD T u:=by simp
              rw[e];have B:(List.flatMap (lD T) t).length+(lD T u).length<=lim:=by show _<=16777216;omega
              simp only[fk,m_,dy];rw[if_pos B];simp;exact⟨t++[u],y,.val false (rK u),by rw[U,fy],rfl,rfl,H⟩
        . rintro _⟨t,y,s5,rfl,h,hr,hd⟩;have:y=[]:=by cases y with|nil=>rfl|cons _ _=>cases hr
          subst this;rw[fE]at hd;subst hd;simp;exact⟨_,_,⟨rfl,rfl,rfl⟩,by first|exact .inl rfl|exact .inr rfl,h⟩
     .rintro _⟨s2,s5,rfl,z,h⟩;(first|apply ak|apply Fg);rcases z with rfl|rfl;all_goals simp;exact⟨_,_,_,_,rfl,.inr rfl,rfl,rfl,h⟩
   .rintro _⟨s2,s3,s4,s5,rfl,z,C,E,h⟩;exact⟨rfl,_,_,_,_,rfl,z,C,E,h⟩
 rintro _⟨s2,s3,s4,s5,rfl,z,C,E,h⟩;have J:=A (m-2).toNat (by omega);(first|apply ak|apply Fg);rcases z with rfl|rfl;all_goals
  simp[show(eN T (m-2).toNat).length<=16777216 by omega];refine bw (F6a _ _ _ _ _ _) (U8 (T+1)) ⟨.aQ,rfl,rfl⟩ ?_ ?_;.rintro d hd _⟨s,rfl,hs⟩;obtain⟨u,W,rfl⟩:=cU.mp hd;have I:=(jB W).1;simp[hs,rK,U8,show u.length+1<=lim by show _<=16777216;omega];exact⟨_,rfl,rfl⟩
  . rintro _⟨s,rfl,hs⟩;have e:((eN T (m-2).toNat).map rK).map (U8 (T+1))=((eN T (m-2).toNat).map λrow=>row++[T+1]).map rK:=by rw[ec,ec];refine fF λrow _=>?_;show D.lst (row.map D.int++[.int (T+1)])=D.lst ((row++[T+1]).map D.int);rw[fy];rfl
    rw[e];simpa using k
theorem aaN(S:List Int):(S.map D.int).map mD=S:=by rw[ec];exact(fF λ_ _=>rfl).trans (List.map_id _)
noncomputable def Ny(T:Int)(q:Int->Int)(p:Int):Int:=max 0 (min (T+1) (q p))
theorem Bj{H K:Wy->Int}:∀{ws:List Wy},(∀v∈ws,H v<=K v)->jG H ws<=jG K ws|[],_=>eM _|v::ws,h=>by have h1:=h v (by simp);have t:=Bj (H:=H) (K:=K) (ws:=ws) λu e=>h u (by simp[e]);rw[jG,jG];omega
theorem Jh{T:Int}{r:Int->Int}(h:cR m ws)(hr:∀p,0<=p->p<m->r p=Ny T q p):dU r ws<=dU q ws:=Bj λv e=>by have ho:=h.ok v e;have h0:=ho.h0;unfold ji;refine Int.mul_le_mul_of_nonneg_left ?_ ho.r0;rw[hr _ ho.s0 ho.s1,hr _ ho.t0 ho.t1];unfold Ny;omega
theorem Aj{T v:Int}(h:cR m ws)(h0:0<=T)(t:dW m ws T v):(∀row∈(eN T (m-2).toNat).map λrow=>row++[T+1],v<=dU (fB row) ws)/\∃row∈(eN T (m-2).toNat).map λrow=>row++[T+1],dU (fB row) ws<=v:=by
 have m0:=h.m0;refine⟨λrow e=>?_,?_⟩
 . obtain⟨u,y,rfl⟩:=cU.mp e;have:=jB y;refine t.le _ ?_ ?_;.unfold fB;rw[f_,show(0:Int).toNat=0 from rfl,cK (by omega),this.2];rfl
   .unfold fB;rw[f_,er (by omega),show(m-1).toNat-u.length=0 by omega];rfl
 . obtain⟨q,C,E,z⟩:=t.ex;have hc:∀i,0<=Ny T q i/\Ny T q i<=T+1:=λi=>by unfold Ny;omega
   have A:=rN (T:=T) (q:=Ny T q) (by unfold Ny;omega) hc (j:=(m-2).toNat);refine⟨_,cU.mpr ⟨_,A,rfl⟩,?_⟩;rw[<-z];refine Jh (T:=T) h λp B p1=>?_;unfold fB;rw[f_];by_cases c:p=m-1;.rw[er (by simp;omega),c];simp only[dy,jI];rw[show(m-1).toNat-((m-2).toNat+1)=0 by omega];show T+1=_;unfold Ny;omega
   .rw[cK (by simp;omega),eR,List.getElem?_range (by omega)];show Ny T q (p.toNat:Int)=_;rw[ja B]
noncomputable def l1(q:Int->Int)(v:Wy)(a b:Int):Int:=a*max 0 (q v.t-q v.s-v.h)+b*max 0 (q v.s-q v.t-v.h)
noncomputable def lsum(q:Int->Int):List Wy->List Int->List Int->Int|v::ws,a::as,b::bs=>l1 q v a b+lsum q ws as bs|_,_,_=>0
theorem tV{q:Int->Int}:∀{ws:List Wy}{as bs:List Int},as.length=ws.length->bs.length=ws.length->lsum q ws as bs=dU q (lM ws as)+dU q (kW ws bs)|[],[],[],_,_=>rfl|[],_::_,_,h,_=>by simp at h|[],[],_::_,_,h=>by simp at h|_::_,[],_,h,_=>by simp at h|_::_,_::_,[],_,h=>by simp at h|w::ws,a::as,b::bs,h,h'=>by have e:=tV (q:=q) (ws:=ws) (as:=as) (bs:=bs) (by simpa using h) (by simpa using h');have u:dU q (lM (w::ws) (a::as))=a*max 0 (q w.t-q w.s-w.h)+dU q (lM ws as):=rfl;have y:dU q (kW (w::ws) (b::bs))=b*max 0 (q w.s-q w.t-w.h)+dU q (kW ws bs):=rfl;rw[lsum,e,u,y];unfold l1;omega
theorem lsum_snoc{q:Int->Int}{v:Wy}{a b:Int}:∀{ws:List Wy}{as bs:List Int},as.length=ws.length->bs.length=ws.length->lsum q (ws++[v]) (as++[a]) (bs++[b])=lsum q ws as bs+l1 q v a b|[],[],[],_,_=>by simp[lsum]|[],_::_,_,h,_=>by simp at h|[],[],_::_,_,h=>by simp at h|_::_,[],_,h,_=>by simp at h|_::_,_::_,[],_,h=>by simp at h|w::ws,x::as,y::bs,h,h'=>by have e:=lsum_snoc (q:=q) (v:=v) (a:=a) (b:=b) (ws:=ws) (as:=as) (bs:=bs) (by simpa using h) (by simpa using h');rw[gT,gT,gT,lsum,e,lsum];omega
theorem Gf{as bs:List Int}{k:Nat}(h1:as.length=ws.length)(h:bs.length=ws.length)(e:ws[k]?=some v)(t:as[k]?=some a)(u:bs[k]?=some b):lsum q (ws.take (k+1)) (as.take (k+1)) (bs.take (k+1))=lsum q (ws.take k) (as.take k) (bs.take k)+l1 q v a b:=by rw[lw,lw,lw,e,t,u];exact lsum_snoc (by simp[h1]) (by simp[h])
inductive JMi(q:Int->Int)(ws:List Wy)(fo ba:List Int)(a0 a1 a2 a3 a4 a5:Sl)(i:Nat)(ρ:List Sl):Prop where|mk(s7:Sl)(s8:Sl)(s9:Sl)(iG:Sl)(pO:Sl)(q0:ρ=[a0,a1,a2,a3,a4,a5,.val false (.int (lsum q (ws.take i) (fo.take i) (ba.take i))),s7,s8,s9,iG,pO])(q1:A5 (fr s7=true) (fr s8=true) (fr s9=true) (fr iG=true) (fr pO=true))
inductive JMo(ws:List Wy)(fo ba:List Int)(rows:List (List Int))(a0 a1 a2 a3:Sl)(r:List D)(ρ:List Sl):Prop where|mk(bI us:List (List Int))(s5 s6 s7 s8 s9 iG pO:Sl)(q0:ρ=[a0,a1,a2,a3,.own false ((bI.map λrow=>lsum (fB row) ws fo ba).map D.int),s5,s6,s7,s8,s9,iG,pO])(q1:A7 (fr s5=true) (fr s6=true) (fr s7=true) (fr s8=true) (fr s9=true) (fr iG=true) (fr pO=true))(q2:r=us.map rK)(q3:bI++us=rows)
theorem uF{T:Int}{s1 s2:Sl}(h:cR m ws)(h6:ws.length<=6)(hN:cR m (iC ws fo ba))(H:fo.length=ws.length)(I:ba.length=ws.length)(hf:∀l∈fo,0<=l/\l<=1000000000)(hb:∀l∈ba,0<=l/\l<=1000000000)(h0:0<=T)(hT:T<=12)(W:((∃b,s1=.val b (.tup (fo.map D.int)))/\∃b,s2=.own b (ba.map D.int))\/(∃b,s1=.val b (.lst (fo.map D.int)))/\∃b,s2=.val b (.lst (ba.map D.int)))(k:∀d,(∀v,dW m (iC ws fo ba) T v->v=d)->Q (.val (.int d)) [.val false (aN m ws),s1,s2,.val false (.int T)]):(run Γ w (n+2) 37 [.val false (aN m ws),s1,s2,.val false (.int T)]).sat Q:=by
 have m0:=h.m0;have m1:=h.m1;have X:(eN T (m-2).toNat).length<=38416:=by
  have h1:=rT hT (j:=(m-2).toNat);have:(m-2).toNat=0\/(m-2).toNat=1\/(m-2).toNat=2\/(m-2).toNat=3\/(m-2).toNat=4:=by omega
  rcases this with e|e|e|e|e<;>rw[e]at h1 ⊢<;>omega
 refine aL (d:=f37) rfl rfl (by decide) ?_;(first|apply ak|apply Fg);simp[f37];apply ak;simp;refine HR m0 m1 h0 hT ?_;have Y:∀row∈(eN T (m-2).toNat).map λrow=>row++[T+1],(row.length:Int)=m:=λrow J=>by obtain⟨u,hu,rfl⟩:=cU.mp J;have:=(jB hu).1;simp;omega
 have Z:(eN T (m-2).toNat).map (λrow=>row++[T+1])≠[]:=by have:=rN (T:=T) (q:=λ_=>0) rfl (λi=>by omega) (j:=(m-2).toNat);intro z;rw[List.map_eq_nil_iff]at z;rw[z]at this;cases this
 have ac:∀v,dW m (iC ws fo ba) T v->_:=λv hv=>Aj hN h0 hv;have am:((eN T (m-2).toNat).map λrow=>row++[T+1]).length<=38416:=by rw[dy];exact X
 generalize((eN T (m-2).toNat).map λrow=>row++[T+1])=A at*;simp;refine cA (JMo ws fo ba A _ _ _ _) ?_ ?_ ⟨[],A,.aQ,.aQ,.aQ,.aQ,.aQ,.aQ,.aQ,rfl,⟨rfl,rfl,rfl,rfl,rfl,rfl,rfl⟩,rfl,rfl⟩;.rintro d r _⟨E,G,s5,s6,s7,s8,s9,iG,pO,rfl,⟨h5,ae,L,M,O,B,C⟩,hr,hd⟩;cases G with|nil=>cases hr|cons u G=>
     obtain⟨rfl,rfl⟩:d=rK u/\r=G.map rK:=by simpa using hr
     have ap:=Y u (by rw[<-hd];simp);have ar:E.length<=A.length:=by rw[<-hd];simp
     have af:(E++[u])++G=A:=by rw[fb];exact hd
     simp[h5];apply ak;simp[ae];refine bW (JMi (fB u) ws fo ba (.val false (aN m ws)) s1 s2 (.val false (.int T)) (.own false ((E.map λrow=>lsum (fB row) ws fo ba).map D.int)) (.val false (rK u)) ws.length) ?_ ?_
     . simp[show(ws.length:Int)<=1000000000 by omega];refine fH (JMi (fB u) ws fo ba (.val false (aN m ws)) s1 s2 (.val false (.int T)) (.own false ((E.map λrow=>lsum (fB row) ws fo ba).map D.int)) (.val false (rK u))) ?_ ?_ ⟨s7,s8,s9,iG,pO,by simp[lsum],L,M,O,B,C⟩
       . rintro i _ hi⟨s7,s8,s9,iG,pO,rfl,L,M,O,B,C⟩;have e1:ws[i]?=some ws[i]:=by simp[hi]
         have e2:fo[i]?=some (fo[i]'(by omega)):=by simp[show i<fo.length by omega]
         have e3:ba[i]?=some (ba[i]'(by omega)):=by simp[show i<ba.length by omega]
         have U:=h.ok _ (da e1);have q2:=hf _ (da e2);have q3:=hb _ (da e3);have a1:=cX (f:=Wy.d) e1;have a2:=cX (f:=D.int) e2;have a3:=cX (f:=D.int) e3;have es:=Gf (q:=fB u) H I e1 e2 e3;generalize ws[i]=v at*;generalize fo[i]'(by omega)=a at*;generalize ba[i]'(by omega)=b at*;have c1:=uK (row:=u) U.s0 (by have:=U.s1;omega);have c2:=uK (row:=u) U.t0 (by have:=U.t1;omega);have mo:∀{x y:Int},0<=x/\x<=1000000000->mY (.int x) (.int y)=some (.val (.int (x*y))):=λ{x y}hx=>by show(if _ then _ else _)=_;rw[if_pos];left;omega
         have el:l1 (fB u) v a b=a*(if v.h<fB u v.t-fB u v.s then fB u v.t-fB u v.s-v.h else 0)+b*(if v.h<fB u v.s-fB u v.t then fB u v.s-fB u v.t-v.h else 0):=by unfold l1;congr 2<;>split<;>omega
         rcases W with⟨⟨bb,rfl⟩,bc,rfl⟩|⟨⟨bb,rfl⟩,bc,rfl⟩;all_goals simp[L];apply ak;simp[a1,Wy.d,M,O,B,C];apply ak;simp[a2,rK,c1,c2,mo q2];apply ak;simp[a3,rK,c1,c2,mo q3];rw[ng,<-el,<-es];exact⟨_,_,_,_,_,rfl,rfl,rfl,rfl,rfl,rfl⟩
       .rintro _⟨s7,s8,s9,iG,pO,rfl,hs⟩;exact⟨rfl,s7,s8,s9,iG,pO,by simp,hs⟩
     rintro _⟨s7,s8,s9,iG,pO,rfl,L,M,O,B,C⟩;rw[hX (by omega),hX (by omega),hX (by omega)];(first|apply ak|apply Fg);simp[show E.length<16777216 by omega];exact⟨E++[u],G,.val false (rK u),.val false (.int (lsum (fB u) ws fo ba)),s7,s8,s9,iG,pO,by simp,⟨rfl,rfl,L,M,O,B,C⟩,rfl,af⟩
 . rintro _⟨E,G,s5,s6,s7,s8,s9,iG,pO,rfl,hs,hr,hd⟩;have:G=[]:=by cases G with|nil=>rfl|cons _ _=>cases hr
   subst this;rw[fE]at hd;subst hd;obtain⟨x,ag,ah,ai⟩:=Jz (ns:=E.map λrow=>lsum (fB row) ws fo ba) (by simpa using Z);have al:∀row,lsum (fB row) ws fo ba=dU (fB row) (iC ws fo ba):=λrow=>by rw[tV H I];exact mL.symm
   have hx:∀v,dW m (iC ws fo ba) T v->v=x:=λv hv=>by obtain⟨b1,row,b2,b3⟩:=ac v hv;obtain⟨jo,c1,c2⟩:=cU.mp ah;have d1:=b1 jo c1;have d2:=ai _ (cU.mpr ⟨row,b2,rfl⟩);rw[al]at c2 d2;omega
   generalize(E.map λrow=>lsum (fB row) ws fo ba)=ns at*;simp;apply ak;simp[gk,ag];exact k x hx
theorem qd{T:Int}(A:13286250<=w)(h:cR m ws)(t:ws.length<=6)(h0:0<=T)(B:T<=1000000000000000000)(G:fo.length<=12)(k:∀b e,dW m (iC ws (bL ws) (bL ws)) T e->(¬ fits ws fo->b=false)->(fits ws fo->∃u,dW m (iC ws fo (sJ ws fo)) T u/\(b=true↔u=e))->Q (.val (.bl b)) [.val false (aN m ws),.val false (.int T),.val false (.tup (fo.map D.int))]):(run Γ w (n+7) 31 [.val false (aN m ws),.val false (.int T),.val false (.tup (fo.map D.int))]).sat Q:=by have C:(bL ws).length=ws.length:=dy _;have H:=qU h t C C (di h) (di h);refine aL (d:=f31) rfl rfl (by decide) ?_;(first|apply ak|apply Fg);simp[f31];refine uC t ?_;simp;refine oG A H h0 B λe l2=>?_;simp;apply ak;simp;refine lX (by omega) G λb E=>?_;cases b with|false=>simp;exact k false e l2 (λ_=>rfl) λh=>(by have:=E.mpr h;cases this)|true=>have y:=E.mp rfl;simp;refine Fj t y ?_;simp;refine oG A (Jd (T:=T) h t y) h0 B λu l1=>?_;simp;exact k _ e l2 (λz=>absurd y z) λ_=>⟨u,l1,by simp⟩
noncomputable def Lk(ws:List Wy)(fo:List Int)(d:D):D:=.int ((sJ ws fo).getD (mD d).toNat 0)
theorem HJ(e:fo.length=ws.length):((dP ws.length).map λ(k:Nat)=>D.int (k:Int)).map (Lk ws fo)=(sJ ws fo).map D.int:=by
 rw[ec];have h:=gf e;refine k_ (by simp[h]) λi h1 t=>?_;have hi:i<(sJ ws fo).length:=by simpa using t
 simp[Lk,mD,hi]
inductive JDu(ws:List Wy)(fo:List Int)(a0 a1 a2 a3:Sl)(i:Nat)(ρ:List Sl):Prop where|mk(s4:Sl)(q0:ρ=[a0,a1,a2,a3,s4,.aQ])(q1:fr s4=true)(q2:∀(j:Nat)v l,j<i->ws[j]?=some v->fo[j]?=some l->0<=l/\l<=v.r)
theorem Iz(h:cR m ws)(u:fits ws fo):(∀l∈fo,0<=l/\l<=1000000000)/\∀l∈sJ ws fo,0<=l/\l<=1000000000:=by
 have key:∀(j:Nat)l,fo[j]?=some l->∃v,ws[j]?=some v/\v∈ws/\0<=l/\l<=v.r:=λj l e=>by
  have t:=(dJ e).1;rw[u.1]at t;have ev:ws[j]?=some ws[j]:=by simp[t]
  exact⟨_,ev,iP t,u.2 j _ l ev e⟩
 constructor;.intro l y;obtain⟨j,e⟩:=iy y;obtain⟨v,_,z,E,G⟩:=key j l e;have:=(h.ok v z).r1;omega
 . intro l y;obtain⟨j,e⟩:=iy y;have t:=(dJ e).1;have A:j<fo.length:=by rw[gf u.1]at t;rw[u.1];exact t
   have B:fo[j]?=some fo[j]:=by simp[A]
   obtain⟨v,ev,z,E,G⟩:=key j _ B;have C:=jw ev B;rw[e]at C;cases C;have:=(h.ok v z).r1;omega
theorem Ih{T W:Int}(h:cR m ws)(G:ws.length<=6)(h0:0<=T)(X:T<=12)(hl:fo.length<=12)(l2:dW m (iC ws (bL ws) (bL ws)) T W)(k:∀b,(¬ fits ws fo->b=false)->(fits ws fo->∀H,dW m (iC ws fo (sJ ws fo)) T H->(b=true↔H=W))->Q (.val (.bl b)) [.val false (aN m ws),.val false (.tup (fo.map D.int)),.val false (.int T)]):(run Γ w (n+3) 38 [.val false (aN m ws),.val false (.tup (fo.map D.int)),.val false (.int T)]).sat Q:=by
 have t:(bL ws).length=ws.length:=dy _;have hN:=qU h G t t (di h) (di h);refine aL (d:=f38) rfl rfl (by decide) ?_;(first|apply ak|apply Fg);simp[f38,show ws.length<=16777216 by omega];refine bw (F6a _ _ _ _ _ _) yV ⟨.aQ,rfl,rfl⟩ ?_ ?_;.rintro d hd _⟨s,rfl,hs⟩;obtain⟨v,_,rfl⟩:=cU.mp hd;simp[hs,Wy.d];exact⟨_,rfl,rfl⟩
 rintro _⟨s,rfl,hs⟩;have e:(ws.map Wy.d).map yV=(bL ws).map D.int:=by unfold bL;rw[ec,ec];rfl
 rw[e];simp;apply ak;by_cases he:¬ fo.length=ws.length;.simp[t,show ¬((fo.length:Int)=(ws.length:Int))by omega];exact k false (λ_=>rfl) λz=>absurd z.1 he
 have he:=Decidable.not_not.mp he;simp[t,he];have u:∀{i:Nat},i<ws.length->∃v l,ws[i]?=some v/\fo[i]?=some l/\at' ((bL ws).map D.int) (i:Int)=some (.int v.r)/\at' (fo.map D.int) (i:Int)=some (.int l):=λ{i}hi=>by
  have A:ws[i]?=some ws[i]:=by simp[hi]
  have B:fo[i]?=some (fo[i]'(by omega)):=by simp[show i<fo.length by omega]
  exact⟨_,_,A,B,cX (f:=D.int) (gQ A),cX (f:=D.int) B⟩
 (first|apply ak|apply Fg);simp[t,show(ws.length:Int)<=1000000000 by omega];refine fH (JDu ws fo (.val false (aN m ws)) (.val false (.tup (fo.map D.int))) (.val false (.int T)) (.own false ((bL ws).map D.int))) ?_ ?_ ⟨.aQ,rfl,rfl,λj v l I=>by omega⟩
 . rintro i _ hi⟨s4,rfl,Y,J⟩;obtain⟨v,l,A,B,C,E⟩:=u hi;have bad:∀z:¬(0<=l/\l<=v.r),Q (.val (.bl false)) [.val false (aN m ws),.val false (.tup (fo.map D.int)),.val false (.int T)]:=λz=>k false (λ_=>rfl) λy=>absurd (y.2 i v l A B) z;simp[Y];apply ak;by_cases b1:l<0;.simp[C,E,b1];exact bad (by omega)
   by_cases b2:v.r<l;.simp[C,E,b1,b2];exact bad (by omega)
   simp[C,E,b1,b2];refine⟨.val false (.int i),rfl,rfl,λj v' l' I f1 f2=>?_⟩;by_cases L:j=i;.subst L;rw[A]at f1;rw[B]at f2;cases f1;cases f2;omega
   .exact J j v' l' (by omega) f1 f2
 rintro _⟨s4,rfl,Y,J⟩;simp;have M:fits ws fo:=⟨he,λj v l f1 f2=>J j v l (dJ f1).1 f1 f2⟩;have O:=Jd (T:=T) h G M;have hb:=gf he;(first|apply ak|apply Fg);simp[t,show(ws.length:Int)<=1000000000 by omega];refine⟨λ_=>?_,by show _<=16777216;omega⟩;refine bw (F6a _ _ _ _ _ _) (Lk ws fo) ⟨.aQ,rfl,rfl⟩ ?_ ?_
 . rintro d hd _⟨s,rfl,hs⟩;obtain⟨j,I,rfl⟩:=cU.mp hd;obtain⟨v,l,ev,ef,C,E⟩:=u (j4.mp I);have U:Lk ws fo (.int (j:Int))=.int (v.r-l):=by show D.int ((sJ ws fo).getD (j:Int).toNat 0)=_;rw[lB,f_,jw ev ef];rfl
   rw[U];simp[hs,C,E];exact⟨_,rfl,rfl⟩
 rintro _⟨s,rfl,hs⟩;rw[HJ he];have Z:=Iz h M;simp;apply ak;simp;refine uF h G O he hb Z.1 Z.2 h0 X (.inl ⟨⟨_,rfl⟩,_,rfl⟩) λd1 k1=>?_;simp;refine uF h G hN t t (di h) (di h) h0 X (.inr ⟨⟨_,rfl⟩,_,rfl⟩) λd2 k2=>?_;simp;refine k _ (λz=>absurd M z) λ_ H l1=>?_;rw[k1 _ l1,k2 _ l2];simp
noncomputable def pY(fo:List Int):D:=.tup (fo.map D.int)
theorem Qm{ds:List D}{a b:P}(h1:Ek a=false)(e:Ek b=true){d:D}:Hg (.tup ds) (part a (.int i)) (part b d)=some (.val (.tup (cut ds (some i) none))):=by unfold part;rw[h1,e];rfl
theorem Yq{ds:List D}{a b:P}(h1:Ek a=true)(e:Ek b=false){d:D}:Hg (.tup ds) (part a d) (part b (.int i))=some (.val (.tup (cut ds none (some i)))):=by unfold part;rw[h1,e];rfl
theorem zm{e:Type}{xs:List e}{lo hi:Option Int}:(cut xs lo hi).length<=xs.length:=by unfold cut;simp;omega
noncomputable def KN(L:List (List Int)):Prop:=∀l∈L,l.length<=12
theorem ints_of{xs:List D}(h:∀x∈xs,∃i,x=D.int i):∃is:List Int,xs=is.map D.int:=by induction xs with|nil=>exact⟨[],rfl⟩|cons x xs t=>obtain⟨i,rfl⟩:=h x (by simp);obtain⟨is,e⟩:=t λy u=>h y (by simp[u]);exact⟨i::is,by rw[e];rfl⟩
theorem LQ{row:List Int}(h0:0<=i)(h:i<(row.length:Int)):∃r,at' (row.map D.int) i=some (.int r):=⟨_,uK h0 h⟩
theorem ahd{L:List (List Int)}{d:D}{l:List Int}(h:d=pY l):L.map pY++[d]=(L++[l]).map pY:=by rw[h,fy];rfl
inductive F9o(a0 a1 a2 a3 a4 a5 a6 a7 a8:Sl)(ρ:List Sl):Prop where|mk(s:Sl)(q0:ρ=[a0,a1,a2,a3,a4,a5,a6,a7,a8,s])(q1:fr s=true)
inductive JOt(N:Nat)(a0 a1 a2 a3:Sl)(_:Nat)(ρ:List Sl):Prop where|mk(L:List (List Int))(s5 s6:Sl)(q0:ρ=[a0,a1,a2,a3,.own false (L.map pY),s5,s6,.aQ,.aQ])(q1:(fr s5=true/\fr s6=true))(q2:KN L)(q3:L.length<=4+N)
theorem Cp{A:Int}{L:List (List Int)}{t:List D}{s3 s5 s6:Sl}{Q:Fl->List Sl->Prop}(hd:0<ds.length)(C:0<=A)(H:fo.length<=4)(I:j<fo.length)(J:L.length<=10)(pk:∀c,0<=c->c<6->∃r,at' t c=some (.int r))(k:∀l:List Int,l.length<=12->Q .next [.own true (ds.map D.int),.val false (aN m ws),.val false (.tup (fo.map D.int)),s3,.own false ((L++[l]).map pY),s5,s6,.val false (.int (j:Int)),.own false t]):(ex (run Γ w (n+1)) w (.app 4 (.bin .add (.bin .add (.slice (.var 2) (.con .non) (.var 7)) (.tup [.idx (.var 8) (.call 33 [.var 0,.con (.int A),.con (.int 6)])])) (.slice (.var 2) (.bin .add (.var 7) (.con (.int 1))) (.con .non)))) [.own true (ds.map D.int),.val false (aN m ws),.val false (.tup (fo.map D.int)),s3,.own false (L.map pY),s5,s6,.val false (.int (j:Int)),.own false t]).sat Q:=by
 have M:=zm (xs:=fo) (lo:=none) (hi:=some (j:Int));have O:=zm (xs:=fo) (lo:=some ((j:Int)+1)) (hi:=none);have E:=mC (cs:=fo) (a:=none) (b:=some (j:Int));have G:=mC (cs:=fo) (a:=some ((j:Int)+1)) (b:=none);simp[Yq (a:=.con .non) (b:=.var 7) rfl rfl];refine cH hd C (by omega) (by omega) λc c0 c1=>?_;obtain⟨r,hr⟩:=pk c c0 c1;simp[hr,Qm (a:=.bin .add (.var 7) (.con (.int 1))) (b:=.con .non) rfl rfl];rw[E,G];generalize cut fo none (some (j:Int))=u at*;generalize cut fo (some ((j:Int)+1)) none=y at*;have z:∀a:Nat,a<=16777216->a<=lim:=λa h=>h;refine⟨z _ (by simp;omega),z _ (by simp;omega),λ_=>?_,by show _<16777216;omega⟩;have B:=k (u++[r]++y) (by simp;omega);have e:(L++[u++[r]++y]).map pY=L.map pY++[D.tup (u.map D.int++D.int r::y.map D.int)]:=by simp[pY]
 rw[e]at B;exact B
theorem zU(hD:Dr ds)(hd:0<ds.length)(h:cR m ws)(h6:ws.length<=4)(hf:fits ws fo)(k:∀L,KN L->L.length<=8->Q (.own (L.map pY)) [.own true (ds.map D.int),.val false (aN m ws),.val false (.tup (fo.map D.int))]):(run Γ w (n+2) 39 [.own true (ds.map D.int),.val false (aN m ws),.val false (.tup (fo.map D.int))]).sat Q:=by
 have hl:=hf.1;have Z:(bL ws).length=ws.length:=dy _;refine aL (d:=f39) rfl rfl (by decide) ?_;(first|apply ak|apply Fg);simp[f39,show ws.length<=16777216 by omega];refine bw (F9o _ _ _ _ _ _ _ _ _) yV ⟨.aQ,rfl,rfl⟩ ?_ ?_;.rintro d hd _⟨s,rfl,hs⟩;obtain⟨v,_,rfl⟩:=cU.mp hd;simp[hs,Wy.d];exact⟨_,rfl,rfl⟩
 rintro _⟨s,rfl,hs⟩;have e:(ws.map Wy.d).map yV=(bL ws).map D.int:=by unfold bL;rw[ec,ec];rfl
 rw[e];simp;apply ak;simp[Z,Qm (a:=.con (.int 1)) (b:=.con .non) rfl rfl];have ac:(fo.map D.int).length=ws.length:=by simpa using hl
 have e2:D.tup ((fo.map D.int)++[.int 0])=pY (fo++[0]):=by simp[pY]
 have e3:D.tup (cut (fo.map D.int) (some 1) none)=pY (cut fo (some 1) none):=by rw[mC];rfl
 have u:ws.length<=lim/\fo.length+1<=lim:=by constructor<;>(show _<=16777216;omega)
 refine⟨u.1,u.2,?_⟩;have e4:[D.tup ((bL ws).map D.int),D.tup (b_ ws.length (D.int 0)),D.tup (fo.map D.int++[D.int 0]),D.tup (cut (fo.map D.int) (some 1) none)]=[bL ws,b_ ws.length 0,fo++[0],cut fo (some 1) none].map pY:=by rw[e2,e3];simp only[c_,lm];unfold pY;rw[List.map_replicate]
 rw[e4];have hF:KN [bL ws,b_ ws.length 0,fo++[0],cut fo (some 1) none]:=λl hl'=>by have:=zm (xs:=fo) (lo:=some 1) (hi:=none);simp at hl';rcases hl' with rfl|rfl|rfl|rfl<;>simp<;>omega
 generalize E:[bL ws,b_ ws.length 0,fo++[0],cut fo (some 1) none]=L0 at*;have ae:L0.length=4:=by rw[<-E];rfl
 have snoc:∀{L:List (List Int)}{l:List Int},KN L->l.length<=12->KN (L++[l]):=λ{L l}h1 h2 G hl'=>by
  rcases eW.mp hl' with hl'|hl';.exact h1 G hl'
  .rw[dV.mp hl'];exact h2
 refine bW (λρ=>JOt 2 (.own true (ds.map D.int)) (.val false (aN m ws)) (.val false (.tup (fo.map D.int))) (.val false (.tup ((bL ws).map D.int))) 2 ρ) ?_ ?_
 . simp;refine fH (λi=>JOt i (.own true (ds.map D.int)) (.val false (aN m ws)) (.val false (.tup (fo.map D.int))) (.val false (.tup ((bL ws).map D.int))) i) ?_ ?_ ⟨L0,.aQ,.aQ,rfl,⟨rfl,rfl⟩,hF,by omega⟩
   . rintro i _ hi⟨L,s5,s6,rfl,⟨h5,A⟩,y,t⟩;simp[h5];apply ak;simp[Z,show(ws.length:Int)<=1000000000 by omega];refine⟨λ_=>?_,by show _<=16777216;omega⟩;refine Fw (F9o _ _ _ _ _ _ _ _ _) (λd=>∃i,d=D.int i) ⟨.aQ,rfl,rfl⟩ ?_ ?_
     . rintro d H _⟨s,rfl,hs⟩;obtain⟨j,z,rfl⟩:=cU.mp H;have z:=j4.mp z;have C:ws[j]?=some ws[j]:=by simp[z]
       have vo:=h.ok _ (da C);have a1:=cX (f:=D.int) (gQ C);generalize ws[j]=v at*;have v0:=vo.r0;have v1:=vo.r1;simp[hs,a1];refine ym hD hd (by omega) (by omega) (by omega) λc c0 c1=>?_;simp;exact⟨_,rfl,rfl⟩
     . rintro xs _⟨s,rfl,hs⟩I J;obtain⟨is,rfl⟩:=ints_of J;have af:is.length=ws.length:=by simpa using I
       simp[A];apply ak;simp[show L.length<16777216 by omega];exact⟨L++[is],.val false (.int i),.own false (is.map D.int),by simp[pY],⟨rfl,rfl⟩,snoc y (by omega),by simp;omega⟩
   .rintro _⟨L,s5,s6,rfl,hs,y,t⟩;exact⟨rfl,L,s5,s6,rfl,hs,y,t⟩
 rintro _⟨L,s5,s6,rfl,⟨h5,A⟩,y,t⟩;by_cases hz:0<fo.length
 . refine bW (λρ=>∃(L:List (List Int))(s5 s6 s7 s8:Sl),ρ=[.own true (ds.map D.int),.val false (aN m ws),.val false (.tup (fo.map D.int)),.val false (.tup ((bL ws).map D.int)),.own false (L.map pY),s5,s6,s7,s8]/\KN L/\L.length<=8) ?_ ?_
   . simp[hz];(first|apply ak|apply Fg);simp;refine cH hd (by omega) (by omega) (by omega) λa a0 a1=>?_;have z:a.toNat<ws.length:=by omega
     obtain⟨j,rfl⟩:∃j:Nat,a=(j:Int):=⟨a.toNat,by omega⟩;have z:j<ws.length:=by omega
     have C:ws[j]?=some ws[j]:=by simp[z]
     have O:fo[j]?=some (fo[j]'(by omega)):=by simp[show j<fo.length by omega]
     have b1:=cX (f:=D.int) (gQ C);have b2:=cX (f:=D.int) O;generalize ws[j]=v at*;generalize fo[j]'(by omega)=x at*;simp;apply ak;simp[b1,b2];have pk:∀c,0<=c->c<6->∃r,at' [D.int (x+1),D.int (x-1),D.int (v.r+1),D.int (-1),D.int (v.r-x),D.int 0] c=some (.int r):=λc c0 c1=>by obtain⟨r,hr⟩:=LQ (row:=[x+1,x-1,v.r+1,-1,v.r-x,0]) c0 (by simpa using c1);exact⟨r,hr⟩
     have B:fo.length<=4:=by omega
     (first|apply ak|apply Fg);refine Cp hd (by omega) B (by omega) (by omega) pk λl U=>?_;simp only[Bt];apply ak;refine Cp hd (by omega) B (by omega) (by simp;omega) pk λG W=>?_;generalize hM:L++[l]++[G]=M;have X:KN M:=by rw[<-hM];exact snoc (snoc y U) W
     have Y:M.length<=8:=by rw[<-hM];simp;omega
     simp only[Bt];simp;exact⟨M,rfl,X,Y⟩
   .rintro _⟨L,s5,s6,s7,s8,rfl,y,t⟩;(first|apply ak|apply Fg);simp;exact k L y t
 . (first|apply ak|apply Fg);simp[hz];apply ak;simp;exact k L y (by omega)
theorem Ge{T:Int}(t:13286250<=w)(h:cR m ws)(u:ws.length<=6)(h0:0<=T)(y:T<=1000000000000000000)(e:Bst m T ws fo)(k:Q (.val (.bl true)) [.val false (aN m ws),.val false (.int T),.val false (.tup (fo.map D.int))]):(run Γ w (n+7) 31 [.val false (aN m ws),.val false (.int T),.val false (.tup (fo.map D.int))]).sat Q:=qd t h u h0 y (by rw[e.fit.1];omega) λb z l2 _ b2=>by obtain⟨A,l1,q⟩:=b2 e.fit;rw[q.mpr (e.opt A z l2 l1)];exact k
inductive J87(L:List (List Int))(a0 a1 a2 a3 a4:Sl)(r:List D)(ρ:List Sl):Prop where|mk(us:List (List Int))(s5 s6:Sl)(q0:ρ=[a0,a1,a2,a3,a4,s5,s6])(q1:(fr s5=true/\fr s6=true))(q2:r=us.map pY)(q3:KN us)
theorem Mw(ns:List Int)(U:ns.length<=63):∃as,run Γ 100000000 40 40 [.val false (.lst (ns.map D.int))]=.ok (.val (.bl true)) as:=by
 suffices h:(run Γ 100000000 40 40 [.val false (.lst (ns.map D.int))]).sat λr _=>r=.val (.bl true)by obtain⟨a,ρ,e,rfl⟩:=sat_iff.mp h;exact⟨ρ,e⟩
 refine aL (d:=f40) rfl rfl (by decide) ?_;(first|apply ak|apply Fg);simp[f40];refine Nb (M:=300) U (by omega) λds W I=>?_;have hd:0<ds.length:=by omega
 simp;apply ak;simp;refine IK I hd (by omega) (by omega) (by omega) (by omega) λm ws t _ X=>?_;have Y:ws.length<=4:=by omega
 have z:ws.length<=6:=by omega
 have J:(bL ws).length=ws.length:=dy _;have hN:=qU t z J J (di t) (di t);simp;apply ak;simp;refine cH hd (by omega) (by omega) (by omega) λT T0 T1=>?_;simp;apply ak;simp;refine Gv (by omega) t z T0 λfo B=>?_;have Z:=B.fit.1;simp;apply ak;simp;refine zU I hd t Y B.fit λL hF hL=>?_;have e0:D.tup (fo.map D.int)::(L.map pY++[D.tup (fo.map D.int)])=([fo]++L++[fo]).map pY:=by simp[pY]
 simp;refine⟨by show _<=16777216;omega,by show _<=16777216;omega,?_⟩;rw[e0];have C:KN ([fo]++L++[fo]):=λl hl=>by
  simp at hl;rcases hl with rfl|hl|rfl;.omega
  .exact hF l hl
  .omega
 generalize[fo]++L++[fo]=M at*;refine cA (J87 M _ _ _ _ _) ?_ ?_ ⟨M,.aQ,.aQ,rfl,⟨rfl,rfl⟩,rfl,C⟩;.rintro d r _⟨y,s5,s6,rfl,⟨h5,E⟩,hr,O⟩;cases y with|nil=>cases hr|cons u y=>
     obtain⟨rfl,rfl⟩:d=pY u/\r=y.map pY:=by simpa using hr
     have A:=O u (by simp);have G:KN y:=λl hl=>O l (dE _ hl);simp[h5,pY];apply ak;simp;refine qd (by omega) t z T0 (by omega) A λb v2 l2 b1 b2=>?_;simp[E];apply ak;simp;refine Ih t z T0 (by omega) A l2 λb' c1 c2=>?_;have H:b=b':=by
      by_cases c:fits ws u;.obtain⟨v1,l1,q⟩:=b2 c;have q2:=c2 c v1 l1;exact me.mpr (q.trans q2.symm)
      .rw[b1 c,c1 c]
     subst H;simp;exact⟨y,_,_,rfl,⟨rfl,rfl⟩,rfl,G⟩
 .rintro _⟨y,s5,s6,rfl,_,_⟩;simp;apply ak;simp;refine Ge (by omega) t z T0 (by omega) B ?_;simp
end T
end
structure PySem.W.Fast:Prop where(tw11995018234402613719 tw4629734625074166712 tw12349650959360957054 tw3591543304668272776 tw8200665037883218000 tw1168453908474844518 tw13018582458318373459 tw5435946121400909190 tw11443087523518488157 tw2879032973143256395 tw2648832258263341019 tw12983647427834606834 tw15501946046362096682 tw6486983425755215285 tw9358390371703481898 tw15431246833834469175 tw16612697547474960026 tw17689684312004956950 tw10966687470567773852 tw1818991053246373547 tw8263358134725122738 tw7626544616769055395 tw11387343014956750961 tw15622856980839768016 tw12529647951082638961 tw13691490945733771490 tw16378651510543230378 tw12486834423707442829 tw10398232866800131237 tw4036232669323249303 tw6143277845602520619 tw4510674467552684866 tw1834931158503992640 tw17793097928719547568 tw5621516212184810067 tw2362796472653937439 tw14311930601935901612 tw2803940249197988637 tw11105985325731618111 tw10860961597187853306 tw247045665965441834 tw11023948746080011946 tw16090998643761069961 tw1743711303789297265 tw14760603137100884771 tw14610771662187343741 tw16588233493399900371 tw903459558797118488 tw12221804774890647712 tw13578353128747755358 tw13773377630556382835 tw4669119060826325649 tw18408705327333457190 tw17831119090688793547 tw13623016473686204420 tw17200118320543137904 tw3379076754976517023 tw8587022284173995717 tw12698419330005179031 tw8968156012689779410 tw10531734529671520192 tw979832390936916117 tw4360395709426606651 tw13410713601936671824 tw9535538652800335347 tw16248446359760334669 tw14644979494698796656 tw4378016212044666731 tw9753675419876852266 tw10297693144186521400 tw8533049612819604619 tw13638566669520058262 tw8301129136742313666 tw7551110270250844110 tw6877290075461890519 tw12668134053917051590 tw6372555133123721968 tw11754971795587908312 tw10524278525499817621 tw13877302610962955353 tw13597113232901988294 tw15057291948818751901 tw16251371513567274778 tw10869282472500715810 tw11172430134882926202 tw17502406394231947570 tw922948615201386902 tw2880102545918289661 tw16346544713057745290 tw8721032220654928472 tw924965725235766370 tw9795909315489088136 tw10077867464956135980 tw13376222292952192247 tw4267783526172835863 tw683613250932724125 tw15858766316303892805 tw552645339688965661 tw14242292149948049048 tw8977404281934703024 tw379281889297088814 tw12283953024586386091 tw4652447948374550325 tw4077795903634390797 tw4928512311541803596 tw14745925062686504924 tw16111344369631497562 tw13480255193145230019 tw883666767054055960 tw10437474443627442065 tw10844486173695785485 tw8818175397014124419 tw17838020769274172483 tw7749482281564112550 tw9912483688857402893 tw7889355883703802025 tw8774359148945588440 tw3009013450143730932 tw5090996223994131062 tw8239671370831232713 tw13785409921839255051 tw12324638272101282120 tw3326805269051287154 tw11199889302229179982 tw3170292487928792804 tw2005789963861328992 tw1154237743060329908 tw544722775639221842 tw8932289580030352731 tw18013688740603967749 tw17421865751216128356 tw9217700656505260807 tw13435120588261653013 tw7107504972841554823 tw6398690492543531220 tw8208137714770996618 tw11750421998137739876 tw6672398295281130498 tw18256557261499953362 tw16042251357733406267 tw14268080961700920739 tw4792607214862392346 tw16299420308410963501 tw15389251991050424107 tw15212713457115500339 tw15911439864808751932 tw17280899543676355803 tw1346989198787602572 tw16200694725317648474 tw1347294776526876977 tw8594432761541392379 tw15845840398303207970 tw16927784667152173216 tw3011559670655598635 tw6572239663305103660 tw16831599680349803319 tw7469618628064907613 tw5833099273592229471 tw5328260422590250187 tw16778480132595005663 tw3495798694509576665 tw11325051637343972954 tw2266288957783356564 tw13061953247170212584 tw17550825705602687917 tw127926325146351139 tw18434729969798945898 tw14055521408706548809 tw1227948762740950941 tw3697984575606462814 tw387492893382389481 tw16360206122826738409 tw6415176377554004984 tw15654156822629781088 tw17490705189881678047 tw15865825964781641817 tw1979716104147626158 tw8999492558524187907 tw8117904492205102048 tw7612081126161919729 tw6308487915559037934 tw12587938387114184852 tw2902366663656651948 tw15208790791222643617 tw4861521335945149180 tw17281059789991356760 tw881839369239338744 tw11659640686298724845 tw14532581905203859078 tw6277794685384968764 tw3655516439660926867 tw13368193260788472003 tw4852256575154366249 tw2546479132097363838 tw255953339272379049 tw2678799401319338073 tw4093850627727873083 tw8574326199866554627 tw9854741399637589906 tw53055700268942845 tw18337563159291341701 tw14102543165575251253 tw11674211494632390279 tw11155372831216537016 tw3344788443351500213 tw4165175348831984439 tw16126536567139158144 tw10436295143585938370 tw5332241178380230120 tw16219104853854061657 tw15958637605828402254 tw11078934881777318941 tw5084270432082053732 tw15954164788730541922 tw3217760727099389207 tw16459318299655591415 tw9338145018367341865 tw12107247546098777678 tw17780306273485863815 tw11740109403507777527 tw11050400693811565717 tw9370889484557681803 tw16240913196700337431 tw18116618654488921926 tw16674182363670889509 tw13302649726310222673 tw4637702126985663602 tw13190531407866804169 tw12969009426355671644 tw2809645694454919395 tw16474004399449823536 tw2826467486646390566 tw12512470806813156104 tw13130858582992244958 tw1836450981819127640 tw16819086539055282455 tw5246725907762259279 tw9179586178511231816 tw13298951947361664989 tw3018139839151271206 tw13442140679221440087 tw15624950157600478066 tw3031084642900119445 tw6678239698769988642 tw12435453170892026289 tw9153089939028553554 tw10653012341020810290 tw1926727499452127891 tw3002771741596009986 tw6385432667668597048 tw14049628817636000530 tw6876898733490461188 tw1627617311408761025 tw1745855921247584892 tw4380790359199545118 tw578453711460090947 tw3627254438114630473 tw12956593987830677963 tw13113410970487947918 tw17380696469701999383 tw13000209266230720854 tw10192245868239273244 tw15300448833900871827 tw10572320229545371234 tw4462720070264026593 tw18057271278062465974 tw13415092820193029197 tw12837853492417365935 tw11144843715377100041 tw2915270547677176514 tw11685003727807743444 tw1304520219958179028 tw7998333770149344230 tw5087553804556757850 tw11428048693906009018 tw15646683437531983307 tw9299369130204715819 tw1864180420315357765 tw17902154707943508696 tw57470879018810488 tw12894522742263894614 tw12932298948839299350 tw10100656823917893134 tw3065145035106982777 tw3100908794666780555 tw4764266825697715129 tw17446349891032542154 tw10005092483319503280 tw12474442584667855883 tw8503902032534087605 tw11892928110858378742 tw14580413461489272697 tw17582061612626243856 tw10022559139240268898 tw1666739694203859990 tw4055351781106765949 tw9907135803912670394 tw3279757499647269085 tw6328165063458586529:True)
namespace T
open PySem L2 PySem.Spec PyProof.Rows HH
theorem Zb{P:List aX → Prop}{n:Nat}(h:∀(a:aX)(b:List aX),b.length=n → P (a::b))(b:List aX)(c:b.length=n+1):P b:=by cases b with|nil=>cases c|cons a b=>exact h a b (Nat.succ.inj c)
theorem lk0{P:List aX → Prop}(h:P [])(b:List aX)(c:b.length=0):P b:=by cases b with|nil=>exact h|cons a b=>cases c
theorem Ab{P:List aX → Prop}(h:∀a,P [a]):∀b:List aX,b.length=1 → P b:=Zb λa=>lk0 (h a)
theorem ig{P:List aX → Prop}(h:∀a b,P [a,b]):∀c:List aX,c.length=2 → P c:=Zb λa=>Ab (h a)
theorem qN{P:List aX → Prop}(h:∀a b c,P [a,b,c]):∀e:List aX,e.length=3 → P e:=Zb λa=>ig (h a)
theorem XD{P:List aX → Prop}(h:∀a b c d,P [a,b,c,d]):∀e:List aX,e.length=4 → P e:=Zb λa=>qN (h a)
theorem lk5{P:List aX → Prop}(h:∀a b c d e,P [a,b,c,d,e]):∀f:List aX,f.length=5 → P f:=Zb λa=>XD (h a)
local macro_rules|`(term|‹$p›)=>`(λ_ _ _ _ _ _=>$p)
structure Txt(K:PySem.W.Frag):Prop where
 D0:bu K "step_places" s0
 D1:bu K "step_hours" s1
 D2:bu K "step_room" s2
 D3:bu K "steps_hours" s3
 D4:bu K "open_steps" s4
 D5:bu K "shortest_come" s5
 D6:bu K "steps_to" s6
 D7:bu K "stream_with" s7
 D8:bu K "chains_to_end" s8
 D9:bu K "cut_to_rate" s9
 D10:bu K "bends_of" iG
 D11:bu K "is_whole" pO
 D12:bu K "whole_within" s12
 D13:bu K "is_row" s13
 D14:bu K "is_way" s14
 D15:bu K "made_net" s15
 D16:bu K "within_rooms" s16
 D17:bu K "with_rooms" s17
 D18:bu K "found_clocks" s18
 D19:bu K "light_stream" s19
 D20:bu K "bends_by" s20
 D21:bu K "most_of" s21
 D22:bu K "most_by" s22
 D23:bu K "rate_by" s23
 D24:bu K "stream_by" s24
 D25:bu K "few_enough" s25
 D26:bu K "lanes_net" s26
 D27:bu K "open_net" s27
 D28:bu K "is_forth" s28
 D29:bu K "laned_net" s29
 D30:bu K "best_forth" s30
 D31:bu K "forth_right" s31
 D32:bu K "_law_all" s32
 D33:bu K "_law_draw" s33
 D34:bu K "_law_wide" s34
 D35:bu K "_law_net" s35
 D36:bu K "_law_all_closed" s36
 D37:bu K "_law_most" s37
 D38:bu K "_law_due" s38
 D39:bu K "_law_others" s39
 D40:bu K "law" s40
 DN:PySem.W.nsIn K dc "abs"=some none
 Ky:PySem.W.nsIn K dc "all"=some none
 lQ:PySem.W.nsIn K dc "bool"=some none
 jX:PySem.W.nsIn K dc "enumerate"=some none
 Kv:PySem.W.nsIn K dc "int"=some none
 bH:PySem.W.nsIn K dc "isinstance"=some none
 aW:PySem.W.nsIn K dc "len"=some none
 iw:PySem.W.nsIn K dc "list"=some none
 sG:PySem.W.nsIn K dc "max"=some none
 jl:PySem.W.nsIn K dc "min"=some none
 aZ:PySem.W.nsIn K dc "range"=some none
 lO:PySem.W.nsIn K dc "reversed"=some none
 rZ:PySem.W.nsIn K dc "sorted"=some none
 jk:PySem.W.nsIn K dc "sum"=some none
 bG:PySem.W.nsIn K dc "tuple"=some none
 gJ:PySem.W.nsIn K dc "zip"=some none
 gH:∃t,PySem.W.nsIn K dc "LEAST_PLACES"=some (some (eh 2 t))jf:∃t,PySem.W.nsIn K dc "MOST_HOURS"=some (some (eh 1000000 t))jg:∃t,PySem.W.nsIn K dc "MOST_LANED"=some (some (eh 6 t))iz:∃t,PySem.W.nsIn K dc "MOST_PLACES"=some (some (eh 6 t))jW:∃t,PySem.W.nsIn K dc "MOST_ROOM"=some (some (eh 1000000000 t))jY:∃t,PySem.W.nsIn K dc "MOST_WAYS"=some (some (eh 12 t))
noncomputable def ie{K:PySem.W.Frag}(T:Txt K):Nat->bd:=λk=>0
structure Oks(Pg:df)(w:ek)(K:PySem.W.Frag)(mg:Str->Option aX)(base:eA)(cl:Nat->bd)(n:Nat):Prop where
 c0:aR Pg w K mg base n (run Γ 100000000 n) 0 "step_places" 2
 c1:aR Pg w K mg base n (run Γ 100000000 n) 1 "step_hours" 2
 c2:aR Pg w K mg base n (run Γ 100000000 n) 2 "step_room" 3
 c3:aR Pg w K mg base n (run Γ 100000000 n) 3 "steps_hours" 2
 c4:aR Pg w K mg base n (run Γ 100000000 n) 4 "open_steps" 2
 c5:aR Pg w K mg base n (run Γ 100000000 n) 5 "shortest_come" 3
 c6:aR Pg w K mg base n (run Γ 100000000 n) 6 "steps_to" 3
 c7:aR Pg w K mg base n (run Γ 100000000 n) 7 "stream_with" 3
 c8:aR Pg w K mg base n (run Γ 100000000 n) 8 "chains_to_end" 1
 c9:aR Pg w K mg base n (run Γ 100000000 n) 9 "cut_to_rate" 2
 c10:aR Pg w K mg base n (run Γ 100000000 n) 10 "bends_of" 1
 c11:aR Pg w K mg base n (run Γ 100000000 n) 11 "is_whole" 1
 c12:aR Pg w K mg base n (run Γ 100000000 n) 12 "whole_within" 3
 c13:aR Pg w K mg base n (run Γ 100000000 n) 13 "is_row" 1
 c14:aR Pg w K mg base n (run Γ 100000000 n) 14 "is_way" 2
 c15:aR Pg w K mg base n (run Γ 100000000 n) 15 "made_net" 2
 c16:aR Pg w K mg base n (run Γ 100000000 n) 16 "within_rooms" 2
 c17:aR Pg w K mg base n (run Γ 100000000 n) 17 "with_rooms" 2
 c18:aR Pg w K mg base n (run Γ 100000000 n) 18 "found_clocks" 2
 c19:aR Pg w K mg base n (run Γ 100000000 n) 19 "light_stream" 2
 c20:aR Pg w K mg base n (run Γ 100000000 n) 20 "bends_by" 2
 c21:aR Pg w K mg base n (run Γ 100000000 n) 21 "most_of" 2
 c22:aR Pg w K mg base n (run Γ 100000000 n) 22 "most_by" 2
 c23:aR Pg w K mg base n (run Γ 100000000 n) 23 "rate_by" 2
 c24:aR Pg w K mg base n (run Γ 100000000 n) 24 "stream_by" 2
 c25:aR Pg w K mg base n (run Γ 100000000 n) 25 "few_enough" 1
 c26:aR Pg w K mg base n (run Γ 100000000 n) 26 "lanes_net" 3
 c27:aR Pg w K mg base n (run Γ 100000000 n) 27 "open_net" 1
 c28:aR Pg w K mg base n (run Γ 100000000 n) 28 "is_forth" 2
 c29:aR Pg w K mg base n (run Γ 100000000 n) 29 "laned_net" 2
 c30:aR Pg w K mg base n (run Γ 100000000 n) 30 "best_forth" 2
 c31:aR Pg w K mg base n (run Γ 100000000 n) 31 "forth_right" 3
 c32:aR Pg w K mg base n (run Γ 100000000 n) 32 "_law_all" 2
 Xw:aR Pg w K mg base n (run Γ 100000000 n) 33 "_law_draw" 3
 c34:aR Pg w K mg base n (run Γ 100000000 n) 34 "_law_wide" 3
 c35:aR Pg w K mg base n (run Γ 100000000 n) 35 "_law_net" 4
 c36:aR Pg w K mg base n (run Γ 100000000 n) 36 "_law_all_closed" 2
 c37:aR Pg w K mg base n (run Γ 100000000 n) 37 "_law_most" 4
 c38:aR Pg w K mg base n (run Γ 100000000 n) 38 "_law_due" 3
 c39:aR Pg w K mg base n (run Γ 100000000 n) 39 "_law_others" 3
 c40:aR Pg w K mg base n (run Γ 100000000 n) 40 "law" 1
set_option maxHeartbeats 0 in
theorem J0{Pg:df}{w:ek}{K:PySem.W.Frag}{mg:Str->Option aX}{base:eA}(T:Txt K)(X:K.In base)(G:base.Ns dc mg):∀n,Oks Pg w K mg base (ie T) n
 |0=>{
   c0:=bA (ps:=["net","step"]) X G T.D0 rfl ‹ig λ_ _=>rfl›
   c1:=bA (ps:=["net","step"]) X G T.D1 rfl ‹ig λ_ _=>rfl›
   c2:=bA (ps:=["net","stream","step"]) X G T.D2 rfl ‹qN λ_ _ _=>rfl›
   c3:=bA (ps:=["net","steps"]) X G T.D3 rfl ‹ig λ_ _=>rfl›
   c4:=bA (ps:=["net","stream"]) X G T.D4 rfl ‹ig λ_ _=>rfl›
   c5:=bA (ps:=["net","stream","begun"]) X G T.D5 rfl ‹qN λ_ _ _=>rfl›
   c6:=bA (ps:=["net","come","place"]) X G T.D6 rfl ‹qN λ_ _ _=>rfl›
   c7:=bA (ps:=["stream","steps","loads"]) X G T.D7 rfl ‹qN λ_ _ _=>rfl›
   c8:=bA (ps:=["net"]) X G T.D8 rfl ‹Ab λ_=>rfl›
   c9:=bA (ps:=["pairs","rate"]) X G T.D9 rfl ‹ig λ_ _=>rfl›
   c10:=bA (ps:=["net"]) X G T.D10 rfl ‹Ab λ_=>rfl›
   c11:=bA (ps:=["thing"]) X G T.D11 rfl ‹Ab λ_=>rfl›
   c12:=bA (ps:=["thing","least","most"]) X G T.D12 rfl ‹qN λ_ _ _=>rfl›
   c13:=bA (ps:=["thing"]) X G T.D13 rfl ‹Ab λ_=>rfl›
   c14:=bA (ps:=["many","thing"]) X G T.D14 rfl ‹ig λ_ _=>rfl›
   c15:=bA (ps:=["many","ways"]) X G T.D15 rfl ‹ig λ_ _=>rfl›
   c16:=bA (ps:=["net","stream"]) X G T.D16 rfl ‹ig λ_ _=>rfl›
   c17:=bA (ps:=["net","rooms"]) X G T.D17 rfl ‹ig λ_ _=>rfl›
   c18:=bA (ps:=["net","stream"]) X G T.D18 rfl ‹ig λ_ _=>rfl›
   c19:=bA (ps:=["net","rate"]) X G T.D19 rfl ‹ig λ_ _=>rfl›
   c20:=bA (ps:=["net","last"]) X G T.D20 rfl ‹ig λ_ _=>rfl›
   c21:=bA (ps:=["bends","last"]) X G T.D21 rfl ‹ig λ_ _=>rfl›
   c22:=bA (ps:=["net","last"]) X G T.D22 rfl ‹ig λ_ _=>rfl›
   c23:=bA (ps:=["net","last"]) X G T.D23 rfl ‹ig λ_ _=>rfl›
   c24:=bA (ps:=["net","last"]) X G T.D24 rfl ‹ig λ_ _=>rfl›
   c25:=bA (ps:=["net"]) X G T.D25 rfl ‹Ab λ_=>rfl›
   c26:=bA (ps:=["net","forth","back"]) X G T.D26 rfl ‹qN λ_ _ _=>rfl›
   c27:=bA (ps:=["net"]) X G T.D27 rfl ‹Ab λ_=>rfl›
   c28:=bA (ps:=["net","forth"]) X G T.D28 rfl ‹ig λ_ _=>rfl›
   c29:=bA (ps:=["net","forth"]) X G T.D29 rfl ‹ig λ_ _=>rfl›
   c30:=bA (ps:=["net","last"]) X G T.D30 rfl ‹ig λ_ _=>rfl›
   c31:=bA (ps:=["net","last","forth"]) X G T.D31 rfl ‹qN λ_ _ _=>rfl›
   c32:=bA (ps:=["script","many"]) X G T.D32 rfl ‹ig λ_ _=>rfl›
   Xw:=bA (ps:=["draws","at","many"]) X G T.D33 rfl ‹qN λ_ _ _=>rfl›
   c34:=bA (ps:=["draws","at","many"]) X G T.D34 rfl ‹qN λ_ _ _=>rfl›
   c35:=bA (ps:=["draws","at","places","most"]) X G T.D35 rfl ‹XD λ_ _ _ _=>rfl›
   c36:=bA (ps:=["many","last"]) X G T.D36 rfl ‹ig λ_ _=>rfl›
   c37:=bA (ps:=["net","forth","back","last"]) X G T.D37 rfl ‹XD λ_ _ _ _=>rfl›
   c38:=bA (ps:=["net","forth","last"]) X G T.D38 rfl ‹qN λ_ _ _=>rfl›
   c39:=bA (ps:=["draws","net","forth"]) X G T.D39 rfl ‹qN λ_ _ _=>rfl›
   c40:=bA (ps:=["script"]) X G T.D40 rfl ‹Ab λ_=>rfl›}|n+1=>have a:=J0 (Pg:=Pg) (w:=w) (base:=base) T X G n
   {c0:=bz (ps:=["net","step"]) X G T.D0 rfl rfl ‹ig λ_ _=>rfl› λ_ _ F=>d0 (cl:=ie T) F
    c1:=bz (ps:=["net","step"]) X G T.D1 rfl rfl ‹ig λ_ _=>rfl› λ_ _ F=>d1 (cl:=ie T) F
    c2:=bz (ps:=["net","stream","step"]) X G T.D2 rfl rfl ‹qN λ_ _ _=>rfl› λ_ _ F=>d2 (cl:=ie T) F
    c3:=bz (ps:=["net","steps"]) X G T.D3 rfl rfl ‹ig λ_ _=>rfl› λ_ _ F=>d3 (cl:=ie T) F (mg_none_of X G T.jk) a.c1
    c4:=bz (ps:=["net","stream"]) X G T.D4 rfl rfl ‹ig λ_ _=>rfl› λ_ _ F=>d4 (cl:=ie T) F (mg_none_of X G T.aW) (mg_none_of X G T.aZ) a.c0 a.c2
    c5:=bz (ps:=["net","stream","begun"]) X G T.D5 rfl rfl ‹qN λ_ _ _=>rfl› λ_ _ F=>d5 (cl:=ie T) F (mg_none_of X G T.aW) (mg_none_of X G T.iw) a.c4 a.c1 a.c0
    c6:=bz (ps:=["net","come","place"]) X G T.D6 rfl rfl ‹qN λ_ _ _=>rfl› λ_ _ F=>d6 (cl:=ie T) F (mg_none_of X G T.lO) (mg_none_of X G T.bG) a.c0
    c7:=bz (ps:=["stream","steps","loads"]) X G T.D7 rfl rfl ‹qN λ_ _ _=>rfl› λ_ _ F=>d7 (cl:=ie T) F (mg_none_of X G T.iw)
    c8:=bz (ps:=["net"]) X G T.D8 rfl rfl ‹Ab λ_=>rfl› λ_ _ F=>d8 (cl:=ie T) F (mg_none_of X G T.aW) (mg_none_of X G T.jl) a.c5 a.c2 a.c6 a.c7
    c9:=bz (ps:=["pairs","rate"]) X G T.D9 rfl rfl ‹ig λ_ _=>rfl› λ_ _ F=>d9 (cl:=ie T) F (mg_none_of X G T.jl)
    c10:=bz (ps:=["net"]) X G T.D10 rfl rfl ‹Ab λ_=>rfl› λ_ _ F=>d10 (cl:=ie T) F (mg_none_of X G T.rZ) a.c8 a.c3
    c11:=bz (ps:=["thing"]) X G T.D11 rfl rfl ‹Ab λ_=>rfl› λ_ _ F=>d11 (cl:=ie T) F (mg_none_of X G T.lQ) (mg_none_of X G T.Kv) (mg_none_of X G T.bH)
    c12:=bz (ps:=["thing","least","most"]) X G T.D12 rfl rfl ‹qN λ_ _ _=>rfl› λ_ _ F=>d12 (cl:=ie T) F a.c11
    c13:=bz (ps:=["thing"]) X G T.D13 rfl rfl ‹Ab λ_=>rfl› λ_ _ F=>d13 (cl:=ie T) F (mg_none_of X G T.bH) (mg_none_of X G T.iw) (mg_none_of X G T.bG)
    c14:=bz (ps:=["many","thing"]) X G T.D14 rfl rfl ‹ig λ_ _=>rfl› λ_ _ F=>d14 (cl:=ie T) F (mg_none_of X G T.aW) (T.jf.elim λt e=>⟨t,mg_of X G e⟩) (T.jW.elim λt e=>⟨t,mg_of X G e⟩) a.c13 a.c12
    c15:=bz (ps:=["many","ways"]) X G T.D15 rfl rfl ‹ig λ_ _=>rfl› λ_ _ F=>d15 (cl:=ie T) F (mg_none_of X G T.jX) (mg_none_of X G T.aW) (mg_none_of X G T.bG) (T.gH.elim λt e=>⟨t,mg_of X G e⟩) (T.iz.elim λt e=>⟨t,mg_of X G e⟩) (T.jY.elim λt e=>⟨t,mg_of X G e⟩) a.c13 a.c14 a.c12
    c16:=bz (ps:=["net","stream"]) X G T.D16 rfl rfl ‹ig λ_ _=>rfl› λ_ _ F=>d16 (cl:=ie T) F (mg_none_of X G T.Ky) (mg_none_of X G T.gJ)
    c17:=bz (ps:=["net","rooms"]) X G T.D17 rfl rfl ‹ig λ_ _=>rfl› λ_ _ F=>d17 (cl:=ie T) F (mg_none_of X G T.bG) (mg_none_of X G T.gJ)
    c18:=bz (ps:=["net","stream"]) X G T.D18 rfl rfl ‹ig λ_ _=>rfl› λ_ _ F=>d18 (cl:=ie T) F (mg_none_of X G T.aZ) (mg_none_of X G T.jk) a.c5
    c19:=bz (ps:=["net","rate"]) X G T.D19 rfl rfl ‹ig λ_ _=>rfl› λ_ _ F=>d19 (cl:=ie T) F (mg_none_of X G T.aW) a.c8 a.c9 a.c18 a.c7
    c20:=bz (ps:=["net","last"]) X G T.D20 rfl rfl ‹ig λ_ _=>rfl› λ_ _ F=>d20 (cl:=ie T) F a.c10
    c21:=bz (ps:=["bends","last"]) X G T.D21 rfl rfl ‹ig λ_ _=>rfl› λ_ _ F=>d21 (cl:=ie T) F (mg_none_of X G T.jk)
    c22:=bz (ps:=["net","last"]) X G T.D22 rfl rfl ‹ig λ_ _=>rfl› λ_ _ F=>d22 (cl:=ie T) F a.c10 a.c21
    c23:=bz (ps:=["net","last"]) X G T.D23 rfl rfl ‹ig λ_ _=>rfl› λ_ _ F=>d23 (cl:=ie T) F (mg_none_of X G T.jk) a.c20
    c24:=bz (ps:=["net","last"]) X G T.D24 rfl rfl ‹ig λ_ _=>rfl› λ_ _ F=>d24 (cl:=ie T) F a.c19 a.c23
    c25:=bz (ps:=["net"]) X G T.D25 rfl rfl ‹Ab λ_=>rfl› λ_ _ F=>d25 (cl:=ie T) F (mg_none_of X G T.aW) (T.jg.elim λt e=>⟨t,mg_of X G e⟩)
    c26:=bz (ps:=["net","forth","back"]) X G T.D26 rfl rfl ‹qN λ_ _ _=>rfl› λ_ _ F=>d26 (cl:=ie T) F (mg_none_of X G T.bG) (mg_none_of X G T.gJ) a.c17
    c27:=bz (ps:=["net"]) X G T.D27 rfl rfl ‹Ab λ_=>rfl› λ_ _ F=>d27 (cl:=ie T) F a.c25 a.c26
    c28:=bz (ps:=["net","forth"]) X G T.D28 rfl rfl ‹ig λ_ _=>rfl› λ_ _ F=>d28 (cl:=ie T) F (mg_none_of X G T.aW) a.c16
    c29:=bz (ps:=["net","forth"]) X G T.D29 rfl rfl ‹ig λ_ _=>rfl› λ_ _ F=>d29 (cl:=ie T) F (mg_none_of X G T.gJ) a.c25 a.c28 a.c26
    c30:=bz (ps:=["net","last"]) X G T.D30 rfl rfl ‹ig λ_ _=>rfl› λ_ _ F=>d30 (cl:=ie T) F (mg_none_of X G T.aW) (mg_none_of X G T.bG) (mg_none_of X G T.gJ) a.c27 a.c24
    c31:=bz (ps:=["net","last","forth"]) X G T.D31 rfl rfl ‹qN λ_ _ _=>rfl› λ_ _ F=>d31 (cl:=ie T) F a.c28 a.c29 a.c22 a.c27
    c32:=bz (ps:=["script","many"]) X G T.D32 rfl rfl ‹ig λ_ _=>rfl› λ_ _ F=>d32 (cl:=ie T) F (mg_none_of X G T.DN) (mg_none_of X G T.aW) (mg_none_of X G T.aZ)
    Xw:=bz (ps:=["draws","at","many"]) X G T.D33 rfl rfl ‹qN λ_ _ _=>rfl› λ_ _ F=>d33 (cl:=ie T) F (mg_none_of X G T.aW)
    c34:=bz (ps:=["draws","at","many"]) X G T.D34 rfl rfl ‹qN λ_ _ _=>rfl› λ_ _ F=>d34 (cl:=ie T) F (mg_none_of X G T.aW)
    c35:=bz (ps:=["draws","at","places","most"]) X G T.D35 rfl rfl ‹XD λ_ _ _ _=>rfl› λ_ _ F=>d35 (cl:=ie T) F (mg_none_of X G T.sG) (mg_none_of X G T.jl) (mg_none_of X G T.aZ) a.Xw a.c34 a.c15
    c36:=bz (ps:=["many","last"]) X G T.D36 rfl rfl ‹ig λ_ _=>rfl› λ_ _ F=>d36 (cl:=ie T) F (mg_none_of X G T.aZ)
    c37:=bz (ps:=["net","forth","back","last"]) X G T.D37 rfl rfl ‹XD λ_ _ _ _=>rfl› λ_ _ F=>d37 (cl:=ie T) F (mg_none_of X G T.aW) (mg_none_of X G T.sG) (mg_none_of X G T.jl) (mg_none_of X G T.aZ) a.c36
    c38:=bz (ps:=["net","forth","last"]) X G T.D38 rfl rfl ‹qN λ_ _ _=>rfl› λ_ _ F=>d38 (cl:=ie T) F (mg_none_of X G T.aW) (mg_none_of X G T.aZ) a.c37
    c39:=bz (ps:=["draws","net","forth"]) X G T.D39 rfl rfl ‹qN λ_ _ _=>rfl› λ_ _ F=>d39 (cl:=ie T) F (mg_none_of X G T.aW) (mg_none_of X G T.aZ) (mg_none_of X G T.bG) a.Xw a.c34
    c40:=bz (ps:=["script"]) X G T.D40 rfl rfl ‹Ab λ_=>rfl› λ_ _ F=>d40 (cl:=ie T) F (mg_none_of X G T.lQ) (mg_none_of X G T.bH) a.c32 a.Xw a.c38 a.c35 a.c39 a.c30 a.c31}
theorem VR{K:PySem.W.Frag}{x:Str}{i:Int}{t:Tok}(a:PySem.W.nsIn K dc x=some (some (eh i t))):∃t,PySem.W.nsIn K dc x=some (some (eh i t)):=⟨t,a⟩
set_option maxHeartbeats 0 in
theorem Rf{Pg:df}{w:ek}{K:PySem.W.Frag}{mg:Str->Option aX}{h:eA}{i:bd}(T:Txt K)(X:K.In h)(G:h.Ns dc mg)(g:mg "law"=some (.ref i)):∃fd:hJ,(∀(s:a_)(u:aX),nl s fd ⟨[u],[]⟩ [("script",u)])/\∀base:eA,K.In base->base.Ns dc mg->ou Pg w K mg base Gs 40 i fd ["script"] (M5 K 1 (run Γ 100000000 40 40)):=by
 obtain⟨f,fd,a,F⟩:=T.D40.ex;have e:=g.symm.trans (mg_of X G a);cases e;refine⟨fd,λs u=>?_,λbase j l=>?_⟩;.obtain⟨oc,q,kV,m,r,t,cdv,ct,o,rfl,lk,p⟩:=F.ex;exact .of_eq rfl
 .have b:=J0 (Pg:=Pg) (w:=w) (base:=base) T j l 39;exact d40 (cl:=ie T) (k:=39) (n:=100000000) (c:=run Γ 100000000 39) F (mg_none_of X G T.lQ) (mg_none_of X G T.bH) b.c32 b.Xw b.c38 b.c35 b.c39 b.c30 b.c31
end T
open PySem PySem.W PyProof.Rows
set_option maxRecDepth 100000 in
set_option maxHeartbeats 0 in
theorem PySem.Challenge.cw_hourhaul_k87_forth_judged_holds : PySem.Challenge.rw_hourhaul_k87_forth_judged.Holds := by
 w_on;o_law;k_head;(case hw=>w_witness2);k_fill;refine L2.Hd (l:=PySem.Challenge.rw_hourhaul_k87_forth_judged) (n:=63) (k:=40) (x:="script") (CX:=L2.Gs) (sp:=λK=>HH.M5 K 1 (HH.run T.Γ 100000000 40 40)) rfl (by decide) rfl ⟨rfl,by decide,by decide⟩ (λw h Y=>PySem.W.kIn_of Y) ?F ?S ?C;case F=>
  intro w mg j h f G b;refine T.Rf ?T f G b;constructor;iterate 41(· refine' HH.U5 ?a ?l ?c ?k;case a|l|c|k=>k_is)
  iterate 16(· k_is)
  . (refine' T.VR ?a);(case a=>k_is)
  . (refine' T.VR ?a);(case a=>k_is)
  . (refine' T.VR ?a);(case a=>k_is)
  . (refine' T.VR ?a);(case a=>k_is)
  . (refine' T.VR ?a);(case a=>k_is)
  . (refine' T.VR ?a);(case a=>k_is)
 case S=>intro K H a ns g m i;obtain⟨as,e⟩:=T.Mw ns g;exact HH.Ej i e
 case C=>exact λH s e o z=>z
