import PyProof.Rows.All
import Wide.All
import OpenK.AllK
import Wide.FinOn
import Lean
import PyProof.EqAt
import PyProof.EqKinds
import PyProof.TupleCall
import PySem.Str
import PySem.Builtin.Int.W1All
import PyProof.NeKinds
import PyProof.ZipIter
import PyProof.SumWalkG
import PyProof.MinMaxWalk
import PyProof.WalksMore
import PyProof.SeqI3
import PyProof.WalkInts
import PyProof.Rows.CallKwBuiltin
import PyProof.Rows.Tup
import PyProof.CollectIter
import PyProof.EnumMake
import PyProof.TupleOfSeq
import PyProof.ListNew
import PyProof.ReprLoop
import PyProof.StationsW
import PyProof.ExcClass3
import PyProof.Rows.CatchBare
import OpenK.KOwn
import KE.KIsAll
import PyProof.NsDelKeeps
import PyProof.RulesAs
import PyProof.ExcArgsOwn
import PyProof.ListRange
import KE.RegKIsAll
import KE.KRevIter
import PyProof.Rows.SortRuns
import KE.KSortTup
import PyProof.DictWalks
import KE.KDictList
import KE.KItemsList
import PyProof.ExcBaseAll.ValueError
import PySem.Challenge.RW_hourhaul_k85_nets_laned_and_open
set_option Elab.async false
set_option linter.all false
set_option maxRecDepth 100000
set_option genInjectivity false
set_option genSizeOf false
set_option compiler.extract_closed false
set_option bootstrap.genMatcherCode false
open Option renaming some→ap,map_eq_some_iff→eT,isSome_iff_exists→fV,map_some→ka,bind_eq_some_iff→m5
open Bool renaming false→av,true→bj,false_ne_true→dc,and_eq_true→fb,false_eq_true→gc,and_eq_false_iff→ky,or_eq_false_iff→kK,false_and→kL,and_false→kM,not_eq_true'→kP,or_eq_true→me
open PySem renaming wpAny_bind→a_,Value→bd,Shared→bx,Addr→b_,starEach→cj,wpAny_pure→cv,wpAny→cH,mainGlobals→cK,model→cM,Program→c_,Expr→da,wpAny_mono→dS,compareOp→ec,Heap→ef,eval→eg,World→eh,Stmt→ek,Around→et,wpAny_newObj_type→ew,bootBuiltins→ez,foldedSetIterable→eH,wpAny_field→eK,swapsWith→eP,sizeLine_eq→eR,binaryOp→fh,behindInMarks→fq,wpAny_callSpecial?_slot→fv,wpAny_loadPart'→fw,cLine→fy,wpAny_holding→fI,backTo→fS,IsPair→fW,wpAny_truthy_bool→fY,wpAny_seqItems→gu,wpAny_call_entry→gx,PassesOwn→gy,FuncData→gz,wpAny_setField_rec→gE,wpAny_pyIter_tuple→gI,sysModules→gL,wpAny_passesOwn→gS,attributeBase→g_,rawInt→hQ,tupleKind_room_in1→ic,wpAny_setField→ix,Scope→iE,assignEach→iO,relabel→iP,Keyword→iX,Builtin→i3,sliceBounds→i4,wpAny_execs_nil→i8,holding→jp,getItem→jv,cellsFrom→jB,wpAny_rule→jD,call_meets→jS,NameKind→j_,wpAny_pyIter_list→kc,keywordEach→kf,IsZip→kl,wpAny_attempt→kn,swapsWithSole→ko,swappedStores→kq,assign→ku,wpAny_typeOf→kN,codeAny→kS,letOwnedTupleGo→kX,codeAny_builtin→k7,wpAny_nextOf_list_end→k_,wpAny_updateSeq_pair→li,ZipApart→lw,Operator→lx,IsPart→ly,tupleKind→lF,setFlight→lH,callerA→lI,wpAny_standAt→lT,wpAny_onRaise→l6,plainId_quiet→l7,wpAny_Call_Name_kw→ma,typeIs_int→md,valueAt→ml,seqIndex_neg→mn,notedBy→mr,concat_meets→mw,bindName→mx,bindArgs→my,backToKw→mA,wpAny_eqBool_int→mT,noteFrame→mW,noFill_tuple_add→m4,unsupported→m_,subscripted→ng,seqIndex_of→nk,Model→nv,CmpOp→ny,wpAny_specialOf→nz,setItem→nB,BindsTo→nI,typeLookup→nL,pyNext→nM,pyIter→nN,newFunctionEnv→nS,atKey→nX,wpAny_binaryOp_repeat_ref→om,wpAny_comprehension_free→oo,seq_tuple_add→ot,assignInOrder→oy,storeName→oz,field→oB,bindL→oC,bindC→oD,Meets→oI,wpAny_nextOf_list_item→oZ,wpAny_getItem_list_neg→o3,standAt→pp,codeAny_mono→pS,call_meetsIn→pV,callType_new→p4,wpAny_isTrue_Compare1→p7,builtinLookup_eq_fast→p9,wpAny_loadName_local→p_,wpAny_letGo→qa,unbindBehindTheSuite→qb,excClassObj→qr,wpAny_loadName_cell→qA,wpAny_isSubtype_exc→qB
open List renaming getElem?_set_self→ce,replicate→cp,size_toArray→cS,mem_cons→de,getElem?_append_left→dr,mem_of_getElem?→du,mem_cons_of_mem→dL,map_cons→dQ,length_map→dV,mem_singleton→dX,length_append→d_,mem_map→ej,range→eu,getElem?_set_ne→eB,mem_append_right→eF,mem_append→eM,length_cons→eS,getElem?_map→eW,nodup_cons→fc,map_map→fe,all_eq_true→fg,getElem?_cons_succ→fm,lookup_cons→ft,mem_append_left→fx,getElem?_append_right→fT,drop_eq_getElem_cons→f_,getElem?_eq_getElem→gi,mem_cons_self→gX,getElem?_zip_eq_some→hE,replicate_succ→hJ,map_congr_left→hU,find?_cons→hV,filterMap_cons→hY,append_nil→hZ,append_assoc→ia,getElem?_replicate→ih,not_mem_nil→io,contains_iff_mem→ip,take_of_length_le→iA,eq_nil_of_length_eq_zero→iF,getD→i6,mem_range→i7,drop_eq_nil_iff→i_,of_mem_zip→jI,length_take→ke,getElem_mem→kg,mem_filter→kw,pairwise_append→kF,length→kG,map_append→kQ,length_range→kR,getElem?_of_mem→k6,getElem_of_mem→k8,zip_cons_cons→lc,getElem?_take→lf,filter_append→lh,ext_getElem→ln,nodup_append→lJ,cons_append→l8,any_eq_true→l9,take_append_of_le_length→mi,reverse_cons→mo,map_nil→ms,getElem?_set→mu,flatten_cons→mv,any_cons→mB,all_cons→mE,getD_eq_getElem?_getD→mS,countP_cons→nq,min?_eq_some_iff→n8,length_singleton→n9,length_replicate→n_,length_filter_le→og,countP_mono_left→oj,toArray→o_,foldl→qo
open PySem.Heap renaming lt_size→df,get?_push_size→dl,get?_update_other→dN,size_push→h9,get?_update_self→h_,get?_none_of_le→i9,SameBut→p5
open PySem.Value renaming ref→dq,none→dD,int→er,type→eZ,bool→i5,notImplemented→kB
open Or renaming inl→dy,inr→ei
open Sum renaming inl→dA,inr→lK
open Nat renaming lt_of_lt_of_le→dE,ne_of_lt→dP,le_trans→gT,lt_irrefl→g9,le_of_lt→lm,le_of_not_lt→mh,zero_add→nK,ne_of_gt→nV,mul_comm→n3,lt_trans→n4,le_of_eq→n5,le_mul_of_pos_left→n7
open Option.some renaming inj→ey
open PySem.PassesOwn renaming never→eA
open PyProof.Rows renaming callWith_type1→eI,Keyed→fN,IntsAre→gl,wpS_bind→gN,slot_tuple_getitem→h8,SortSt→im,SortKind→iD,pendingOf→jx,wpS_pure→jC,envOfC→jO,OwnCls→kT,AllBare→kU,assignInOrder_cons→mf,subscriptTail→oq,listUpdate_at→ow,IsTup→oN,wpS_get→oQ,wpS_forRange→oY,subscriptTail_builtinR→pf,seqObj→pz,minRun'→pE,seqEpoch_at→qh,failedOf→qq,arrOf→qv
open PySem.NameKind renaming free→eJ,cell→fR
open Pure renaming pure→eL
open False renaming elim→e_
open PySem.Obj renaming mapFields→fi,mapSeq→fF,data_mapFields→ja,isFreed_of_fields→kC
open Ne renaming symm→fk
open Array renaming getElem?_eq_some_iff→fE,length_toList→iS,toList_inj→lS,getD→mP
open PySem.SeqAt renaming EqAt→gd
open ForInStep renaming yield→hB
open PySem.Calls renaming spliced_cons→ib,spliced_nil→ji,callWith_builtin→kb,evalArgs_plain→kD,Name_function_global→mM
open PySem.Str renaming ofString→ii
open PySem.Around renaming under_plainId→iq
open Int renaming le_refl→iL,toNat_natCast→lP,toNat_of_nonneg→oP,sub_zero→qc
open PySem.Builtin.Tuple renaming tupleExact→iN
open True renaming intro→ki
open PyProof.Rows.IntsAre renaming length→kx
open PySem.Builtin.SmallTypes renaming ownedTupleIsFree→kA,nextOf→lj
open PyProof.Rows.IsTup renaming new→kH
open Function renaming comp_def→k9
open PySem.SeqAt.EqAt renaming same→lb
open PySem.Builtin.List renaming listExtendWith→ll,listTooLong→qk
open PySem.CmpOp renaming NotIn→l_,In→ol
open PySem.Heap.SameBut renaming update→mI
open PySem.EntryCells renaming newEntry→m6
open PySem.Builtin.Slice renaming slicePlaces→nh,sliceAdjust→qf
open PySem.Shared renaming heap→nE
open PySem.W(mg_none_of kitOne mg_of mroIn keepIn findIn clsIn methodObj excIn kitAny KitX kitx_dict kia_one specialIn takesIn findObj handed_on)
open List(toArray nil_append forIn_cons forIn_nil length_nil map_set map)
open PySem.Heap(get?_push_of_some)
open Nat(le_refl le_succ)
open PySem.Builtin.SmallTypes(ownedTupleHandOut)
open PySem.Builtin.Tuple(tupleItemsOf)
open Option(bind_some isSome_map getD_none)
open PySem.Builtin.Slice(sliceApplied)
open PySem.Builtin.List(listLengthHint listSameRef)
open Array(toList)
open PySem.SeqAt.EqAt(int_str str_int none_bool none_int none_str bool_none bool_bool bool_int bool_str int_none int_bool int_int str_none str_bool str_str)
open PySem.F(plainAttrs_list slot_tuple_add entry_tuple_add args_tuple_add_2 slot_tuple_mul slot_dict_get excBase_ValueError)
open PySem.SeqAt.RcAt(lists_lengths)
open PySem.SeqAt.RcNeAt(int_list str_list list_int list_str)
theorem iZ{h:PySem.Heap}{o b:PySem.Obj}{a:PySem.Addr}(e:h.get? a=ap o):(h.push b).get? a=ap o:=PySem.Heap.get?_push_of_some _ e
theorem gh{b:Type}{l:List b}{i:Nat}{a:b}(h:l[i]?=ap a):∃h:i<l.length,l[i]=a:=List.getElem?_eq_some_iff.mp h
theorem gM{b:Type}{l:List b}{i j:Nat}{a:b}(h:j≠i):(l.set i a)[j]?=l[j]?:=List.getElem?_set_ne (fk h)
theorem xu{n:Nat}:0<=n:=Nat.zero_le n
theorem eU{n:Nat}:n<=n:=Nat.le_refl n
namespace _L
open PySem Spec PyProof.Rows
variable{w:eh}{h:ef}{t' i:Nat}{M:nv}{A:et}{s:bx}{pins:List (b_×Obj)}{pos:Pos}{op:ny}{K:PySem.W.Frag}{tg:da}{us:List bd}
noncomputable abbrev Key:=Sum Int Str
noncomputable def qZ:Key->bd->Bool|.inl k,v=>Value.isInt k v|.inr x,v=>Value.isStrOf x v
noncomputable def afu(w:eh):Key->Int|.inl k=>hashInt k|.inr x=>hashStr w x
theorem bY:∀{k:Key}{v:bd},qZ k v=bj->(∃i t,k=dA i/\v=er i t)\/(∃x t,k=lK x/\v=Value.str x t)|.inl i,v,h=>by obtain⟨t,e⟩:=Value.isInt_shape (k:=i) (v:=v) h;exact .inl ⟨i,t,rfl,e⟩|.inr x,v,h=>by obtain⟨t,e⟩:=Value.isStrOf_shape (x:=x) (v:=v) h;exact .inr ⟨x,t,rfl,e⟩
theorem HW(i:Int)(t:Tok):qZ (.inl i) (.int i t)=bj:=by simp[qZ,Value.isInt]
theorem Ho(x:Str)(t:Tok):qZ (.inr x) (.str x t)=bj:=by simp[qZ,Value.isStrOf]
theorem Up(a b:Int):decide ((dA a:Key)=dA b)=(a==b):=by
 by_cases e:a=b;.subst e;simp
 .have h:¬(dA a:Key)=dA b:=λq=>e (Sum.inl.inj q);rw[decide_eq_false h];exact(beq_eq_false_iff_ne.mpr e).symm
theorem VH(a b:Str):decide ((lK a:Key)=lK b)=decide (a=b):=by
 by_cases e:a=b;.subst e;simp
 .have h:¬(lK a:Key)=lK b:=λq=>e (Sum.inr.inj q);rw[decide_eq_false h,decide_eq_false e]
theorem Wl(a:Int)(b:Str):decide ((dA a:Key)=lK b)=av:=decide_eq_false (λq=>nomatch q)
theorem Xf(a:Str)(b:Int):decide ((lK a:Key)=dA b)=av:=decide_eq_false (λq=>nomatch q)
noncomputable def bI(prog:c_)(w:eh):PySem.KeyKind prog w Key where
 is:=qZ;hash:=afu w;inj:=λv a b g f=>by
  rcases bY g with⟨i,t,rfl,rfl⟩|⟨x,t,rfl,rfl⟩
  . rcases bY f with⟨j,u,rfl,e⟩|⟨y,u,rfl,e⟩;.injection e with e1 _;rw[e1]
    .exact nomatch e
  . rcases bY f with⟨j,u,rfl,e⟩|⟨y,u,rfl,e⟩;.exact nomatch e
    .injection e with e1 _;rw[e1]
 byValue:=λk v h=>by rcases bY h with⟨i,t,rfl,rfl⟩|⟨x,t,rfl,rfl⟩<;>rfl
 pyHash:=λc h=>by
  rcases bY c with⟨i,t,rfl,rfl⟩|⟨x,t,rfl,rfl⟩;.exact wpAny_pyHash_int h
  .exact wpAny_pyHash_str h
 eqBool:=λl c h=>by
  rcases bY l with⟨i,t,rfl,rfl⟩|⟨x,t,rfl,rfl⟩
  . rcases bY c with⟨j,u,rfl,rfl⟩|⟨y,u,rfl,rfl⟩;.rw[Up]at h;exact mT h
    .rw[Wl]at h;exact int_str i t y u _ _ _ _ h
  . rcases bY c with⟨j,u,rfl,rfl⟩|⟨y,u,rfl,rfl⟩;.rw[Xf]at h;exact str_int x t j u _ _ _ _ h
    .rw[VH]at h;exact wpAny_eqBool_str h
 «strs»:=λk x t v h=>by
  rcases bY h with⟨i,u,rfl,e⟩|⟨y,u,rfl,e⟩;.exact nomatch e
  .injection e with e1 _;subst e1;cases v<;>rfl
theorem zq(prog:c_)(w:eh)(i:Int)(t:Tok):(bI prog w).is (.inl i) (.int i t)=bj:=HW i t
theorem zB(prog:c_)(w:eh)(x:Str)(t:Tok):(bI prog w).is (.inr x) (.str x t)=bj:=Ho x t
inductive V where|non|bl(b:Bool)|int(i:Int)|str(x:Str)|byt(b:Array UInt8)|flt(b:UInt64)|ref(a:b_)|ty(n:String)deriving DecidableEq
noncomputable def RelV:V->bd->Prop|.non,u=>u=dD|.bl b,u=>u=i5 b|.int i,u=>∃t,u=er i t|.str x,u=>∃t,u=Value.str x t|.byt b,u=>∃t,u=Value.bytes b t|.flt b,u=>∃t,u=Value.float b t|.ref a,u=>u=dq a|.ty n,u=>u=eZ n
noncomputable abbrev Vals:List V->List bd->Prop:=Paired RelV
theorem Vals.length{xs:List V}{us:List bd}(r:Vals xs us):xs.length=us.length:=Paired.length r
theorem Vals.get:∀{xs:List V}{us:List bd}{i:Nat}{x:V},Vals xs us->xs[i]?=ap x->∃u,us[i]?=ap u/\RelV x u|_,_,_,_,.nil,e=>by simp at e|_,_,0,_,.cons r _,e=>by simp at e;subst e;exact⟨_,rfl,r⟩|_,_,i+1,x,.cons _ t,e=>by obtain⟨u,h1,a⟩:=Vals.get (i:=i) (x:=x) t (by simpa using e);exact⟨u,by simpa using h1,a⟩
theorem Vals.set{x:V}{u:bd}(r:RelV x u):∀{xs:List V}{us:List bd}(i:Nat),Vals xs us->Vals (xs.set i x) (us.set i u)|_,_,_,.nil=>.nil|_,_,0,.cons _ t=>.cons r t|_,_,i+1,.cons q t=>.cons q (Vals.set r i t)
theorem Vals.append:∀{xs ys:List V}{us ws:List bd},Vals xs us->Vals ys ws->Vals (xs++ys) (us++ws)|_,_,_,_,.nil,s=>s|_,_,_,_,.cons r t,s=>.cons r (Vals.append t s)
theorem Vals.take:∀{xs:List V}{us:List bd}(n:Nat),Vals xs us->Vals (xs.take n) (us.take n)|_,_,0,_=>.nil|_,_,_+1,.nil=>.nil|_,_,n+1,.cons r t=>.cons r (Vals.take n t)
theorem Vals.drop:∀{xs:List V}{us:List bd}(n:Nat),Vals xs us->Vals (xs.drop n) (us.drop n)|_,_,0,r=>r|_,_,_+1,.nil=>.nil|_,_,n+1,.cons _ t=>Vals.drop n t
noncomputable def rM:Option V->Option bd->Prop|some v,ap u=>RelV v u|none,none=>True|_,_=>False
noncomputable def KV{κ:Type}:List (κ×V)->List (κ×bd)->Prop:=Paired λ(p:κ×V)(q:κ×bd)=>p.1=q.1/\RelV p.2 q.2
noncomputable def kV:Key->V|.inl i=>.int i|.inr x=>.str x
inductive HO where|lst(xs:List V)|tup(xs:List V)|dK(kvs:List (Key×V))|dT(kvs:List (List Key×V))|set(S:Int->Bool)(n:Nat)|ins(C dx:b_)(fs:List (Str×V))|own(x:b_)|xd(fs:List (Str×V))|met(f x:b_)|vD(lo hi:Int)|eN(o:Obj)(u:HO)|T3(ps:Array bd)|ext(φ:ef->Prop)
noncomputable abbrev Hp:=b_->Option HO
variable{H:Hp}
noncomputable def upd(H:Hp)(a:b_)(o:HO):Hp:=λb=>if b=a then ap o else H b
theorem aP{a:b_}{o:HO}:upd H a o a=ap o:=by unfold upd;rw[if_pos rfl]
theorem aH{a b:b_}{o:HO}(h:b≠a):upd H a o b=H b:=by unfold upd;rw[if_neg h]
theorem yo{a:b_}{o u:HO}:upd (upd H a o) a u=upd H a u:=by funext b;unfold upd;split<;>rfl
theorem aco{a b:b_}{o u:HO}(h:H a=ap o)(h':H b=ap u)(d:o≠u):a≠b:=by intro e;subst e;rw[h]at h';exact d (ey h')
theorem jr{a b:b_}{o:HO}(h:H a=ap o)(h':H b=none):a≠b:=by intro e;subst e;rw[h]at h';cases h'
section
variable(P:c_)(w:eh)
noncomputable def bT(H:Hp)(h:ef)(a:b_):HO->Prop|.lst xs=>xs.length<=sizeLine/\∃(b:List bd)(n:Nat),Vals xs b/\h.get? a=ap {cls:=.type "list",data:=.seq b.toArray n}|.tup xs=>xs.length<=sizeLine/\∃b:List bd,Vals xs b/\oN h a b.toArray|.dK kvs=>kvs.length<=sizeLine/\(a==gL)=av/\∃vs,KV kvs vs/\h.DictOf (bI P w) a vs|.dT kvs=>kvs.length<=sizeLine/\(a==gL)=av/\∃xs:List (List Key×b_×bd),Paired (λ(p:List Key×V)(q:List Key×b_×bd)=>p.1=q.1/\H q.2.1=ap (.tup (p.1.map kV))/\RelV p.2 q.2.2) kvs xs/\∃o es ep,h.get? a=ap o/\o.ExactDict/\o.data=.dict es ep/\es.toList=xs.map (entryOfKey (lF (bI P w)))/\(xs.map (·.1)).Nodup|.set S n=>h.SetOf (intKind P w) a S n|.ins C e fs=>H e=ap (.own a)/\fs.length<=1000/\e≠a/\h.get? a=ap (PySem.W.instObj C e)/\∃c,h.Ns1 e c/\(∀f,rM (fs.lookup f) (c f))/\PySem.Within c (fs.map (·.1))|.own _=>∃o,h.get? a=ap o|.xd fs=>∃c,h.Ns1 a c/\∀f,rM (fs.lookup f) (c f)|.vD lo hi=>∃t u v,h.get? a=ap {cls:=.type "range",data:=.fields #[.int lo t,.int hi u,.int 1 v]}|.eN o u=>h.get? a=ap o/\bT H h a u|.T3 ps=>h.get? a=ap {cls:=.none,data:=.fields ps}|.met f x=>h.get? a=ap (methodObj (.ref f) (.ref x))|.ext g=>g h/\(∃o,h.get? a=ap o)/\∀h1 j:ef,g h1->(∀o,h1.get? a=ap o->j.get? a=ap o)->g j
noncomputable def lO(H:Hp)(h:ef):Prop:=∀a o,H a=ap o->bT P w H h a o
end
section
variable{P:c_}{w:eh}{H H':Hp}{h h':ef}{a:b_}{o:HO}
theorem bT.lt(x:bT P w H h a o):a<h.objs.size:=by cases o with|lst xs=>obtain⟨_,_,_,_,e⟩:=x;exact df e|tup xs=>obtain⟨_,_,_,p⟩:=x;exact p.lt|dK kvs=>obtain⟨_,_,_,_,o,_,_,e,_⟩:=x;exact df e|dT kvs=>obtain⟨_,_,_,_,o,_,_,e,_⟩:=x;exact df e|set S n=>obtain⟨o,_,_,_,e,_⟩:=x;exact df e|ins C b fs=>obtain⟨_,_,_,e,_⟩:=x;exact df e|own y=>obtain⟨_,e⟩:=x;exact df e|xd fs=>obtain⟨_,⟨_,_,_,e,_⟩,_⟩:=x;exact df e|vD lo hi=>obtain⟨_,_,_,e⟩:=x;exact df e|eN c u=>obtain⟨e,_⟩:=x;exact df e|T3 ps=>exact df (show h.get? a=ap _ from x)|met f y=>exact df (show h.get? a=ap _ from x)|ext g=>obtain⟨_,⟨_,e⟩,_⟩:=x;exact df e
theorem Paired.Xy{g j:Type}{F G:g->j->Prop}:∀{c:List g}{e:List j},Paired F c e->(∀a b,F a b->G a b)->Paired G c e|_,_,.nil,_=>.nil|_,_,.cons r t,f=>.cons (f _ _ r) (Paired.Xy t f)
theorem bT.stay(x:bT P w H h a o)(k:∀b u,(b=a\/H b=ap (.own a))->h.get? b=ap u->h'.get? b=ap u)(ho:∀b,H b=ap (.own a)->H' b=ap (.own a))(m:∀b xs,H b=ap (.tup xs)->H' b=ap (.tup xs)):bT P w H' h' a o:=by induction o with|lst xs=>obtain⟨z,j,n,r,e⟩:=x;exact⟨z,j,n,r,k _ _ (.inl rfl) e⟩|tup xs=>obtain⟨z,j,r,g,e,c⟩:=x;exact⟨z,j,r,g,k _ _ (.inl rfl) e,c⟩|dK kvs=>obtain⟨z,y,vs,r,g,es,ep,e,c⟩:=x;exact⟨z,y,vs,r,g,es,ep,k _ _ (.inl rfl) e,c⟩|dT kvs=>obtain⟨z,y,xs,r,g,es,ep,e,c⟩:=x;exact⟨z,y,xs,Paired.Xy r λp q z=>⟨z.1,m _ _ z.2.1,z.2.2⟩,g,es,ep,k _ _ (.inl rfl) e,c⟩|set S n=>obtain⟨g,es,ep,t,e,c⟩:=x;exact⟨g,es,ep,t,k _ _ (.inl rfl) e,c⟩|ins C G fs=>obtain⟨d,z,ne,e,l,⟨od,es,ep,B,c⟩,r⟩:=x;exact⟨ho _ d,z,ne,k _ _ (.inl rfl) e,l,⟨od,es,ep,k _ _ (.inr d) B,c⟩,r⟩|own y=>obtain⟨g,e⟩:=x;exact⟨g,k _ _ (.inl rfl) e⟩|xd fs=>obtain⟨l,⟨od,es,ep,e,c⟩,r⟩:=x;exact⟨l,⟨od,es,ep,k _ _ (.inl rfl) e,c⟩,r⟩|vD lo hi=>obtain⟨t,u,v,e⟩:=x;exact⟨t,u,v,k _ _ (.inl rfl) e⟩|eN g u E=>obtain⟨e,q⟩:=x;exact⟨k _ _ (.inl rfl) e,E q⟩|T3 ps=>have e:h.get? a=ap {cls:=.none,data:=.fields ps}:=x;show h'.get? a=ap {cls:=.none,data:=.fields ps};exact k a _ (.inl rfl) e|met f y=>have e:h.get? a=ap (methodObj (.ref f) (.ref y)):=x;show h'.get? a=ap (methodObj (.ref f) (.ref y));exact k a _ (.inl rfl) e|ext I=>obtain⟨p,⟨o,e⟩,st⟩:=x;exact⟨st _ _ p λo q=>k _ _ (.inl rfl) q,⟨o,k _ _ (.inl rfl) e⟩,st⟩
theorem lO.lt(x:lO P w H h)(e:H a=ap o):a<h.objs.size:=(x a o e).lt
theorem lO.fresh(x:lO P w H h)(e:h.objs.size<=a):H a=none:=by cases q:H a with|none=>rfl|some u=>exact absurd (dE (x.lt q) e) (g9 _)
theorem lO.kept(x:lO P w H h)(k:∀b u,h.get? b=ap u->h'.get? b=ap u):lO P w H h':=λa o e=>(x a o e).stay (λb u _ q=>k b u q) (λ_ q=>q) λ_ _ q=>q
theorem lO.laid(x:lO P w H h)(k:∀b u,h.get? b=ap u->h'.get? b=ap u)(j:h.objs.size<=a)(new:bT P w (upd H a o) h' a o):lO P w (upd H a o) h':=λb u e=>by
 have f:=x.fresh j;by_cases g:b=a;.subst g;rw[aP]at e;cases e;exact new
 .rw[aH g]at e;exact(x b u e).stay (λc v _ q=>k c v q) (λc q=>by rw[aH (jr q f)];exact q) λc xs q=>by rw[aH (jr q f)];exact q
end
noncomputable def Rd(H:Hp)(a:b_)(u:HO):Prop:=H a=ap u\/∃o,H a=ap (.eN o u)
theorem Rd.ok{P:c_}{a:b_}{u:HO}(r:Rd H a u)(x:lO P w H h):bT P w H h a u:=by
 rcases r with r|⟨o,r⟩;.exact x a u r
 .obtain⟨_,q⟩:=x a _ r;exact q
noncomputable def Mut:Option HO->Prop|some (.lst _)=>True|some (.dK _)=>True|some (.dT _)=>True|some (.set _ _)=>True|some (.ins _ _ _)=>True|some (.ext _)=>True|_=>False
section
variable{P:c_}{w:eh}{H:Hp}{h h':ef}{x e:b_}{o':HO}
theorem lO.write(ok:lO P w H h)(g:Mut (H x))(he:e=x\/H e=ap (.own x))(k:∀b u,b≠e->h.get? b=ap u->h'.get? b=ap u)(l:∃u,h'.get? e=ap u)(new:bT P w (upd H x o') h' x o'):lO P w (upd H x o') h':=λb u q=>by
 have f:∀c y,H c=ap (.own y)->c≠x:=λc y r z=>by subst z;rw[r]at g;exact g
 have m:∀c xs,H c=ap (.tup xs)->c≠x:=λc xs r z=>by subst z;rw[r]at g;exact g
 by_cases j:b=x;.subst j;rw[aP]at q;cases q;exact new
 . rw[aH j]at q;by_cases a:b=e
   . have n:H b=ap (.own x):=by
      rcases he with z|z;.exact absurd (a.trans z) j
      .rw[a];exact z
     rw[q]at n;cases n;obtain⟨v,o⟩:=l;exact⟨v,by rw[a];exact o⟩
   . refine(ok b u q).stay (λc v hc r=>k c v ?_ r) (λc r=>by rw[aH (f c b r)];exact r) λc xs r=>by rw[aH (m c xs r)];exact r
     rcases hc with rfl|hc;.exact a
     . rintro rfl;rcases he with z|z;.exact f c b hc z
       .rw[hc]at z;cases z;exact j rfl
end
structure Un(fs ex:List b_)(H H':Hp)(h h':ef):Prop where
 keep:∀b o,h.get? b=ap o->H b=none->b∉fs->b∉ex->h'.get? b=ap o
 slot:∀b o,h.get? b=ap o->H b=none->b∈fs->b∉ex->∃sl,h'.get? b=ap {o with slots:=sl}free:∀b o,h.get? b=ap o->H b=none->b∉ex->H' b=none
 there:∀b o,h.get? b=ap o->b∉ex->∃o',h'.get? b=ap o'
 tups:∀b xs,H b=ap (.tup xs)->H' b=ap (.tup xs)rY:∀b o u,H b=ap (.eN o u)->H' b=ap (.eN o u)vG:∀b ps,H b=ap (.T3 ps)->∃more,H' b=ap (.T3 (ps++more))
section
variable{fs fs' ex ex':List b_}{H H1 H2:Hp}{h h1 h2 h':ef}{a x e:b_}{o:HO}
theorem Un.any(u:Un fs ex H H1 h h1){b:b_}{c:Obj}(q:h.get? b=ap c)(n:H b=none)(f:b∉ex):∃sl,h1.get? b=ap {c with slots:=sl}:=by
 by_cases g:b∈fs;.exact u.slot b c q n g f
 .exact⟨c.slots,u.keep b c q n g f⟩
theorem Un.kept(k:∀b u,h.get? b=ap u->h'.get? b=ap u):Un fs ex H H h h':=⟨λb c q _ _ _=>k b c q,λb c q _ _ _=>⟨c.slots,k b c q⟩,λ_ _ _ n _=>n,λb c q _=>⟨c,k b c q⟩,λ_ _ q=>q,λ_ _ _ q=>q,λ_ ps q=>⟨#[],by rw[q];simp⟩⟩
theorem Un.refl:Un fs ex H H h h:=Un.kept λ_ _ q=>q
theorem Un.laid(k:∀b u,h.get? b=ap u->h'.get? b=ap u)(f:h.objs.size<=a)(c:H a=none):Un fs ex H (upd H a o) h h' where
 keep:=λb u q _ _ _=>k b u q;slot:=λb u q _ _ _=>⟨u.slots,k b u q⟩;free:=λb u q n _=>by rw[aH (dP (dE (df q) f))];exact n
 there:=λb u q _=>⟨u,k b u q⟩;tups:=λb xs q=>by rw[aH (jr q c)];exact q
 rY:=λb u xs q=>by rw[aH (jr q c)];exact q
 vG:=λb ps q=>⟨#[],by rw[aH (jr q c),q];simp⟩
theorem Un.write(f:Mut (H x))(he:e=x\/H e=ap (.own x))(k:∀b u,b≠e->h.get? b=ap u->h'.get? b=ap u)(g:∃u,h'.get? e=ap u):Un fs ex H (upd H x o) h h':=by
 have l:∀b,H b=none->b≠x:=λb n z=>by subst z;rw[n]at f;exact f
 have m:∀b,H b=none->b≠e:=λb n z=>by
  subst z;rcases he with r|r;.exact l b n r
  .rw[n]at r;cases r
 have j:∀b u,H b=ap u->¬ Mut (ap u)->b≠x:=λb u q nm z=>by subst z;rw[q]at f;exact nm f
 refine⟨λb u q n _ _=>k b u (m b n) q,λb u q n _ _=>⟨u.slots,k b u (m b n) q⟩,λb u q n _=>by rw[aH (l b n)];exact n,λb u q _=>?_,λb xs q=>by rw[aH (j b _ q λz=>z)];exact q,λb u xs q=>by rw[aH (j b _ q λz=>z)];exact q,λb ps q=>⟨#[],by rw[aH (j b _ q λz=>z),q];simp⟩⟩;by_cases c:b=e;.subst c;exact g
 .exact⟨u,k b u c q⟩
end
noncomputable def trk(h:ef)(H:Hp):List b_:=(eu h.objs.size).filter λa=>(H a).isSome
noncomputable def yF(h:ef)(H:Hp):ef:=PySem.W.hideAll h (trk h H)
theorem Hj(h:ef)(H:Hp):(yF h H).objs.size=h.objs.size:=PySem.W.hideAll_size _ _
theorem Lz{b:b_}{o:Obj}(e:h.get? b=ap o)(n:H b=none):(yF h H).get? b=ap o:=PySem.W.hideAll_get _ e λa=>by have q:(H b).isSome=bj:=(kw.mp a).2;rw[n]at q;simp at q
theorem Pj{b:b_}{o:Obj}(e:(yF h H).get? b=ap o):h.get? b=ap o/\H b=none:=by have a:h.get? b=ap o:=PySem.W.of_hideAll (trk h H) e;refine⟨a,?_⟩;cases q:H b with|none=>rfl|some x=>have c:b∈trk h H:=kw.mpr ⟨i7.mpr (df a),by simp[q]⟩;have z:(yF h H).get? b=none:=PySem.W.hideAll_none (trk h H) c;rw[z]at e;cases e
structure Mod(K:PySem.W.Frag)(mg:Str->Option bd)(base:ef):Prop where
 vp:K.In base
 glob:base.Ns cK mg
 blt:∃mb,base.Ns builtinsNs mb/\∀x:Str,x≠"__name__"->mb x=ez x
 nolimit:base.NoLimit
structure Cx where
 prog:c_
 w:eh
 K:PySem.W.Frag
 mg:Str->Option bd
 base:ef
 A:et
 N:List Str
 s₀:bx
 H₀:Hp
 env:Env
 outer:List Env
 stack:List Env
 ex:List b_
 fn:Str->Bool
 calm:Bool
 pn:List (b_×Obj)xe:bd->bx->Prop
variable{X:Cx}
noncomputable def frs(l:List Env):List b_:=l.filterMap (·.frame)
noncomputable abbrev Cx.fs(X:Cx):List b_:=frs X.outer
noncomputable def vR(a:iE)(x:Str):Prop:=a.names.lookup x=ap .local\/a.names.lookup x=ap .cell\/a.names.lookup x=ap .free
noncomputable def Loc(a:iE)(x:Str):Prop:=a.names.lookup x=ap .local\/a.names.lookup x=ap .cell
noncomputable def Look(env:Env)(h:ef)(m:Str->Option bd)(x:Str)(u:bd):Prop:=(env.kindOf x=ap .local/\m x=ap u)\/((env.kindOf x=ap .cell\/env.kindOf x=ap .free)/\∃c,env.cells.lookup x=ap c/\h.IsCell c (ap u))
structure Cx.Ok(X:Cx):Prop where
 mod:Mod X.K X.mg X.base
 kind:X.env.scope.kind=.function
 glob:X.env.globals=cK
 blt:X.env.builtins=builtinsNs
 above:X.s₀.heap.objs.size<=X.env.locals
 inj:∀x y c,X.env.cells.lookup x=ap c->X.env.cells.lookup y=ap c->x=y
 has:∀x,(X.env.kindOf x=ap .cell\/X.env.kindOf x=ap .free)->∃c,X.env.cells.lookup x=ap c
 cab:∀x c,X.fn x=bj->X.env.cells.lookup x=ap c->X.s₀.heap.objs.size<=c
 hd:X.calm=bj->X.A.handled=none
 frames:X.A.frames=ap X.stack
 T4:X.stack=X.outer\/(X.stack=X.env::X.outer/\X.env.frame=ap X.env.locals)Z1:∀b∈X.ex,b≠X.env.locals/\∀x c,X.env.cells.lookup x=ap c->c≠b
 bs:∀b o,X.base.get? b=ap o->X.s₀.heap.get? b=ap o/\X.H₀ b=none
 IK:X.base.objs.size<=X.s₀.heap.objs.size
 yP:∀b o,X.base.get? b=ap o->b∉X.ex
 Ba:∀b∈X.ex,b∉X.fs
 oW:X.s₀.heap.FunFrames X.base X.outer
 Om:∀b∈X.fs,X.H₀ b=none
structure Inv(X:Cx)(pins:List (b_×Obj))(σ:List (Option V))(H:Hp)(s:bx):Prop where
 ok:X.Ok
 os:s.os=X.s₀.os
 bare:kU s.gens
 base:Un X.fs X.ex X.H₀ H X.s₀.heap s.heap
 loc:∃m,s.heap.Ns X.env.locals m/\∀(i:Nat)(x:Str)(v:V),X.N[i]?=ap x->σ[i]?=ap (ap v)->vR X.env.scope x->∃u,RelV v u/\Look X.env s.heap m x u
 cell:∀x c,X.env.cells.lookup x=ap c->∃v,s.heap.IsCell c v
 free:H X.env.locals=none
 iQ:∀x c,X.env.cells.lookup x=ap c->H c=none
 pin:∀p∈X.pn++pins,s.heap.get? p.1=ap p.2/\H p.1=none/\p.1≠X.env.locals/\p.1∉X.fs/\∀v,p.2.data≠.cell v
 hok:lO X.prog X.w H s.heap
 len:σ.length=X.N.length
section
variable{X:Cx}{pins:List (b_×Obj)}{σ:List (Option V)}{H H':Hp}{s:bx}{h':ef}
theorem Cx.Ok.Q8(ok:X.Ok){b:b_}{o:Obj}(e:X.base.get? b=ap o):b∉X.fs:=λa=>by have:=(ok.oW.mem a).1;rw[e]at this;cases this
theorem Inv.bs(I:Inv X pins σ H s):∀b o,X.base.get? b=ap o->s.heap.get? b=ap o/\H b=none:=λb o e=>⟨I.base.keep b o (I.ok.bs b o e).1 (I.ok.bs b o e).2 (I.ok.Q8 e) (I.ok.yP b o e),I.base.free b o (I.ok.bs b o e).1 (I.ok.bs b o e).2 (I.ok.yP b o e)⟩
theorem Inv.bk(I:Inv X pins σ H s):∀b o,X.base.get? b=ap o->s.heap.get? b=ap o:=λb o e=>(I.bs b o e).1
theorem Inv.mod(I:Inv X pins σ H s):Mod X.K X.mg X.base:=I.ok.mod
theorem Inv.Pz(I:Inv X pins σ H s):X.K.In s.heap:=I.ok.mod.vp.keeps I.bk
theorem Inv.lt(I:Inv X pins σ H s):X.env.locals<s.heap.objs.size:=let⟨_,hn,_⟩:=I.loc;hn.lt
theorem Inv.sz(I:Inv X pins σ H s):X.s₀.heap.objs.size<=s.heap.objs.size:=gT I.ok.above (lm I.lt)
theorem Inv.ag8(I:Inv X pins σ H s){a:b_}(h:s.heap.objs.size<=a):a∉X.fs:=λb=>by obtain⟨_,o,ho,_⟩:=I.ok.oW.mem b;exact absurd (dE (df ho) (gT I.sz h)) (g9 _)
theorem Inv.Lx(I:Inv X pins σ H s):∀x c,X.env.cells.lookup x=ap c->c≠X.env.locals:=λx c e z=>by obtain⟨v,o,ho,hd⟩:=I.cell x c e;obtain⟨m,⟨f,es,ep,a,b,_⟩,_⟩:=I.loc;rw[z,a]at ho;cases ho;rw[b]at hd;cases hd
theorem Inv.oW(I:Inv X pins σ H s):s.heap.FunFrames X.base X.outer:=by
 have all:∀(l:List Env),(∀b∈frs l,b∈X.fs)->X.s₀.heap.FunFrames X.base l->s.heap.FunFrames X.base l:=by intro l;induction l with|nil=>intro _ _;trivial|cons env r g=>intro hs j;obtain⟨k,⟨L,o,a,m,ho,hd⟩,hr⟩:=j;have c:L∈X.fs:=hs L (by unfold frs;rw[hY,a];exact gX);obtain⟨sl,e⟩:=I.base.slot L o ho (I.ok.Om L c) c λz=>I.ok.Ba L z c;exact⟨k,⟨L,_,a,m,e,hd⟩,g (λb f=>hs b (by unfold frs;rw[hY,a];exact dL _ f)) hr⟩
 exact all X.outer (λ_ f=>f) I.ok.oW
theorem Inv.stack(I:Inv X pins σ H s):s.heap.FunFrames X.base X.stack:=by
 rcases I.ok.T4 with e|⟨e,a⟩;.rw[e];exact I.oW
 .rw[e];obtain⟨m,b,_⟩:=I.loc;refine .cons (by rw[I.ok.kind];decide) a b ?_ I.oW;exact i9 (gT I.ok.IK I.ok.above)
theorem Inv.uP(I:Inv X pins σ H s):∀b∈frs X.stack,b∈X.env.locals::X.fs:=λb a=>by
 rcases I.ok.T4 with e|⟨e,c⟩;.rw[e]at a;exact dL _ a
 .rw[e]at a;unfold frs at a;rw[hY,c]at a;exact a
theorem Inv.tE(I:Inv X pins σ H s):∀b∈frs X.stack,H b=none:=λb hb=>by
 rcases de.mp (I.uP b hb)with e|hb;.rw[e];exact I.free
 .obtain⟨_,o,ho,_⟩:=I.ok.oW.mem hb;exact I.base.free b o ho (I.ok.Om b hb) λz=>I.ok.Ba b z hb
theorem Inv.step{g':Array GenState}{d':Drawn}{ch:List b_}(I:Inv X pins σ H s)(f:∀b∈ch,(b∈X.ex\/X.s₀.heap.objs.size<=b)/\b≠X.env.locals/\(∀x c,X.env.cells.lookup x=ap c->c≠b)/\∀p∈X.pn++pins,p.1≠b)(keep:∀b o,b≠X.env.locals->b∉X.fs->b∉ch->s.heap.get? b=ap o->H b=none->h'.get? b=ap o)(slot:∀b o,b≠X.env.locals->b∈X.fs->b∉ch->s.heap.get? b=ap o->H b=none->∃sl,h'.get? b=ap {o with slots:=sl})(free:∀b o,b∉ch->s.heap.get? b=ap o->H b=none->H' b=none)(there:∀b o,b∉ch->s.heap.get? b=ap o->∃B,h'.get? b=ap B)(tups:∀b xs,H b=ap (.tup xs)->H' b=ap (.tup xs))(rY:∀b o u,H b=ap (.eN o u)->H' b=ap (.eN o u))(vG:∀b ps,H b=ap (.T3 ps)->∃more,H' b=ap (.T3 (ps++more)))(ns:∀m,s.heap.Ns X.env.locals m->h'.Ns X.env.locals m)(hok:lO X.prog X.w H' h')(O:kU g'):Inv X pins σ H' {s with heap:=h',gens:=g',drawn:=d',toks:=t'}:=by
 have C:∀b o,X.s₀.heap.get? b=ap o->b≠X.env.locals:=λb o e=>dP (dE (df e) I.ok.above);have j:∀b o,X.s₀.heap.get? b=ap o->b∉X.ex->b∉ch:=λb o e a y=>by
  rcases(f b y).1 with z|z;.exact a z
  .exact absurd (dE (df e) z) (g9 _)
 have g:∀x c,X.env.cells.lookup x=ap c->∀v,s.heap.IsCell c v->h'.IsCell c v:=λx c e v⟨o,ho,hd⟩=>by
  have E:c∉ch:=λz=>(f c z).2.2.1 x c e rfl;by_cases hc:c∈X.fs;.obtain⟨sl,q⟩:=slot c o (I.Lx x c e) hc E ho (I.iQ x c e);exact⟨_,q,hd⟩
  .exact⟨o,keep c o (I.Lx x c e) hc E ho (I.iQ x c e),hd⟩
 refine⟨I.ok,I.os,O,⟨λb o e n y a=>?_,λb o e n y a=>?_,λb o e n a=>?_,λb o e a=>?_,λb xs e=>tups b xs (I.base.tups b xs e),λb o xs e=>rY b o xs (I.base.rY b o xs e),λb ps e=>?_⟩,?_,λx c e=>?_,?_,λx c e=>?_,λp L=>?_,hok,I.len⟩;.exact keep b o (C b o e) y (j b o e a) (I.base.keep b o e n y a) (I.base.free b o e n a)
 .obtain⟨sl,t⟩:=I.base.slot b o e n y a;obtain⟨J,G⟩:=slot b _ (C b o e) y (j b o e a) t (I.base.free b o e n a);exact⟨J,G⟩
 .obtain⟨B,t⟩:=I.base.there b o e a;exact free b B (j b o e a) t (I.base.free b o e n a)
 .obtain⟨B,t⟩:=I.base.there b o e a;exact there b B (j b o e a) t
 .obtain⟨m1,t⟩:=I.base.vG b ps e;obtain⟨Q,G⟩:=vG b _ t;exact⟨m1++Q,by rw[G,Array.append_assoc]⟩
 . obtain⟨m,U,W⟩:=I.loc;refine⟨m,ns m U,λi x v t G Y=>?_⟩;obtain⟨u,r,l⟩:=W i x v t G Y;refine⟨u,r,?_⟩;rcases l with l|⟨k,c,e,z⟩;.exact .inl l
   .exact .inr ⟨k,c,e,g x c e _ z⟩
 .obtain⟨v,z⟩:=I.cell x c e;exact⟨v,g x c e v z⟩
 .obtain⟨m,⟨o,_,_,ho,_⟩,_⟩:=I.loc;exact free _ o (λz=>(f _ z).2.1 rfl) ho I.free
 .obtain⟨v,o,ho,hd⟩:=I.cell x c e;exact free c o (λz=>(f c z).2.2.1 x c e rfl) ho (I.iQ x c e)
 .obtain⟨e,n,ne,N,d⟩:=I.pin p L;have E:p.1∉ch:=λz=>(f p.1 z).2.2.2 p L rfl;exact⟨keep p.1 p.2 ne N E e n,free p.1 p.2 E e n,ne,N,d⟩
theorem Inv.un(I:Inv X pins σ H s)(u:Un X.fs [] H H' s.heap h')(hok:lO X.prog X.w H' h'):Inv X pins σ H' {s with heap:=h',toks:=t'}:=by obtain⟨m,⟨o,es,ep,ho,r⟩,_⟩:=id I.loc;obtain⟨sl,j⟩:=u.any ho I.free (by simp);exact I.step (g':=s.gens) (d':=s.drawn) (ch:=[]) (λ_ z=>nomatch z) (λb o _ c _ e n=>u.keep b o e n c (by simp)) (λb o _ c _ e n=>u.slot b o e n c (by simp)) (λb o _ e n=>u.free b o e n (by simp)) (λb o _ e=>u.there b o e (by simp)) u.tups u.rY u.vG (λp k=>by obtain⟨q,f,g,a,l⟩:=k;rw[ho]at a;cases a;exact⟨_,f,g,j,l⟩) hok I.bare
theorem Inv.call{g':Array GenState}{d':Drawn}{ch:List b_}(I:Inv X pins σ H s)(u:Un (frs X.stack) ch H H' s.heap h')(hok:lO X.prog X.w H' h')(l:kU g')(a:∀b∈ch,(b∈X.ex\/X.s₀.heap.objs.size<=b)/\b≠X.env.locals/\(∀x c,X.env.cells.lookup x=ap c->c≠b)/\∀p∈X.pn++pins,p.1≠b):Inv X pins σ H' {s with heap:=h',gens:=g',drawn:=d',toks:=t'}:=by obtain⟨m,⟨o,es,ep,ho,r⟩,_⟩:=id I.loc;obtain⟨sl,g⟩:=u.any ho I.free λz=>(a _ z).2.1 rfl;exact I.step (ch:=ch) a (λb o g q hc e n=>u.keep b o e n (λz=>(de.mp (I.uP b z)).elim g q) hc) (λb o _ _ hc e n=>u.any e n hc) (λb o hc e n=>u.free b o e n hc) (λb o hc e=>u.there b o e hc) u.tups u.rY u.vG (λy t=>by obtain⟨B,j,k,f,v⟩:=t;rw[ho]at f;cases f;exact⟨_,j,k,g,v⟩) hok l
theorem Inv.turned{it:b_}(I:Inv X pins σ H s)(k:∀b o,b≠it->s.heap.get? b=ap o->h'.get? b=ap o)(g:H it=none)(f:it≠X.env.locals)(h1:it∈X.ex\/X.s₀.heap.objs.size<=it)(j:∀x c,X.env.cells.lookup x=ap c->c≠it)(l:∀p∈X.pn++pins,p.1≠it):Inv X pins σ H {s with heap:=h',toks:=t'}:=by
 have a:∀b u,H b=ap u->b≠it:=λb u e z=>by rw[z,g]at e;cases e
 refine I.step (g':=s.gens) (d':=s.drawn) (ch:=[it]) (λb t=>?_) (λb o _ _ hc e _=>k b o (λz=>hc (by simp[z])) e) (λb o _ _ hc e _=>⟨o.slots,k b o (λz=>hc (by simp[z])) e⟩) (λ_ _ _ _ n=>n) (λb o hc e=>⟨o,k b o (λz=>hc (by simp[z])) e⟩) (λ_ _ e=>e) (λ_ _ _ e=>e) (λb ps e=>⟨#[],by rw[e];simp⟩) (λm y=>?_) (λb u e=>?_) I.bare
 . have e:b=it:=by simpa using t
   subst e;exact⟨h1,f,j,l⟩
 .obtain⟨o,es,ep,ho,r⟩:=y;exact⟨o,es,ep,k _ o (fk f) ho,r⟩
 . refine(I.hok b u e).stay (λc v hc q=>k c v ?_ q) (λ_ q=>q) λ_ _ q=>q;rcases hc with z|z;.rw[z];exact a b u e
   .exact a c _ z
theorem Inv.tok(I:Inv X pins σ H s)(t:Nat):Inv X pins σ H {s with toks:=t}:=I.un (h':=s.heap) (t':=t) Un.refl I.hok
theorem Inv.kept{t':Nat}(I:Inv X pins σ H s)(k:∀b u,s.heap.get? b=ap u->h'.get? b=ap u):Inv X pins σ H {s with heap:=h',toks:=t'}:=I.un (Un.kept k) (I.hok.kept k)
theorem Inv.laid{a:b_}{o:HO}{t':Nat}(I:Inv X pins σ H s)(k:∀b u,s.heap.get? b=ap u->h'.get? b=ap u)(c:s.heap.objs.size<=a)(new:bT X.prog X.w (upd H a o) h' a o):Inv X pins σ (upd H a o) {s with heap:=h',toks:=t'}:=I.un (Un.laid k c (I.hok.fresh c)) (I.hok.laid k c new)
theorem Inv.write{x e:b_}{o:HO}{t':Nat}(I:Inv X pins σ H s)(c:Mut (H x))(he:e=x\/H e=ap (.own x))(k:∀b u,b≠e->s.heap.get? b=ap u->h'.get? b=ap u)(a:∃u,h'.get? e=ap u)(new:bT X.prog X.w (upd H x o) h' x o):Inv X pins σ (upd H x o) {s with heap:=h',toks:=t'}:=I.un (Un.write c he k a) (I.hok.write c he k a new)
theorem Inv.Fo{a:List (b_×Obj)}(I:Inv X pins σ H s)(h:∀p∈a,s.heap.get? p.1=ap p.2/\H p.1=none/\p.1≠X.env.locals/\p.1∉X.fs/\∀v,p.2.data≠.cell v):Inv X a σ H s:=⟨I.ok,I.os,I.bare,I.base,I.loc,I.cell,I.free,I.iQ,λp b=>(eM.mp b).elim (λz=>I.pin p (fx _ z)) (h p),I.hok,I.len⟩
theorem uL{N:List Str}(c:N.Nodup){j:Nat}{x:Str}(a:N[i]?=ap x)(b:N[j]?=ap x):i=j:=by obtain⟨h1,e⟩:=gh a;obtain⟨g,f⟩:=gh b;exact(List.getElem_inj c).mp (e.trans f.symm)
theorem wz{E:bd->bx->Prop}{x:Str}{v:V}{u:bd}{Q:Unit->bx->Prop}(I:Inv X pins σ H s)(hN:X.N.Nodup)(hi:X.N[i]?=ap x)(l:Loc X.env.scope x)(r:RelV v u)(h:∀s',Inv X pins (σ.set i (ap v)) H s'->(∃a,p5 a s.heap s'.heap/\(a=X.env.locals\/X.env.cells.lookup x=ap a))->Q () s')(hf:X.fn x=bj\/X.env.scope.names.lookup x=ap .local:=by first|(left;rfl)|(right;rfl)|assumption):cH M A (oz X.env x u) Q E s:=by
 obtain⟨m,hn,hl⟩:=id I.loc;have O:(X.env.scope.kind==.class||(X.env.scope.kind==.module&&X.env.locals !=X.env.globals))=av:=by rw[I.ok.kind];rfl
 have C:i<σ.length:=by rw[I.len];exact(gh hi).1
 have Lx:=I.Lx;have f:∀{a:b_}{h':ef},(∃o,s.heap.get? a=ap o/\H a=none)->p5 a s.heap h'->lO X.prog X.w H h':=λ{a h'}ha hs b ob e=>by
  obtain⟨_,_,t⟩:=ha;refine(I.hok b ob e).stay (λc Z hc q=>(hs.2 c ?_).trans q) (λ_ q=>q) λ_ _ q=>q;rintro rfl;rcases hc with rfl|hc;.rw[t]at e;cases e
  .rw[t]at hc;cases hc
 rcases l with hk|hk
 . refine wpAny_storeName_local hk hn (λh' ac hs=>?_) O;obtain⟨oL,_,_,ae,_⟩:=id hn;refine h _ ⟨I.ok,I.os,I.bare,⟨λb o e n G l=>?_,λb o e n G l=>?_,I.base.free,λb o e l=>?_,I.base.tups,I.base.rY,I.base.vG⟩,⟨_,ac,λj y v' g B e3=>?_⟩,λy c e=>?_,I.free,I.iQ,λp hp=>?_,f ⟨oL,ae,I.free⟩ hs,by simpa using I.len⟩ ⟨_,hs,.inl rfl⟩;.exact(hs.2 b (dP (dE (df e) I.ok.above))).trans (I.base.keep b o e n G l)
   .obtain⟨sl,g⟩:=I.base.slot b o e n G l;exact⟨sl,(hs.2 b (dP (dE (df e) I.ok.above))).trans g⟩
   .obtain⟨o',g⟩:=I.base.there b o e l;exact⟨o',(hs.2 b (dP (dE (df e) I.ok.above))).trans g⟩
   . by_cases J:j=i;.subst J;rw[hi]at g;cases g;rw[ce C]at B;cases B;exact⟨u,r,.inl ⟨hk,by simp⟩⟩
     . rw[gM J]at B;obtain⟨u',r',q⟩:=hl j y v' g B e3;refine⟨u',r',?_⟩;rcases q with⟨k,e⟩|⟨k,c,e,z⟩;.refine .inl ⟨k,?_⟩;have:y≠x:=λe=>J (uL hN g (e▸hi));simp[this,e]
       .exact .inr ⟨k,c,e,z.sameBut hs (Lx y c e)⟩
   .obtain⟨Z,z⟩:=I.cell y c e;exact⟨Z,z.sameBut hs (Lx y c e)⟩
   .obtain⟨e,n,ne,nf,d⟩:=I.pin p hp;exact⟨(hs.2 p.1 ne).trans e,n,ne,nf,d⟩
 . have L:X.fn x=bj:=by
    rcases hf with z|z;.exact z
    .rw[z]at hk;cases hk
   obtain⟨c,hc⟩:=I.ok.has x (.inl hk);obtain⟨Z,z⟩:=I.cell x c hc;refine wpAny_storeName_cell I.ok.kind hk hc z (λh' U hs=>?_);obtain⟨oc,W,af⟩:=id z;refine h {s with heap:=h'} ⟨I.ok,I.os,I.bare,⟨λb o e n G l=>?_,λb o e n G l=>?_,I.base.free,λb o e l=>?_,I.base.tups,I.base.rY,I.base.vG⟩,⟨m,hn.sameBut hs (fk (Lx x c hc)),λj y v' g B e3=>?_⟩,λy c' e=>?_,I.free,I.iQ,λp hp=>?_,f ⟨oc,W,I.iQ x c hc⟩ hs,by simpa using I.len⟩ ⟨c,hs,.inr hc⟩;.exact(hs.2 b (dP (dE (df e) (I.ok.cab x c L hc)))).trans (I.base.keep b o e n G l)
   .obtain⟨sl,g⟩:=I.base.slot b o e n G l;exact⟨sl,(hs.2 b (dP (dE (df e) (I.ok.cab x c L hc)))).trans g⟩
   .obtain⟨o',g⟩:=I.base.there b o e l;exact⟨o',(hs.2 b (dP (dE (df e) (I.ok.cab x c L hc)))).trans g⟩
   . by_cases J:j=i;.subst J;rw[hi]at g;cases g;rw[ce C]at B;cases B;exact⟨u,r,.inr ⟨.inl hk,c,hc,U⟩⟩
     . rw[gM J]at B;obtain⟨u',r',q⟩:=hl j y v' g B e3;refine⟨u',r',?_⟩;rcases q with q|⟨k,c',e,z'⟩;.exact .inl q
       .refine .inr ⟨k,c',e,z'.sameBut hs ?_⟩;rintro rfl;exact J (uL hN g (I.ok.inj _ _ _ e hc▸hi))
   . by_cases Y:c'=c;.subst Y;exact⟨_,U⟩
     .obtain⟨w2,z2⟩:=I.cell y c' e;exact⟨w2,z2.sameBut hs Y⟩
   .obtain⟨e,n,ne,nf,d⟩:=I.pin p hp;refine⟨(hs.2 p.1 ?_).trans e,n,ne,nf,d⟩;intro q;rw[q,W]at e;have q':oc=p.2:=ey e;exact d Z (by rw[<-q'];exact af)
theorem kZ{E:bd->bx->Prop}{x:Str}{v:V}{u:bd}{Q:Unit->bx->Prop}(I:Inv X pins σ H s)(b:X.N.Nodup)(hi:X.N[i]?=ap x)(c:Loc X.env.scope x)(r:RelV v u)(h:∀a,Inv X pins (σ.set i (ap v)) H a->Q () a)(e:X.fn x=bj\/X.env.scope.names.lookup x=ap .local:=by first|(left;rfl)|(right;rfl)|assumption):cH M A (oz X.env x u) Q E s:=wz I b hi c r (λa f _=>h a f) e
end
noncomputable abbrev XK:=bd->Option b_->Hp->Prop
noncomputable abbrev St:=List (Option V)
noncomputable abbrev VK:=V->Hp->Prop
noncomputable abbrev TE:=St->Hp->VK->Prop
variable{te:TE}
noncomputable abbrev TT:=St->Hp->(Bool->Hp->Prop)->Prop
noncomputable abbrev TA:=St->Hp->(List V->Hp->Prop)->Prop
structure Ends where
 nx:St->Hp->Prop
 rt:VK
 bk:St->Hp->Prop:=λ_ _=>False
 ct:St->Hp->Prop:=λ_ _=>False
noncomputable abbrev TS:=Ends->St->Hp->Prop
inductive EP(X:Cx)(pins:List (b_×Obj))(σ:St)(Q:VK)(u:bd)(s':bx):Prop where|mk(v:V)(H':Hp)(q0:Inv X pins σ H' s')(q1:RelV v u)(q2:Q v H')
noncomputable def TP(X:Cx)(pins:List (b_×Obj))(σ:St)(Q:Bool->Hp->Prop)(b:Bool)(a:bx):Prop:=∃H',Inv X pins σ H' a/\Q b H'
inductive AP(X:Cx)(pins:List (b_×Obj))(σ:St)(Q:List V->Hp->Prop)(us:List bd)(s':bx):Prop where|mk(vs:List V)(H':Hp)(q0:Inv X pins σ H' s')(q1:Vals vs us)(q2:Q vs H')
noncomputable def SP(X:Cx)(pins:List (b_×Obj))(D:Ends)(f:Flow)(a:bx):Prop:=match f with|.next=>∃σ' H',Inv X pins σ' H' a/\D.nx σ' H'|.brk=>∃σ' H',Inv X pins σ' H' a/\D.bk σ' H'|.cont=>∃σ' H',Inv X pins σ' H' a/\D.ct σ' H'|.ret u=>∃v σ' H',Inv X pins σ' H' a/\RelV v u/\D.rt v H'
noncomputable def PE(X:Cx)(e:da)(t:TE):Prop:=∀(pins:List (b_×Obj))(s:bx)(σ:St)(H:Hp)(Q:VK),Inv X pins σ H s->t σ H Q->cH (cM X.prog X.w) X.A (eg e X.env) (EP X pins σ Q) X.xe s
noncomputable def PT(X:Cx)(e:da)(t:TT):Prop:=∀(pins:List (b_×Obj))(s:bx)(σ:St)(H:Hp)(Q:Bool->Hp->Prop),Inv X pins σ H s->t σ H Q->cH (cM X.prog X.w) X.A (isTrue e X.env (eg e X.env)) (TP X pins σ Q) X.xe s
noncomputable def PW(X:Cx)(e:da)(t:TT):Prop:=∀(a:Sem bd)(pins:List (b_×Obj))(s:bx)(σ:St)(H:Hp)(Q:Bool->Hp->Prop),Inv X pins σ H s->t σ H Q->cH (cM X.prog X.w) X.A (isTrue e X.env a) (TP X pins σ Q) X.xe s
theorem PW.pt{e:da}{t:TT}(h:PW X e t):PT X e t:=h _
noncomputable def PA(X:Cx)(es:List da)(t:TA):Prop:=∀(pos:Pos)(pins:List (b_×Obj))(s:bx)(σ:St)(H:Hp)(Q:List V->Hp->Prop),Inv X pins σ H s->t σ H Q->cH (cM X.prog X.w) X.A (spliced (fS pos (cj es X.env))) (AP X pins σ Q) X.xe s
noncomputable def PS(X:Cx)(st:ek)(t:TS):Prop:=∀(pins:List (b_×Obj))(s:bx)(σ:St)(H:Hp)(D:Ends),Inv X pins σ H s->t D σ H->cH (cM X.prog X.w) X.A (exec st X.env) (SP X pins D) X.xe s
noncomputable def qp(X:Cx)(st:List ek)(t:TS):Prop:=∀(pins:List (b_×Obj))(s:bx)(σ:St)(H:Hp)(D:Ends),Inv X pins σ H s->t D σ H->cH (cM X.prog X.w) X.A (execs st X.env) (SP X pins D) X.xe s
theorem cN{b:Type}{t:Sem b}{Q c:b->bx->Prop}{E:bd->bx->Prop}(h:cH M A t Q E s)(e:∀a s,Q a s->c a s):cH M A t c E s:=dS h e λ_ _ x=>x
section
variable{X:Cx}
theorem bin{a b:da}{k l:TE}(n:PE X a k)(o:PE X b l){σ:St}{R:V->V->Hp->Prop}(I:Inv X pins σ H s)(h:k σ H λx j=>l σ j λy c=>R x y c){m:Type}{Q:m->bx->Prop}{f:bd->bd->Sem m}(p:∀v u s2 x y c,Inv X pins σ c s2->RelV x v->RelV y u->R x y c->cH (cM X.prog X.w) X.A (f v u) Q X.xe s2):cH (cM X.prog X.w) X.A (eg a X.env) (λv e=>cH (cM X.prog X.w) X.A (eg b X.env) (λu g=>cH (cM X.prog X.w) X.A (f v u) Q X.xe g) X.xe e) X.xe s:=by refine cN (n pins s σ H _ I h) λv s1⟨x,j,I1,r1,q1⟩=>?_;refine cN (o pins s1 σ j _ I1 q1) λu s2⟨y,c,I2,r2,q2⟩=>?_;exact p v u s2 x y c I2 r1 r2 q2
noncomputable def V9(i:Nat):TE:=λσ H Q=>∃v,σ[i]?=ap (ap v)/\Q v H
noncomputable def tC(v:V):TE:=λ_ H Q=>Q v H
theorem gb{x:Str}(f:X.N[i]?=ap x)(g:vR X.env.scope x)(hd:(x==("__debug__":Str))=av:=by decide)(b:(x==("__classdict__":Str))=av:=by decide):PE X (.Name x pos) (V9 i):=by
 intro pins s σ H Q I h;obtain⟨v,e,h⟩:=h;obtain⟨m,j,k⟩:=I.loc;obtain⟨u,r,l⟩:=k i x v f e g;have fin:EP X pins σ Q u s:=⟨v,H,I,r,h⟩;rcases l with⟨hk,n⟩|⟨hk,c,hc,a⟩;.exact wpAny_Name (p_ I.ok.kind hk j n fin) hd
 . rcases hk with hk|hk;.exact wpAny_Name (qA I.ok.kind hk hc a fin) hd
   .exact wpAny_Name (wpAny_loadName_free I.ok.kind hk hc a fin b) hd
theorem oM{i j pos}:PE X (.Constant (.int i) j pos) (tC (.int i)):=λ_ _ _ H _ I h=>wpAny_Constant_int ⟨.int i,H,I.tok _,⟨_,rfl⟩,h⟩
theorem J4{b j pos}:PE X (.Constant (.bool b) j pos) (tC (.bl b)):=λ_ _ _ H _ I h=>Constant_bool ⟨.bl b,H,I,rfl,h⟩
theorem Xh{j pos}:PE X (.Constant .none j pos) (tC .non):=λ_ _ _ H _ I h=>Constant_none ⟨.non,H,I,rfl,h⟩
theorem Cd{x j pos}:PE X (.Constant (.str x) j pos) (tC (.str x)):=λ_ _ _ H _ I h=>Calls.Constant_str ⟨.str x,H,I.tok _,⟨_,rfl⟩,h⟩
noncomputable def Gl(X:Cx)(x:Str):Prop:=X.env.kindOf x=ap .globalImplicit
theorem sJ{E:bd->bx->Prop}{σ:St}{x:Str}{u:bd}{Q:bd->bx->Prop}(I:Inv X pins σ H s)(a:Gl X x)(b:X.mg x=ap u)(h:Q u s)(hd:(x==("__debug__":Str))=av:=by decide):cH (cM X.prog X.w) X.A (eg (.Name x pos) X.env) Q E s:=mM I.ok.kind a (Calls.loadGlobal_global (by rw[I.ok.glob];exact I.mod.glob.keeps I.bk) b h) hd
theorem lq{E:bd->bx->Prop}{σ:St}{x:Str}{u:bd}{Q:bd->bx->Prop}(I:Inv X pins σ H s)(a:Gl X x)(b:X.mg x=none)(c:ez x=ap u)(h:Q u s)(e:x≠"__name__":=by decide)(hd:(x==("__debug__":Str))=av:=by decide):cH (cM X.prog X.w) X.A (eg (.Name x pos) X.env) Q E s:=by obtain⟨g,h1,f⟩:=I.mod.blt;exact mM I.ok.kind a (Calls.loadGlobal_builtin (by rw[I.ok.glob];exact I.mod.glob.keeps I.bk) b (by rw[I.ok.blt];exact h1.keeps I.bk) ((f x e).trans c) h) hd
theorem jd{x:Str}{v:V}{u:bd}(a:Gl X x)(b:X.mg x=ap u)(r:RelV v u)(hd:(x==("__debug__":Str))=av:=by decide):PE X (.Name x pos) (tC v):=λ_ _ _ H _ I h=>sJ I a b ⟨v,H,I,r,h⟩ hd
theorem sI{x:Str}{v:V}{u:bd}(a:Gl X x)(b:X.mg x=none)(c:ez x=ap u)(r:RelV v u)(e:x≠"__name__":=by decide)(hd:(x==("__debug__":Str))=av:=by decide):PE X (.Name x pos) (tC v):=λ_ _ _ H _ I h=>lq I a b c ⟨v,H,I,r,h⟩ e hd
noncomputable def t2I(a b:TE)(k:Int->Int->Hp->Prop):St->Hp->Prop:=λσ H=>a σ H λx c=>b σ c λy e=>∃i j,x=.int i/\y=.int j/\k i j e
variable{a b:da}{ta tb:TE}{pos:Pos}
noncomputable def PC(X:Cx)(op:ny)(a b:da)(t:TE):Prop:=∀(pins:List (b_ × Obj))(s:bx)(σ:St)(H:Hp)(Q:VK),Inv X pins σ H s->t σ H Q->cH (cM X.prog X.w) X.A (eg a X.env) (λv c=>cH (cM X.prog X.w) X.A (eg b X.env) (λu e=>cH (cM X.prog X.w) X.A (ec op v u) (EP X pins σ Q) X.xe e) X.xe c) X.xe s
theorem aak{op:ny}{es:List da}{k:Nat}{p:Pos}(c:(op==ol)=av)(e:(op==l_)=av):fq op (.Set es k p)=av:=by show(k==0&&(op==ol||op==l_)&&_)=av;rw[c,e];cases(k==0)<;>rfl
theorem Kz(b:da)(h:op≠.In)(c:op≠.NotIn):fq op b=av:=by
 have e:(op==ol)=av:=by cases op<;>first|rfl|exact absurd rfl h
 have f:(op==l_)=av:=by cases op<;>first|rfl|exact absurd rfl c
 cases b<;>first|rfl|exact aak e f
noncomputable def abV(p:Int->Int->Bool)(ta tb:TE):TE:=λσ H Q=>t2I ta tb (λi j c=>Q (.bl (p i j)) c) σ H
noncomputable abbrev afm:TE->TE->TE:=abV λi j=>decide (i=j)
theorem XJ{p:Int->Int->Bool}(c:PE X a ta)(e:PE X b tb)(rule:∀(i j:Int)(t u:Tok)(Q:bd->bx->Prop)(s:bx),Q (.bool (p i j)) s->cH (cM X.prog X.w) X.A (ec op (.int i t) (.int j u)) Q X.xe s):PC X op a b (abV p ta tb):=by intro pins s σ H Q I h;refine bin c e I h λv u s2 x y f g k l q=>?_;obtain⟨i,j,rfl,rfl,q⟩:=q;obtain⟨t,rfl⟩:=k;obtain⟨t',rfl⟩:=l;exact rule i j t t' _ s2 ⟨.bl _,f,g,rfl,q⟩
theorem Us(c:PE X a ta)(e:PE X b tb):PC X .Eq a b (afm ta tb):=XJ c e λ_ _ _ _ _ _ h=>eq_int (by rw[Bool.beq_eq_decide_eq];exact h)
noncomputable def tB(t:TE):TT:=λσ H Q=>t σ H λx e=>∃c,x=.bl c/\Q c e
theorem Jm{t:TE}(h:PC X op a b t)(h1:fq op b=av:=by first|(apply Kz<;>decide)|rfl):PT X (.Compare a [op] [b] pos) (tB t):=by intro pins s σ H Q I e;refine p7 (cN (h pins s σ H _ I e) λv s1 h1=>cN h1 λu s2 f=>cN f λc s3⟨x,H1,I1,r1,q1⟩=>?_) h1;obtain⟨d,rfl,q⟩:=q1;cases r1;exact fY ⟨H1,I1,q⟩
theorem JB{e:da}{t:TE}(h:PE X e t)(he:∀c,isTrue e X.env c=(do let v<-c;pp e.pos;jp [v] (truthy v)):=by intro _;rfl):PT X e (tB t):=by intro pins s σ H Q I f;refine isTrue_plain (cN (h pins s σ H _ I f) λv s1⟨x,H1,I1,r1,q1⟩=>?_) (he _);obtain⟨d,rfl,q⟩:=q1;cases r1;exact fY ⟨H1,I1,q⟩
variable{tA tB':TT}{rest:List da}
noncomputable def agG(t u:TT):TT:=λσ H Q=>t σ H λc e=>if c=bj then u σ e Q else Q av e
noncomputable def tOr(t u:TT):TT:=λσ H Q=>t σ H λc e=>if c=bj then Q bj e else u σ e Q
noncomputable def afo(t:TT):TT:=λσ H Q=>t σ H λc e=>Q (!c) e
theorem Eo(f:PT X a tA):PW X (.BoolOp .And [a] pos) tA:=by intro wh pins s σ H Q I h;refine isTrue_and (cN (f pins s σ H Q I h) λc s1 e=>?_);cases c with|true=>exact isTrue_and_nil e|false=>exact e
theorem Vr(f:PT X a tA):PW X (.BoolOp .Or [a] pos) tA:=by intro wh pins s σ H Q I h;refine isTrue_or (cN (f pins s σ H Q I h) λc s1 e=>?_);cases c with|false=>exact isTrue_or_nil e|true=>exact e
theorem JW(f:PT X a tA)(g:PW X (.BoolOp .And (b::rest) pos) tB'):PW X (.BoolOp .And (a::b::rest) pos) (agG tA tB'):=by intro wh pins s σ H Q I h;refine isTrue_and (cN (f pins s σ H _ I h) λc s1⟨e,I1,q1⟩=>?_);cases c with|true=>exact g wh pins s1 σ e Q I1 q1|false=>exact⟨e,I1,q1⟩
theorem aaM(f:PT X a tA)(g:PW X (.BoolOp .Or (b::rest) pos) tB'):PW X (.BoolOp .Or (a::b::rest) pos) (tOr tA tB'):=by intro wh pins s σ H Q I h;refine isTrue_or (cN (f pins s σ H _ I h) λc s1⟨e,I1,q1⟩=>?_);cases c with|true=>exact⟨e,I1,q1⟩|false=>exact g wh pins s1 σ e Q I1 q1
theorem VM(e:PT X a tA):PT X (.UnaryOp .Not a pos) (afo tA):=by intro pins s σ H Q I h;exact isTrue_not (e pins s σ H (λc f=>Q (!c) f) I h)
noncomputable def ab4(ta tb:TE):TE:=λσ H Q=>ta σ H λx e=>∃c,x=.bl c/\if c=bj then tb σ e Q else Q (.bl av) e
noncomputable def abK(ta:TE):TE:=λσ H Q=>ta σ H λx e=>∃c,x=.bl c/\Q (.bl (!c)) e
theorem Wj{op}{t:TE}(h:PE X a t):PE X (.BoolOp op [a] pos) t:=λpins s σ H Q I c=>BoolOp_one (h pins s σ H Q I c)
theorem W3(f:PE X a ta)(g:PE X (.BoolOp .And (b::rest) pos) tb):PE X (.BoolOp .And (a::b::rest) pos) (ab4 ta tb):=by intro pins s σ H Q I h;refine BoolOp_and (cN (f pins s σ H _ I h) λv s1⟨x,H1,I1,r1,e⟩=>?_);obtain⟨c,rfl,e⟩:=e;cases r1;refine fY ?_;cases c with|true=>exact g pins s1 σ H1 Q I1 e|false=>exact⟨.bl av,H1,I1,rfl,e⟩
theorem Vf(f:PE X a ta):PE X (.UnaryOp .Not a pos) (abK ta):=by intro pins s σ H Q I h;refine UnaryOp_ (cN (f pins s σ H _ I h) λv s1⟨x,H1,I1,r1,e⟩=>?_);obtain⟨c,rfl,e⟩:=e;cases r1;exact not_of (fY ⟨.bl (!c),H1,I1,rfl,e⟩)
noncomputable def tIf(t:TT)(ta tb:TE):TE:=λσ H Q=>t σ H λc e=>if c=bj then ta σ e Q else tb σ e Q
theorem Js{c:da}(hc:PT X c tA)(f:PE X a ta)(g:PE X b tb):PE X (.IfExp c a b pos) (tIf tA ta tb):=by intro pins s σ H Q I h;refine wpAny_IfExp (cN (hc pins s σ H _ I h) λd s1⟨e,I1,q1⟩=>?_);cases d with|true=>exact f pins s1 σ e Q I1 q1|false=>exact g pins s1 σ e Q I1 q1
end
noncomputable def gq(K:PySem.W.Frag)(H:Hp)(a:b_)(xs:List V):Prop:=Rd H a (.lst xs)\/∃(o:Obj)(b:Array bd)(n:Nat),K.lookup a=ap o/\o.cls=.type "list"/\o.dict=none/\o.data=.seq b n/\b.size<=sizeLine/\Vals xs b.toList
noncomputable def nU(K:PySem.W.Frag)(H:Hp)(a:b_)(xs:List V):Prop:=Rd H a (.tup xs)\/∃(o:Obj)(b:Array bd)(n:Nat),K.lookup a=ap o/\o.cls=.type "tuple"/\o.data=.seq b n/\b.size<=sizeLine/\Vals xs b.toList
noncomputable def afy:bd->Option V|.none=>ap .non|.bool b=>ap (.bl b)|.int i _=>ap (.int i)|.str x _=>ap (.str x)|.bytes b _=>ap (.byt b)|.float b _=>ap (.flt b)|.ref a=>ap (.ref a)|.type n=>ap (.ty n)|_=>none
theorem RelV.abs{x:V}{u:bd}(r:RelV x u):afy u=ap x:=by cases x with|non=>cases r;rfl|bl _=>cases r;rfl|int _=>obtain⟨t,rfl⟩:=r;rfl|str _=>obtain⟨t,rfl⟩:=r;rfl|byt _=>obtain⟨t,rfl⟩:=r;rfl|flt _=>obtain⟨t,rfl⟩:=r;rfl|ref _=>cases r;rfl|ty _=>cases r;rfl
theorem RelV.inj{x y:V}{u:bd}(r:RelV x u)(q:RelV y u):x=y:=ey (r.abs.symm.trans q.abs)
theorem Vals.inj:∀{xs ys:List V}{us:List bd},Vals xs us->Vals ys us->xs=ys|_,_,_,.nil,.nil=>rfl|_,_,_,.cons r t,.cons a t'=>by rw[r.inj a,Vals.inj t t']
section
variable{X:Cx}{pins:List (b_×Obj)}{σ:St}{H:Hp}{s:bx}{a:b_}{xs ys:List V}
theorem gq.of(h:H a=ap (.lst xs)):gq K H a xs:=.inl (.inl h)
theorem nU.of(h:H a=ap (.tup xs)):nU K H a xs:=.inl (.inl h)
theorem Inv.list(I:Inv X pins σ H s)(h:gq X.K H a xs):∃b:List bd,Vals xs b/\PlainL s.heap a b.toArray/\xs.length<=sizeLine:=by
 rcases h with h|⟨o,b,n,c,hc,hd,hs,hz,r⟩;.obtain⟨z,b,n,r,e⟩:=h.ok I.hok;exact⟨b,r,⟨_,n,e,rfl,rfl,rfl⟩,z⟩
 .refine⟨b.toList,r,⟨o,n,I.Pz a o c,hc,hd,by simpa using hs⟩,?_⟩;have e:=r.length;simp only[iS]at e;lia
theorem Inv.tuple(I:Inv X pins σ H s)(h:nU X.K H a xs):∃b:List bd,Vals xs b/\oN s.heap a b.toArray/\xs.length<=sizeLine:=by
 rcases h with h|⟨o,b,n,c,hc,hs,hz,r⟩;.obtain⟨z,b,r,p⟩:=h.ok I.hok;exact⟨b,r,p,z⟩
 .refine⟨b.toList,r,⟨o,I.Pz a o c,hc,n,by simpa using hs⟩,?_⟩;have e:=r.length;simp only[iS]at e;lia
theorem Inv.vm(I:Inv X pins σ H s)(h:gq X.K H a xs)(h':gq X.K H a ys):xs=ys:=by
 obtain⟨b,r,⟨o,n,e,_,_,d⟩,_⟩:=I.list h;obtain⟨its',f,⟨g,j,c,_,_,d'⟩,_⟩:=I.list h';rw[e]at c;cases c;rw[d]at d';injection d' with d1 _;have:b=its':=by simpa using congrArg toList d1
 subst this;exact r.inj f
theorem Inv.qw(I:Inv X pins σ H s)(h:nU X.K H a xs)(h':nU X.K H a ys):xs=ys:=by
 obtain⟨b,r,⟨o,e,_,n,d⟩,_⟩:=I.tuple h;obtain⟨its',f,⟨g,c,_,j,d'⟩,_⟩:=I.tuple h';rw[e]at c;cases c;rw[d]at d';injection d' with d1 _;have:b=its':=by simpa using congrArg toList d1
 subst this;exact r.inj f
end
noncomputable abbrev Cx.wish(X:Cx)(E:bd->bx->Prop):Cx:={X with xe:=E}
noncomputable abbrev Cx.nox(X:Cx):Cx:=X.wish λ_ _=>False
theorem Cx.Ok.wish{X:Cx}(ok:X.Ok)(E:bd->bx->Prop):(X.wish E).Ok:=⟨ok.mod,ok.kind,ok.glob,ok.blt,ok.above,ok.inj,ok.has,ok.cab,ok.hd,ok.frames,ok.T4,ok.Z1,ok.bs,ok.IK,ok.yP,ok.Ba,ok.oW,ok.Om⟩
theorem Cx.Ok.mV{E:bd->bx->Prop}(ok:(X.wish E).Ok):X.Ok:=⟨ok.mod,ok.kind,ok.glob,ok.blt,ok.above,ok.inj,ok.has,ok.cab,ok.hd,ok.frames,ok.T4,ok.Z1,ok.bs,ok.IK,ok.yP,ok.Ba,ok.oW,ok.Om⟩
section
variable{X:Cx}{pins:List (b_×Obj)}{σ:St}{H:Hp}{s:bx}{E:bd->bx->Prop}
theorem Inv.wish(I:Inv X pins σ H s)(E:bd->bx->Prop):Inv (X.wish E) pins σ H s:=⟨I.ok.wish E,I.os,I.bare,I.base,I.loc,I.cell,I.free,I.iQ,I.pin,I.hok,I.len⟩
theorem Inv.mV(I:Inv (X.wish E) pins σ H s):Inv X pins σ H s:=⟨I.ok.mV,I.os,I.bare,I.base,I.loc,I.cell,I.free,I.iQ,I.pin,I.hok,I.len⟩
theorem SP.mV{D:Ends}{f:Flow}{a:bx}(h:SP (X.wish E) pins D f a):SP X pins D f a:=by cases f with|next=>obtain⟨σ',H',I,q⟩:=h;exact⟨σ',H',I.mV,q⟩|brk=>obtain⟨σ',H',I,q⟩:=h;exact⟨σ',H',I.mV,q⟩|cont=>obtain⟨σ',H',I,q⟩:=h;exact⟨σ',H',I.mV,q⟩|ret u=>obtain⟨v,σ',H',I,r,q⟩:=h;exact⟨v,σ',H',I.mV,r,q⟩
theorem qp.nox{st:List ek}{t:TS}(h:qp X.nox st t):qp X st t:=λpins s σ H D I a=>dS (h pins s σ H D (I.wish _) a) (λ_ _ q=>q.mV) λ_ _ z=>e_ z
end
section
variable{X:Cx}{st:ek}{rest:List ek}{t u:TS}{e:da}{te:TE}{pos:Pos}
noncomputable def abJ:TS:=λD σ H=>D.nx σ H
noncomputable def ahv(t u:TS):TS:=λD σ H=>t {D with nx:=u D} σ H
theorem su:qp X [] abJ:=λ_ _ σ H _ I h=>i8 ⟨σ,H,I,h⟩
theorem jm(h1:PS X st t)(a:qp X rest u):qp X (st::rest) (ahv t u):=by intro pins s σ H D I h;refine wpAny_execs_cons (cN (h1 pins s σ H {D with nx:=u D} I h) λf s1 q=>?_);cases f with|next=>obtain⟨σ',H',b,q⟩:=q;exact a pins s1 σ' H' D b q|ret v=>exact q|brk=>exact q|cont=>exact q
theorem Fw(h1:PS X st t):qp X [st] t:=by intro pins s σ H D I h;refine wpAny_execs_cons (cN (h1 pins s σ H D I h) λf s1 q=>?_);cases f with|next=>exact i8 q|ret v=>exact q|brk=>exact q|cont=>exact q
theorem Inv.quiet{σ:St}(I:Inv X pins σ H s):interactive X.env=av:=by simp[interactive,I.ok.kind]
noncomputable def aaI(te:TE):TS:=λD σ H=>te σ H λ_ a=>D.nx σ a
theorem tG(he:PE X e te)(hs:eP e none pos.line X.env=eL av:=by rfl):PS X (.Expr e pos) (aaI te):=by intro pins s σ H D I h;exact wpAny_Expr_any (cN (he pins s σ H _ I h) λv s1⟨x,H1,I1,r1,q1⟩=>⟨σ,H1,I1,q1⟩) I.quiet hs
noncomputable def aft(te:TE):TS:=λD σ H=>te σ H D.rt
theorem Cv(he:PE X e te):PS X (.Return (ap e) pos) (aft te):=by intro pins s σ H D I h;exact wpAny_Return_some (cN (he pins s σ H _ I h) λv s1⟨x,H1,I1,r1,q1⟩=>⟨x,σ,H1,I1,r1,q1⟩)
noncomputable def agT(c:TT)(t u:TS):TS:=λD σ H=>c σ H λb a=>if b=bj then t D σ a else u D σ a
theorem FT{c:da}{a b:List ek}{f:TT}(hc:PT X c f)(j:qp X a t)(k:qp X b u):PS X (.If c a b pos) (agT f t u):=by intro pins s σ H D I h;refine wpAny_If (cN (hc pins s σ H _ I h) λd s1⟨g,I1,q1⟩=>?_);cases d with|true=>exact j pins s1 σ g D I1 q1|false=>exact k pins s1 σ g D I1 q1
noncomputable def Wa:TS:=λ_ _ _=>False
theorem uO:PS X st Wa:=λ_ _ _ _ _ _ h=>h.elim
end
noncomputable abbrev TG:=V->St->Hp->(St->Hp->Prop)->Prop
noncomputable abbrev Iw:=List V->St->Hp->(St->Hp->Prop)->Prop
noncomputable def PG(X:Cx)(a:da)(t:TG):Prop:=∀(pins:List (b_ × Obj))(s:bx)(σ:St)(H:Hp)(v:V)(u:bd)(Q:St->Hp->Prop),Inv X pins σ H s->RelV v u->t v σ H Q->cH (cM X.prog X.w) X.A (ku a X.env u) (λ_ b=>∃σ' H',Inv X pins σ' H' b/\Q σ' H') X.xe s
noncomputable def PGs(X:Cx)(a:List da)(t:Iw):Prop:=∀(pins:List (b_ × Obj))(s:bx)(σ:St)(H:Hp)(vs:List V)(us:List bd)(Q:St->Hp->Prop),Inv X pins σ H s->Vals vs us->t vs σ H Q->cH (cM X.prog X.w) X.A (oy ((iO a X.env).map (·.2)) us) (λ_ b=>∃σ' H',Inv X pins σ' H' b/\Q σ' H') X.xe s
noncomputable abbrev Mt:=V->V->V->Hp->(Hp->Prop)->Prop
noncomputable def Vk(X:Cx)(t:Mt):Prop:=∀(pins:List (b_ × Obj))(s:bx)(σ:St)(H:Hp)(o i v:V)(a iv u:bd)(Q:Hp->Prop),Inv X pins σ H s->RelV o a->RelV i iv->RelV v u->t o i v H Q->cH (cM X.prog X.w) X.A (nB a iv u) (λ_ b=>∃H',Inv X pins σ H' b/\Q H') X.xe s
noncomputable abbrev Yv:=V->V->Hp->VK->Prop
noncomputable def S8(X:Cx)(op:lx)(t:Yv):Prop:=∀(pins:List (b_ × Obj))(s:bx)(σ:St)(H:Hp)(x y:V)(v u:bd)(Q:VK),Inv X pins σ H s->RelV x v->RelV y u->t x y H Q->cH (cM X.prog X.w) X.A (inplaceOp op v u) (EP X pins σ Q) X.xe s
section
variable{X:Cx}{pos:Pos}
noncomputable def lZ(i:Nat):TG:=λv σ H Q=>Q (σ.set i (ap v)) H
theorem aB{x:Str}(a:X.N.Nodup)(hi:X.N[i]?=ap x)(b:Loc X.env.scope x)(c:X.fn x=bj\/X.env.scope.names.lookup x=ap .local:=by first|(left;rfl)|(right;rfl)|assumption):PG X (.Name x pos) (lZ i):=by intro pins s σ H v u Q I r h;exact wpAny_assign_Name (kZ I a hi b r (λf e=>⟨_,H,e,h⟩) c)
noncomputable def Wm:Iw:=λvs σ H Q=>vs=[]/\Q σ H
noncomputable def JF(t:TG)(u:Iw):Iw:=λvs σ H Q=>∃v r,vs=v::r/\t v σ H λσ' H'=>u r σ' H' Q
theorem bQ:PGs X [] Wm:=by intro pins s σ H vs us Q I r h;obtain⟨e,h⟩:=h;subst e;cases r;exact assignInOrder_nil ⟨σ,H,I,h⟩
theorem aC{e:da}{es:List da}{t:TG}{u:Iw}(h1:PG X e t)(b:PGs X es u)(hs:(iO (e::es) X.env).map (·.2)=ku e X.env::(iO es X.env).map (·.2):=by rfl):PGs X (e::es) (JF t u):=by intro pins s σ H vs us Q I r h;obtain⟨v,g,c,h⟩:=h;subst c;cases r with|cons r f=>rw[hs];refine mf (cN (h1 pins s σ H _ _ _ I r h) λ_ s1⟨a,H1,I1,q1⟩=>?_);exact b pins s1 a H1 _ _ Q I1 f q1
noncomputable def Va(K:PySem.W.Frag)(n:Nat)(t:Iw):TG:=λv σ H Q=>∃a xs,v=.ref a/\nU K H a xs/\xs.length=n/\t xs σ H Q
theorem cT{es:List da}{k:Nat}{t:Iw}{n:Nat}(hc:X.calm=bj)(h:PGs X es t)(g:(iO es X.env).length=n:=by rfl)(hst:(iO es X.env).findIdx? (·.1)=none:=by rfl):PG X (.Tuple es k pos) (Va X.K n t):=by intro pins s σ H v u Q I r c;obtain⟨a,xs,j,l,m,c⟩:=c;subst j;cases r;obtain⟨p,f,q,hz⟩:=I.tuple l;refine assign_Tuple_tuple (I.ok.hd hc) q (by simp[g,<-m,f.length]) hst λh' x=>?_;have y:Inv X pins σ H {s with heap:=h'}:=I.kept (t':=s.toks) λb o e=>x b o (dP (df e)) e;exact h pins _ σ H xs _ Q y (by simpa using f) c
noncomputable def ag4(to a:TE)(t:Mt):TG:=λv σ H Q=>to σ H λo b=>a σ b λi c=>t o i v c λe=>Q σ e
theorem XX{o i:da}{to b:TE}{t:Mt}(ho:PE X o to)(hi:PE X i b)(hs:Vk X t)(c:∀ v,ku (.Subscript o i pos) X.env v=(do
  let a<-jp [v] (eg o X.env)let iv<-jp [v,a] (eg i X.env)pp pos
  jp [v,a,iv] (nB a iv v)release [v,a,iv] []):=by intro _;rfl):PG X (.Subscript o i pos) (ag4 to b t):=by intro pins s σ H v u Q I r h;rw[c];refine a_ (fI (cN (ho pins s σ H _ I h) λa s1⟨x,H1,I1,r1,q1⟩=>?_));refine a_ (fI (cN (hi pins s1 σ H1 _ I1 q1) λiv s2⟨y,H2,I2,r2,q2⟩=>?_));refine a_ (lT (a_ (fI (cN (hs pins s2 σ H2 x y v a iv u _ I2 r1 r2 r q2) λ_ s3⟨e,I3,q3⟩=>?_))));exact wpAny_release ⟨σ,e,I3,q3⟩
noncomputable def WW(te:TE)(g:TG):TS:=λD σ H=>te σ H λx a=>g x σ a D.nx
theorem Ko{e:da}{g:TG}(he:PE X e te)(a:PG X tg g)(hs:ko [tg] e pos.line X.env=eL av:=by rfl)(b:kq [tg] e X.env=eL none:=by rfl)(h1:(iO [tg] X.env).map (·.2)=[ku tg X.env]:=by rfl):PS X (.Assign [tg] e pos) (WW te g):=by intro pins s σ H D I h;refine wpAny_Assign_stores (cN (he pins s σ H _ I h) λv s1⟨x,H1,I1,r1,q1⟩=>?_) hs b;rw[h1];exact cN (a pins s1 σ H1 x v _ I1 r1 q1) λ_ s2 q=>q
theorem jX{x:Str}{e:da}{a:Pos}(b:X.N.Nodup)(hi:X.N[i]?=ap x)(c:Loc X.env.scope x)(he:PE X e te)(hs:eP e (ap (.Name x a)) pos.line X.env=eL av:=by rfl)(f:X.fn x=bj\/X.env.scope.names.lookup x=ap .local:=by first|(left;rfl)|(right;rfl)|assumption):PS X (.Assign [.Name x a] e pos) (WW te (lZ i)):=by intro pins s σ H D I h;refine wpAny_Assign_Name (cN (he pins s σ H _ I h) λv s1⟨y,H1,I1,r1,q1⟩=>?_) hs;exact kZ I1 b hi c r1 (λs2 g=>⟨_,H1,g,q1⟩) f
noncomputable def afk(i j:Nat)(a:TA):TS:=λD σ H=>a σ H λvs b=>∃v w,vs=[v,w]/\D.nx ((σ.set i (ap v)).set j (ap w)) b
theorem W5{j:Nat}{x y:Str}{a b:da}{r:TA}{g k pt:Pos}{kt k2 Yj}(hc:X.calm=bj)(t:X.N.Nodup)(hi:X.N[i]?=ap x)(C:X.N[j]?=ap y)(l:i≠j)(u:X.env.scope.names.lookup x=ap .local)(z:X.env.scope.names.lookup y=ap .local)(E:PA X [a,b] r)(G:kq [.Tuple [.Name x g,.Name y k] kt pt] (.Tuple [a,b] k2 Yj) X.env=eL (ap [x,y]))(hs:ko [.Tuple [.Name x g,.Name y k] kt pt] (.Tuple [a,b] k2 Yj) pos.line X.env=eL av:=by rfl):PS X (.Assign [.Tuple [.Name x g,.Name y k] kt pt] (.Tuple [a,b] k2 Yj) pos) (afk i j r):=by
 intro pins s σ H D I h;rw[exec_Assign_arm];refine a_ (lT ?_);rw[hs];refine a_ (cv ?_);rw[if_neg (by decide)];refine a_ (Tuple_ (cN (E _ pins s σ H _ I h) λus s1⟨vs,H1,I1,r1,m⟩=>?_));obtain⟨v,w,J,m⟩:=m;subst J;obtain⟨c,f,rfl,L,O⟩:∃c f,us=[c,f]/\RelV v c/\RelV w f:=by cases r1 with|cons p q=>cases q with|cons p' Q=>cases Q;exact⟨_,_,rfl,p,p'⟩
 refine ew ?_ (by show 2<=sizeLine;decide);have U:Inv X pins σ H1 {s1 with heap:=s1.heap.push {cls:=.type "tuple",data:=.seq [c,f].toArray}}:=I1.kept (t':=s1.toks) λb o e=>iZ e;rw[G];refine a_ (cv ?_);show cH (cM X.prog X.w) X.A (do rule "assign.swapped-stores";let items<-unpackItems (.ref s1.heap.objs.size) 2 none;oy [λv=>mx X.env y v,λv=>mx X.env x v] items.reverse;eL Flow.next) _ _ _;refine a_ (jD (a_ (unpackItems_tuple (items:=#[c,f]) (I.ok.hd hc) (kH s1.heap _) λh' n=>?_)));have W:=U.kept (h':=h') (t':=s1.toks) λb o e=>n b o (dP (df e)) e;show cH _ _ (oy [λv=>mx X.env y v,λv=>mx X.env x v] [f,c]>>=λ_=>eL Flow.next) _ _ _;refine a_ (mf (wpAny_bindName (kZ W t C (.inl z) O (λs2 Y=>?_) (.inr z))));refine mf (wpAny_bindName (kZ Y t hi (.inl u) L (λs3 B=>assignInOrder_nil (cv ?_)) (.inr u)));rw[List.set_comm _ _ (fk l)]at B;exact⟨_,H1,B,m⟩
noncomputable def ahi(i:Nat)(te:TE)(a:Yv):TS:=λD σ H=>∃x,σ[i]?=ap (ap x)/\te σ H λy b=>a x y b λz c=>D.nx (σ.set i (ap z)) c
theorem Xo{x:Str}{e:da}{op:lx}{o:Yv}{b:Pos}(p:X.N.Nodup)(hi:X.N[i]?=ap x)(j:Loc X.env.scope x)(he:PE X e te)(ho:S8 X op o)(q:X.fn x=bj\/X.env.scope.names.lookup x=ap .local:=by first|(left;rfl)|(right;rfl)|assumption):PS X (.AugAssign (.Name x b) op e pos) (ahi i te o):=by
 intro pins s σ H D I h;obtain⟨v,t,h⟩:=h;obtain⟨m,B,C⟩:=I.loc;have n:vR X.env.scope x:=by rcases j with k|k;exact .inl k;exact .inr (.inl k)
 obtain⟨u,r,l⟩:=C i x v hi t n;refine wpAny_AugAssign_Name ?_;have go:cH (cM X.prog X.w) X.A (eg e X.env) (λw f=>cH (cM X.prog X.w) X.A (inplaceOp op u w) (λr g=>cH (cM X.prog X.w) X.A (oz X.env x r) (λ_=>SP X pins D .next) X.xe g) X.xe f) X.xe s:=by refine cN (he pins s σ H _ I h) λw s1⟨y,H1,I1,r1,q1⟩=>?_;refine cN (ho pins s1 σ H1 v y u w _ I1 r r1 q1) λz s2⟨J,H2,I2,r2,q2⟩=>?_;exact kZ I2 p hi j r2 (λs3 E=>⟨_,H2,E,q2⟩) q
 rcases l with⟨hk,G⟩|⟨hk,c,hc,a⟩;.exact p_ I.ok.kind hk B G go
 . rcases hk with hk|hk;.exact qA I.ok.kind hk hc a go
   . rcases j with k|k;.have:X.env.scope.names.lookup x=ap .free:=hk;rw[k]at this;cases this
     .have:X.env.scope.names.lookup x=ap .free:=hk;rw[k]at this;cases this
noncomputable def aat(to b te:TE)(c:V->V->Hp->VK->Prop)(a:Yv)(e:Mt):TS:=λD σ H=>to σ H λo f=>b σ f λi g=>c o i g λx j=>te σ j λy k=>a x y k λz l=>e o i z l λm=>D.nx σ m
noncomputable def aaz(X:Cx)(t:V->V->Hp->VK->Prop):Prop:=∀(pins:List (b_ × Obj))(s:bx)(σ:St)(H:Hp)(o i:V)(a iv:bd)(Q:VK),Inv X pins σ H s->RelV o a->RelV i iv->t o i H Q->cH (cM X.prog X.w) X.A (jv a iv) (EP X pins σ Q) X.xe s
theorem Qh{o i e:da}{to g:TE}{j:V->V->Hp->VK->Prop}{b:Yv}{k:Mt}{op:lx}{c:Pos}(ho:PE X o to)(hi:PE X i g)(m:aaz X j)(he:PE X e te)(n:S8 X op b)(hs:Vk X k)(p:∀a iv new,augStore i a iv new=(do jp [new,a,iv] (nB a iv new);release [new,a,iv] [];eL .next):=by intros;rfl):PS X (.AugAssign (.Subscript o i c) op e pos) (aat to g te j b k):=by intro pins s σ H D I h;refine wpAny_AugAssign_SubscriptAny (cN (ho pins s σ H _ I h) λa s1⟨x1,H1,I1,r1,q1⟩=>?_) p;refine cN (hi pins s1 σ H1 _ I1 q1) λiv s2⟨l,H2,I2,r2,q2⟩=>?_;refine cN (m pins s2 σ H2 x1 l a iv _ I2 r1 r2 q2) λf s3⟨q,H3,I3,r3,q3⟩=>?_;refine cN (he pins s3 σ H3 _ I3 q3) λv s4⟨r,H4,I4,r4,q4⟩=>?_;refine cN (n pins s4 σ H4 q r f v _ I4 r3 r4 q4) λnew s5⟨t,H5,I5,r5,q5⟩=>?_;exact cN (hs pins s5 σ H5 x1 l t a iv new _ I5 r1 r2 r5 q5) λ_ s6⟨u,I6,q6⟩=>⟨σ,u,I6,q6⟩
noncomputable def Zd(f:Int->Int->Int):Yv:=λx y H Q=>∃i j,x=.int i/\y=.int j/\Q (.int (f i j)) H
theorem Vo:S8 X .Add (Zd λi j=>i+j):=by intro pins s σ H x y v u Q I r1 a h;obtain⟨i,j,b,c,q⟩:=h;subst b;subst c;obtain⟨t,rfl⟩:=r1;obtain⟨t',rfl⟩:=a;exact iadd_int ⟨.int _,H,I.tok _,⟨_,rfl⟩,q⟩
theorem U6:S8 X .Sub (Zd λi j=>i-j):=by intro pins s σ H x y v u Q I r1 a h;obtain⟨i,j,b,c,q⟩:=h;subst b;subst c;obtain⟨t,rfl⟩:=r1;obtain⟨t',rfl⟩:=a;exact isub_int ⟨.int _,H,I.tok _,⟨_,rfl⟩,q⟩
end
section
variable{X:Cx}{pos:Pos}
noncomputable def W8(c:TT)(f:TS):TS:=λD σ H=>∃W:Nat->St->Hp->Prop,(∃m,W m σ H)/\∀m σ H,W m σ H->c σ H λb a=>if b=bj then ∃N:St->Hp->Prop,(∀σ' H',N σ' H'->∃e,e<m/\W e σ' H')/\f {D with nx:=N,ct:=N,bk:=D.nx} σ a else D.nx σ a
theorem KY{c:da}{body:List ek}{t:TT}{u:TS}(x:gy (cM X.prog X.w) X.A X.env X.xe)(hc:PT X c t)(C:qp X body u):PS X (.While c body [] pos) (W8 t u):=by intro pins s σ H D I h;obtain⟨W,⟨m0,E⟩,g⟩:=h;refine wpAny_While (codeAny_whileLoop (λn G=>∃σ' H',Inv X pins σ' H' G/\W n σ' H') ?_ m0 ⟨σ,H,I,E⟩);rintro n s1⟨e,y,J,L⟩;refine gS x (cN (hc pins s1 e y _ J (g n e y L)) λb s2⟨z,I2,k⟩=>?_);cases b with
 |true=>obtain⟨N,B,k⟩:=k;rw[if_pos rfl];refine gS x (cN (C pins s2 e z _ I2 k) λf s3 l=>?_);cases f with|next=>obtain⟨a,j,m,o⟩:=l;obtain⟨p,q,r⟩:=B a j o;exact⟨p,q,a,j,m,r⟩|cont=>obtain⟨a,j,m,o⟩:=l;obtain⟨p,q,r⟩:=B a j o;exact⟨p,q,a,j,m,r⟩|brk=>exact l|ret v=>exact l
 |false=>rw[if_neg dc];exact i8 ⟨e,z,I2,k⟩
end
structure It where
 go:Nat->Hp->Prop
 Nm:Nat->Hp->V->Hp->Prop
 stop:Nat->Hp->Prop
noncomputable def qP(X:Cx)(pins:List (b_×Obj))(H:Hp)(b:b_):Prop:=H b=none/\b≠X.env.locals/\b∉X.fs/\(b∈X.ex\/X.s₀.heap.objs.size<=b)/\(∀x c,X.env.cells.lookup x=ap c->c≠b)/\∀p∈X.pn++pins,p.1≠b
theorem Inv.BJ{σ:St}{H':Hp}{b:b_}(I:Inv X pins σ H s)(a:s.heap.objs.size<=b)(f:H' b=none):qP X pins H' b:=by
 refine⟨f,nV (dE I.lt a),I.ag8 a,.inr (gT I.sz a),λx c e z=>?_,λp g z=>?_⟩;.obtain⟨v,q⟩:=I.cell x c e;exact absurd (dE q.lt (by rw[z];exact a)) (g9 _)
 .exact absurd (dE (df (I.pin p g).1) (by rw[z];exact a)) (g9 _)
structure Turn(P:c_)(w:eh)(K:PySem.W.Frag)(tg:da)(J:It)(fp:List b_)(it:b_)(tn:Nat->ef->Prop):Prop where
 mem:it∈fp
 obj:∀i h,tn i h->∀b∈fp,∃o,h.get? b=ap o/\∀v,o.data≠.cell v
 keep:∀i h h',tn i h->(∀b∈fp,∀o,h.get? b=ap o->h'.get? b=ap o)->tn i h'
 item:∀(X:Cx),X.prog=P->X.w=w->X.K=K->X.calm=bj->∀(i:Nat)(pins:List (b_×Obj))(s:bx)(σ:St)(H:Hp)(E:bd->bx->Prop),Inv X pins σ H s->(∀b∈fp,qP X pins H b)->tn i s.heap->J.go i H->cH (cM P w) X.A (nM (.ref it)) (λr s1=>∃u,r=ap u/\cH (cM P w) X.A (kX tg (.ref it) u) (λ_ s2=>∃x H',Inv X pins σ H' s2/\RelV x u/\J.Nm i H x H'/\tn (i+1) s2.heap/\∀b∈fp,H' b=none) E s1) E s
 done:∀(X:Cx),X.prog=P->X.w=w->X.K=K->X.calm=bj->∀(i:Nat)(pins:List (b_×Obj))(s:bx)(σ:St)(H:Hp)(E:bd->bx->Prop),Inv X pins σ H s->(∀b∈fp,qP X pins H b)->tn i s.heap->J.stop i H->cH (cM P w) X.A (nM (.ref it)) (λr s1=>r=none/\Inv X pins σ H s1) E s
 self:∀(A:et)(i:Nat)(s:bx)(Q:bd->bx->Prop)(E:bd->bx->Prop),tn i s.heap->Q (.ref it) s->cH (cM P w) A (nN (.ref it)) Q E s
noncomputable abbrev TI:=St->Hp->(It->Hp->Prop)->Prop
noncomputable def PIE(X:Cx)(pins:List (b_×Obj))(σ:St)(tg:da)(R:It->Hp->Prop)(a:bd)(s2:bx):Prop:=∃(it:b_)(c:List b_)(e:Nat->ef->Prop)(J:It)(H':Hp),a=.ref it/\Inv X pins σ H' s2/\Turn X.prog X.w X.K tg J c it e/\e 0 s2.heap/\(∀b∈c,qP X pins H' b)/\R J H'
noncomputable def PI(X:Cx)(tg iter:da)(a:TI):Prop:=∀(pins:List (b_ × Obj))(s:bx)(σ:St)(H:Hp)(R:It->Hp->Prop),Inv X pins σ H s->a σ H R->cH (cM X.prog X.w) X.A (eg iter X.env) (λv s1=>cH (cM X.prog X.w) X.A (nN v) (PIE X pins σ tg R) X.xe s1) X.xe s
theorem Gg{E:bd->bx->Prop}{it:b_}{u:bd}{o:Obj}{n:String}{vs:Array bd}{Q:Unit->bx->Prop}(ho:s.heap.get? it=ap o)(hc:o.cls=.type n)(hd:o.data=.fields vs)(b:["enumerate","zip","dict_itemiterator","dict_reverseitemiterator","odict_iterator","itertools.zip_longest","itertools.pairwise"].contains n=av)(a:Q () s):cH M A (kX tg (.ref it) u) Q E s:=by unfold kX;cases tg<;>first|exact cv a|(cases u<;>first|exact cv a|(refine a_ (wpAny_load ho ?_);rw[hc,hd];show cH M A (if(["enumerate","zip","dict_itemiterator","dict_reverseitemiterator","odict_iterator","itertools.zip_longest","itertools.pairwise"].contains n&&vs[0]?==ap (hQ _))=bj then _ else _) Q E s;rw[if_neg (by intro h;rw[b,kL]at h;cases h)];exact cv a))
noncomputable def Ws(K:PySem.W.Frag)(a:b_):It:=⟨λi H=>∃xs x,gq K H a xs/\xs[i]?=ap x,λi H x H'=>H'=H/\∀xs,gq K H a xs->xs[i]?=ap x,λi H=>∃xs,gq K H a xs/\xs.length<=i⟩
noncomputable def ZF(K:PySem.W.Frag)(a:b_):It:=⟨λi H=>∃xs x,nU K H a xs/\xs[i]?=ap x,λi H x H'=>H'=H/\∀xs,nU K H a xs->xs[i]?=ap x,λi H=>∃xs,nU K H a xs/\xs.length<=i⟩
noncomputable def YQ(lo:Int)(n:Nat):It:=⟨λi _=>i<n,λi H x H'=>H'=H/\x=.int (lo+i),λi _=>n<=i⟩
theorem Ib{P:c_}(a it:b_):Turn P w K tg (Ws K a) [it] it (λi h=>h.IsListIter it a i)where
 mem:=by simp
 obj:=λi h st b f=>by
  have e:b=it:=by simpa using f
  subst e;obtain⟨o,e,c,d⟩:=st;exact⟨o,e,λv z=>by rw[d]at z;cases z⟩
 keep:=λi h h' st k=>st.at λo e=>k it (by simp) o e;item:=by intro X m n q hc i pins s σ H E I j st r;subst m n q;obtain⟨xs,x,l,t⟩:=r;obtain⟨y,B,p,hz⟩:=I.list l;obtain⟨u,C,G⟩:=B.get t;obtain⟨f0,f1,f2,f3,f4,f5⟩:=j it (by simp);refine wpAny_pyNext_list_item st p.isList (x:=u) (by simpa using C) λh' g J=>?_;have L:Inv X pins σ H {s with heap:=h'}:=I.turned (t':=s.toks) (λb o f e=>(J.2 b f).trans e) f0 f1 f3 f4 f5;obtain⟨o,e,c,d⟩:=id g;exact⟨u,rfl,Gg (s:={s with heap:=h'}) e c d (by decide) ⟨x,H,L,G,⟨rfl,λys N=>by rw[I.vm N l];exact t⟩,g,λb f=>(j b f).1⟩⟩
 done:=by intro X m n q hc i pins s σ H E I j st r;subst m n q;obtain⟨xs,l,t⟩:=r;obtain⟨y,B,p,hz⟩:=I.list l;obtain⟨f0,f1,f2,f3,f4,f5⟩:=j it (by simp);have Q:=B.length;exact wpAny_pyNext_list_end (I.ok.hd hc) st p.isList (by simp;lia) λh' O=>⟨rfl,I.turned (t':=s.toks) (λb o f e=>O b o f e) f0 f1 f3 f4 f5⟩
 self:=λ_ _ _ _ _ st h=>wpAny_pyIter_listiter st h
theorem Cq{P:c_}(a it:b_):Turn P w K tg (ZF K a) [it] it (λi h=>h.IsTupleIter it a i)where
 mem:=by simp
 obj:=λi h st b f=>by
  have e:b=it:=by simpa using f
  subst e;obtain⟨o,e,c,d⟩:=st;exact⟨o,e,λv z=>by rw[d]at z;cases z⟩
 keep:=λi h h' st k=>st.at λo e=>k it (by simp) o e;item:=by intro X n q r hc i pins s σ H E I l st t;subst n q r;obtain⟨xs,x,m,y⟩:=t;obtain⟨g,B,p,hz⟩:=I.tuple m;obtain⟨u,C,G⟩:=B.get y;obtain⟨f0,f1,f2,f3,f4,f5⟩:=l it (by simp);refine wpAny_pyNext_tuple_item st (show s.heap.IsTuple a g.toArray from p) (x:=u) (by simpa using C) λh' j J=>?_;have L:Inv X pins σ H {s with heap:=h'}:=I.turned (t':=s.toks) (λb o f e=>(J.2 b f).trans e) f0 f1 f3 f4 f5;obtain⟨o,e,c,d⟩:=id j;exact⟨u,rfl,Gg (s:={s with heap:=h'}) e c d (by decide) ⟨x,H,L,G,⟨rfl,λys N=>by rw[I.qw N m];exact y⟩,j,λb f=>(l b f).1⟩⟩
 done:=by intro X n q r hc i pins s σ H E I l st t;subst n q r;obtain⟨xs,m,y⟩:=t;obtain⟨g,B,p,hz⟩:=I.tuple m;obtain⟨f0,f1,f2,f3,f4,f5⟩:=l it (by simp);have Q:=B.length;exact wpAny_pyNext_tuple_end (I.ok.hd hc) st (show s.heap.IsTuple a g.toArray from p) (by simp;lia) λh' O=>⟨rfl,I.turned (t':=s.toks) (λb o f e=>O b o f e) f0 f1 f3 f4 f5⟩
 self:=λ_ _ _ _ _ st h=>wpAny_pyIter_tupleiter st h
theorem Cw{P:c_}(it:b_)(lo:Int)(n:Nat):Turn P w K tg (YQ lo n) [it] it (λi h=>IsRangeIter h it (lo+(i:Nat)*1) ((n:Int)-(i:Nat)) 1)where
 mem:=by simp
 obj:=λi h st b a=>by
  have e:b=it:=by simpa using a
  subst e;exact⟨_,st,λv z=>by have q:Data.fields _=Data.cell v:=z;cases q⟩
 keep:=λi h h' st k=>k it (by simp) _ st;item:=by intro X g j l hc i pins s σ H E I f st m;subst g j l;obtain⟨f0,f1,f2,f3,f4,f5⟩:=f it (by simp);have W:=Walks.range (prog:=X.prog) (w:=X.w) (I.ok.hd hc) it lo 1 n;refine W.item i s _ _ m st λv h' p r c kk=>?_;obtain⟨t,rfl⟩:=r;have u:Inv X pins σ H {s with heap:=h',toks:=p}:=I.turned (λb o a e=>kk b o (by simpa using a) e) f0 f1 f3 f4 f5;refine⟨_,rfl,Gg (s:={s with heap:=h',toks:=p}) (n:="range_iterator") c rfl rfl (by decide) ⟨.int (lo+i),H,u,⟨t,?_⟩,⟨rfl,rfl⟩,c,λb a=>(f b a).1⟩⟩;rw[Int.mul_one]
 done:=by intro X g j l hc i pins s σ H E I f st m;subst g j l;obtain⟨f0,f1,f2,f3,f4,f5⟩:=f it (by simp);exact wpAny_pyNext_range_end (I.ok.hd hc) st (by have:n<=i:=m;lia) λh' x=>⟨rfl,I.turned (t':=s.toks) (λb o a e=>x b o a e) f0 f1 f3 f4 f5⟩
 self:=λ_ _ _ _ _ st h=>wpAny_pyIter_rangeiter st h
section
variable{X:Cx}{tg:da}
theorem zP{σ:St}{R:It->Hp->Prop}{E:bd->bx->Prop}{lo hi:Int}{t u v:Tok}{a:Nat}(I:Inv X pins σ H s)(h1:-(2^62)<=lo)(f:lo<2^62)(g:-(2^62)<=hi)(j:hi<2^62)(q:R (YQ lo (hi-lo).toNat) H):cH (cM X.prog X.w) X.A (nN (.ref s.heap.objs.size)) (PIE X pins σ tg R) E {s with heap:=s.heap.push {cls:=.type "range",data:=.fields #[.int lo t,.int hi u,.int 1 v]},toks:=a}:=by
 refine wpAny_pyIter_range (IsRange.new ..) (small_one h1 f g j) ?_;have c:Inv X pins σ H {s with heap:=s.heap.push {cls:=.type "range",data:=.fields #[.int lo t,.int hi u,.int 1 v]},toks:=a}:=I.kept λb o e=>iZ e;refine⟨(s.heap.push {cls:=.type "range",data:=.fields #[.int lo t,.int hi u,.int 1 v]}).objs.size,[(s.heap.push {cls:=.type "range",data:=.fields #[.int lo t,.int hi u,.int 1 v]}).objs.size],_,_,H,rfl,c.kept (t':=a) λb o e=>iZ e,Cw _ lo (hi-lo).toNat,?_,λb k=>?_,q⟩
 . have l:lo+((0:Nat):Int)*1=lo:=by simp
   have m:(((hi-lo).toNat:Nat):Int)-((0:Nat):Int)=Builtin.Range.rangeSize lo hi 1:=by rw[rangeSize_one];split<;>lia
   show IsRangeIter _ _ (lo+((0:Nat):Int)*1) ((((hi-lo).toNat:Nat):Int)-((0:Nat):Int)) 1;rw[l,m];exact dl _ rfl
 . have e:b=(s.heap.push {cls:=.type "range",data:=.fields #[.int lo t,.int hi u,.int 1 v]}).objs.size:=by simpa using k
   subst e;exact c.BJ (eU) (c.hok.fresh (eU))
noncomputable def abQ(a:TA):TI:=λσ H R=>a σ H λvs b=>∃j:Int,vs=[.int j]/\-(2^62)<=j/\j<2^62/\R (YQ 0 j.toNat) b
noncomputable def aaQ(a:TA):TI:=λσ H R=>a σ H λvs b=>∃i j:Int,vs=[.int i,.int j]/\(-(2^62)<=i/\i<2^62/\-(2^62)<=j/\j<2^62)/\R (YQ i (j-i).toNat) b
theorem xj{a:da}{c:TA}{p:Pos}(f:Gl X "range")(g:X.mg "range"=none)(k:PA X [a] c)(hs:cj [a] X.env=[(av,eg a X.env)]:=by rfl):PI X tg (.Call (.Name "range" p) [a] [] pos) (abQ c):=by intro pins s σ H R I h;refine Call_ (lq I f g boot_range (eI (cN (k pos pins s σ H _ I h) λus s1⟨vs,H1,I1,r1,b⟩=>?_) hs rfl));obtain⟨j,e,b,l,q⟩:=b;subst e;cases r1 with|cons r m=>cases m;obtain⟨t,rfl⟩:=r;exact call_range_1 (zP I1 (by lia) (by lia) b l (by simpa using q))
theorem GR{a b:da}{k:TA}{p:Pos}(l:Gl X "range")(m:X.mg "range"=none)(n:PA X [a,b] k)(hs:cj [a,b] X.env=[(av,eg a X.env),(av,eg b X.env)]:=by rfl)(c:cj [b] X.env=[(av,eg b X.env)]:=by rfl):PI X tg (.Call (.Name "range" p) [a,b] [] pos) (aaQ k):=by intro pins s σ H R I h;refine Call_ (lq I l m boot_range (eI (cN (n pos pins s σ H _ I h) λus s1⟨vs,H1,I1,r1,f⟩=>?_) (by rw[hs,c]) (by rw[c];rfl)));obtain⟨i,j,e,⟨f,o,u,v⟩,q⟩:=f;subst e;cases r1 with|cons r g=>cases g with|cons x g=>cases g;obtain⟨t,rfl⟩:=r;obtain⟨t',rfl⟩:=x;exact call_range_2 (zP I1 f o u v q)
noncomputable def agx(c:TI)(g:TG)(e:TS):TS:=λD σ H=>c σ H λJ f=>∃W:Nat->Nat->St->Hp->Prop,(∃m,W 0 m σ f)/\∀i m σ H,W i m σ H->(J.stop i H/\D.nx σ H)\/(J.go i H/\∃N:St->Hp->Prop,(∀σ' H',N σ' H'->∃b,b<m/\W (i+1) b σ' H')/\∀x H',J.Nm i H x H'->g x σ H' λa j=>e {D with nx:=N,ct:=N,bk:=D.nx} a j)
noncomputable def uh(a:List b_)(h:ef):List (b_×Obj):=a.filterMap λb=>(h.get? b).map λo=>(b,o)
theorem lz{a:List b_}{b:b_}{o:Obj}(c:b∈a)(e:h.get? b=ap o):(b,o)∈uh a h:=List.mem_filterMap.mpr ⟨b,c,by rw[e];rfl⟩
theorem Ih{a:List b_}{p:b_×Obj}(c:p∈uh a h):p.1∈a/\h.get? p.1=ap p.2:=by obtain⟨b,f,e⟩:=List.mem_filterMap.mp c;cases q:h.get? b with|none=>rw[q]at e;cases e|some o=>rw[q]at e;have g:(b,o)=p:=ey e;subst g;exact⟨f,q⟩
theorem Inv.pinned{σ:St}{a:List b_}(I:Inv X pins σ H s)(g:∀b∈a,qP X pins H b)(ho:∀b∈a,∃o,s.heap.get? b=ap o/\∀v,o.data≠.cell v):Inv X (pins++uh a s.heap) σ H s:=I.Fo λp j=>(eM.mp j).elim (λz=>I.pin p (eF _ z)) λz=>by obtain⟨c,e⟩:=Ih z;obtain⟨f0,f1,f2,_⟩:=g p.1 c;obtain⟨o,f,d⟩:=ho p.1 c;rw[e]at f;cases f;exact⟨e,f0,f1,f2,d⟩
theorem Inv.pF{a:List (b_×Obj)}{σ:St}(I:Inv X (pins++a) σ H s):Inv X pins σ H s:=I.Fo λp b=>I.pin p (eF _ (fx _ b))
theorem Bj{iter:da}{body:List ek}{U:TI}{g:TG}{Y:TS}(t:gy (cM X.prog X.w) X.A X.env X.xe)(hc:X.calm=bj)(hi:PI X tg iter U)(hg:PG X tg g)(c:qp X body Y)(hs:∀x,eH iter X.env x=eL x:=by intro _;rfl):PS X (.For tg iter body [] pos) (agx U g Y):=by
 intro pins s σ H D I h;refine wpAny_For (cN (hi pins s σ H _ I h) λv s1 h1=>cN h1 λac s2 h2=>?_) hs;obtain⟨it,y,Z,J,H2,e,I2,T,L,f2,W,⟨m0,w0⟩,z⟩:=h2;subst e--what stays bj of the iterator's objects through the loop
 have j:∀{H':Hp},(∀b∈y,H' b=none)->∀b∈y,qP X pins H' b:=λhn b c=>⟨hn b c,(f2 b c).2⟩;refine codeAny_forLoop_any (λn s'=>∃i σ' H',Inv X pins σ' H' s'/\Z i s'.heap/\(∀b∈y,H' b=none)/\W i n σ' H') ?_ m0 ⟨0,σ,H2,I2,L,λb c=>(f2 b c).1,w0⟩;rintro n s3⟨i,k,G,I3,B,C,w3⟩;rcases z i n k G w3 with⟨stop,qn⟩|⟨go,N,hN,step⟩;.refine gS t (cN (T.done X rfl rfl rfl hc i pins s3 k G X.xe I3 (j C) B stop) λr s4⟨hr,I4⟩=>?_);subst hr;exact i8 ⟨k,G,I4,qn⟩
 . refine gS t (cN (T.item X rfl rfl rfl hc i pins s3 k G X.xe I3 (j C) B go) λr s4⟨u,hr,h4⟩=>?_);subst hr;refine gS t (cN h4 λ_ s5⟨x,H5,I5,r5,y5,st5,fr5⟩=>?_);have O:=I5.pinned (j fr5) (T.obj _ _ st5);refine gS t (cN (hg _ s5 k H5 x u _ O r5 (step x H5 y5)) λ_ s6⟨Q,H6,I6,q6⟩=>?_);refine gS t (cN (c _ s6 Q H6 _ I6 q6) λf s7 q=>?_);have again:∀{a:St}{l:Hp},Inv X (pins++uh y s5.heap) a l s7->N a l->∃m,m<n/\∃i σ' H',Inv X pins σ' H' s7/\Z i s7.heap/\(∀b∈y,H' b=none)/\W i m σ' H':=λ{a l}p E=>by obtain⟨m',hm,w7⟩:=hN a l E;refine⟨m',hm,i+1,a,l,p.pF,T.keep _ _ _ st5 λb c o e=>(p.pin (b,o) (eF _ (eF _ (lz c e)))).1,λb c=>?_,w7⟩;obtain⟨o,e,d⟩:=T.obj _ _ st5 b c;exact(p.pin (b,o) (eF _ (eF _ (lz c e)))).2.1
   cases f with|next=>obtain⟨a,l,p,E⟩:=q;exact again p E|cont=>obtain⟨a,l,p,E⟩:=q;exact again p E|brk=>obtain⟨a,l,p,q⟩:=q;exact⟨a,l,p.pF,q⟩|ret v=>obtain⟨x7,a,l,p,r7,q⟩:=q;exact⟨x7,a,l,p.pF,r7,q⟩
end
noncomputable abbrev R2:=V->V->Hp->VK->Prop
noncomputable def jc(X:Cx)(f:bd->bd->Sem bd)(r:R2):Prop:=∀(pins:List (b_ × Obj))(s:bx)(σ:St)(H:Hp)(x y:V)(v u:bd)(Q:VK),Inv X pins σ H s->RelV x v->RelV y u->r x y H Q->cH (cM X.prog X.w) X.A (f v u) (EP X pins σ Q) X.xe s
noncomputable def UnR(X:Cx)(f:bd->Sem bd)(r:V->Hp->VK->Prop):Prop:=∀(pins:List (b_ × Obj))(s:bx)(σ:St)(H:Hp)(x:V)(v:bd)(Q:VK),Inv X pins σ H s->RelV x v->r x H Q->cH (cM X.prog X.w) X.A (f v) (EP X pins σ Q) X.xe s
noncomputable def eX(X:Cx)(f:bd)(r:List V->Hp->VK->Prop):Prop:=∀(pins:List (b_ × Obj))(s:bx)(σ:St)(H:Hp)(xs:List V)(us:List bd)(Q:VK),Inv X pins σ H s->Vals xs us->r xs H Q->cH (cM X.prog X.w) X.A (call f us) (EP X pins σ Q) X.xe s
noncomputable def Vh(r:R2)(a b:TE):TE:=λσ H Q=>a σ H λx c=>b σ c λy e=>r x y e Q
noncomputable def tUn(r:V->Hp->VK->Prop)(a:TE):TE:=λσ H Q=>a σ H λx b=>r x b Q
noncomputable def rI(C:Int->Int->Prop)(g:Int->Int->V):R2:=λx y H Q=>∃i j,x=.int i/\y=.int j/\C i j/\Q (g i j) H
noncomputable def N8(g:Int->Int->V):R2:=λx y H Q=>∃i j,x=.int i/\y=.int j/\Q (g i j) H
noncomputable def rU(g:Int->V):V->Hp->VK->Prop:=λx H Q=>∃i,x=.int i/\Q (g i) H
section
variable{X:Cx}{a b c:da}{ta tb tc:TE}{pos:Pos}
theorem Vz(l:PE X a ta)(m:PE X b tb){σ:St}{R:V->V->Hp->Prop}(I:Inv X pins σ H s)(h:ta σ H λx k=>tb σ k λy e=>R x y e){Q:bd->bx->Prop}{f:bd->bd->Sem bd}(n:∀v u s2 x y e,Inv X pins σ e s2->RelV x v->RelV y u->R x y e->cH (cM X.prog X.w) X.A (f v u) Q X.xe s2):cH (cM X.prog X.w) X.A (eg a X.env) (λv g=>cH (cM X.prog X.w) X.A (eg b X.env) (λu j=>cH (cM X.prog X.w) X.A (f v u) Q X.xe j) X.xe g) X.xe s:=by refine cN (l pins s σ H _ I h) λv s1⟨x,k,I1,r1,q1⟩=>?_;refine cN (m pins s1 σ k _ I1 q1) λu s2⟨y,e,I2,r2,q2⟩=>?_;exact n v u s2 x y e I2 r1 r2 q2
theorem ab8{op:lx}{r:R2}(ho:jc X (fh op) r)(e:PE X a ta)(f:PE X b tb):PE X (.BinOp a op b pos) (Vh r ta tb):=by intro pins s σ H Q I h;exact wpAny_BinOp (Vz e f I h λv u s2 x y g j k l q=>ho pins s2 σ g x y v u Q j k l q)
theorem aa1{op:UnaryOp}{r:V->Hp->VK->Prop}(ho:UnR X (unaryOp op) r)(e:PE X a ta):PE X (.UnaryOp op a pos) (tUn r ta):=by intro pins s σ H Q I h;exact UnaryOp_ (cN (e pins s σ H _ I h) λv s1⟨x,H1,I1,r1,q1⟩=>ho pins s1 σ H1 x v Q I1 r1 q1)
theorem opI{f:bd->bd->Sem bd}{C:Int->Int->Prop}{g:Int->Int->Int}(rule:∀(i j:Int)(t u:Tok)(s:bx)(Q:bd->bx->Prop)(E:bd->bx->Prop),C i j->Q (.int (g i j) s.toks) {s with toks:=s.toks+1}->cH (cM X.prog X.w) X.A (f (.int i t) (.int j u)) Q E s):jc X f (rI C λi j=>.int (g i j)):=by intro pins s σ H x y v u Q I e k h;obtain⟨i,j,rfl,rfl,hc,q⟩:=h;obtain⟨t,rfl⟩:=e;obtain⟨t',rfl⟩:=k;exact rule i j t t' s _ _ hc ⟨.int (g i j),H,I.tok _,⟨_,rfl⟩,q⟩
theorem aab{f:bd->bd->Sem bd}{g:Int->Int->Int}(rule:∀(i j:Int)(t u:Tok)(s:bx)(Q:bd->bx->Prop)(E:bd->bx->Prop),Q (.int (g i j) s.toks) {s with toks:=s.toks+1}->cH (cM X.prog X.w) X.A (f (.int i t) (.int j u)) Q E s):jc X f (N8 λi j=>.int (g i j)):=by intro pins s σ H x y v u Q I e k h;obtain⟨i,j,rfl,rfl,q⟩:=h;obtain⟨t,rfl⟩:=e;obtain⟨t',rfl⟩:=k;exact rule i j t t' s _ _ ⟨.int (g i j),H,I.tok _,⟨_,rfl⟩,q⟩
theorem QD{f:bd->bd->Sem bd}{g:Int->Int->Bool}(rule:∀(i j:Int)(t u:Tok)(s:bx)(Q:bd->bx->Prop)(E:bd->bx->Prop),Q (.bool (g i j)) s->cH (cM X.prog X.w) X.A (f (.int i t) (.int j u)) Q E s):jc X f (N8 λi j=>.bl (g i j)):=by intro pins s σ H x y v u Q I e k h;obtain⟨i,j,rfl,rfl,q⟩:=h;obtain⟨t,rfl⟩:=e;obtain⟨t',rfl⟩:=k;exact rule i j t t' s _ _ ⟨.bl (g i j),H,I,rfl,q⟩
noncomputable def agl(i j:Int):Prop:=0<=j/\j<=1000000/\i.natAbs<2^64
noncomputable def Xv(i j:Int):Prop:=(-(2^64)<i/\i<2^64)\/(-(2^64)<j/\j<2^64)
theorem Xv.ok{i j:Int}(h:Xv i j):IntMulOk i j:=by
 rcases h with⟨h1,e⟩|⟨h1,e⟩;.exact .of_left (intBits_le_64 h1 e)
 .exact .of_right (intBits_le_64 h1 e)
theorem Yh:jc X (fh .Add) (N8 λi j=>.int (i+j)):=aab λ_ _ _ _ _ _ _ q=>add_int q
theorem Wk:jc X (fh .Sub) (N8 λi j=>.int (i-j)):=aab λ_ _ _ _ _ _ _ q=>sub_int q
theorem Ww:jc X (fh .Mult) (rI Xv λi j=>.int (i*j)):=opI λ_ _ _ _ _ _ _ hc q=>mul_int q hc.ok
theorem XQ:jc X (fh .Mod) (rI (λ_ j=>0<j) λi j=>.int (i%j)):=opI λi j _ _ _ _ _ hc q=>by have h1:(0:Int)<j:=hc;exact mod_int' (by lia) (by rw[Int.fmod_eq_emod_of_nonneg i (by lia)];exact q)
theorem Uq:jc X (fh .Pow) (rI agl λi j=>.int (i^j.toNat)):=opI λ_ _ _ _ _ _ _ hc q=>pow_int_small hc.1 hc.2.1 hc.2.2 q
theorem unI{f:bd->Sem bd}{g:Int->Int}(rule:∀(i:Int)(t:Tok)(s:bx)(Q:bd->bx->Prop)(E:bd->bx->Prop),Q (.int (g i) s.toks) {s with toks:=s.toks+1}->cH (cM X.prog X.w) X.A (f (.int i t)) Q E s):UnR X f (rU λi=>.int (g i)):=by intro pins s σ H x v Q I e h;obtain⟨i,rfl,q⟩:=h;obtain⟨t,rfl⟩:=e;exact rule i t s _ _ ⟨.int (g i),H,I.tok _,⟨_,rfl⟩,q⟩
theorem WT:UnR X (unaryOp .USub) (rU λi=>.int (-i)):=unI λ_ _ _ _ _ q=>neg_int q
end
section
variable{X:Cx}{a b c:da}{ta tb tc:TE}{pos:Pos}
theorem UW{σ:St}{Q:VK}{k f:Bool}(I:Inv X pins σ H s)(q:Q (.bl k) H)(e:k=f):EP X pins σ Q (.bool f) s:=by subst e;exact⟨.bl k,H,I,rfl,q⟩
theorem abh:jc X (ec .Lt) (N8 λi j=>.bl (decide (i<j))):=QD λ_ _ _ _ _ _ _ q=>lt_int q
theorem aa2:jc X (ec .LtE) (N8 λi j=>.bl (decide (i<=j))):=QD λ_ _ _ _ _ _ _ q=>le_int q
theorem aba:jc X (ec .Gt) (N8 λi j=>.bl (decide (j<i))):=QD λ_ _ _ _ _ _ _ q=>gt_int q
theorem aaK:jc X (ec .GtE) (N8 λi j=>.bl (decide (j<=i))):=QD λ_ _ _ _ _ _ _ q=>ge_int q
theorem O3:jc X (ec .IsNot) (λx y H Q=>y=.non/\Q (.bl (!decide (x=.non))) H):=by intro pins s σ H x y v u Q I e f h;obtain⟨rfl,q⟩:=h;cases f;refine isnot_none_gen (UW I q ?_);cases x<;>first|(cases e;rfl)|(obtain⟨t,rfl⟩:=e;rfl)
theorem bf(b:da)(h:op≠.In:=by decide)(e:op≠.NotIn:=by decide):fq op b=av:=by
 have f:(op==ol)=av:=by cases op<;>first|rfl|exact absurd rfl h
 have g:(op==l_)=av:=by cases op<;>first|rfl|exact absurd rfl e
 cases b<;>first|rfl|exact aak f g
theorem QW{r:R2}(ho:jc X (ec op) r)(e:PE X a ta)(f:PE X b tb)(g:fq op b=av):PE X (.Compare a [op] [b] pos) (Vh r ta tb):=by intro pins s σ H Q I h;exact wpAny_Compare1 (Vz e f I h λv u s2 x y j k l m q=>ho pins s2 σ j x y v u Q k l m q) g
noncomputable def abN(t:TE):TT:=λσ H Q=>t σ H λx H'=>∃k,x=.bl k/\Q k H'
theorem Gf{r:R2}(ho:jc X (ec op) r)(f:PE X a ta)(g:PE X b tb)(j:fq op b=av):PT X (.Compare a [op] [b] pos) (abN (Vh r ta tb)):=by intro pins s σ H Q I h;refine p7 (cN (f pins s σ H _ I h) λv s1⟨x,H1,I1,r1,q1⟩=>cN (g pins s1 σ H1 _ I1 q1) λu s2⟨y,H2,I2,r2,q2⟩=>cN (ho pins s2 σ H2 x y v u _ I2 r1 r2 q2) λc s3⟨z,H3,I3,r3,k,e,q3⟩=>?_) j;subst e;cases r3;exact fY ⟨H3,I3,q3⟩
noncomputable def Xx(r f:R2)(ta tb tc:TE):TE:=λσ H Q=>ta σ H λx g=>tb σ g λy j=>r x y j λz e=>∃k,z=.bl k/\(if k=bj then tc σ e λl m=>f y l m Q else Q (.bl av) e)
theorem LC{f:ny}{r j:R2}(ho:jc X (ec op) r)(g:jc X (ec f) j)(l:PE X a ta)(m:PE X b tb)(hc:PE X c tc)(n:lastMarks [op,f] [b,c]=av:=by with_unfolding_all rfl):PE X (.Compare a [op,f] [b,c] pos) (Xx r j ta tb tc):=by intro pins s σ H Q I h;refine Compare_chain (cN (l pins s σ H _ I h) λv s1⟨x,H1,I1,r1,q1⟩=>chain_link (cN (m pins s1 σ H1 _ I1 q1) λu s2⟨y,H2,I2,r2,q2⟩=>cN (ho pins s2 σ H2 x y v u _ I2 r1 r2 q2) λd s3⟨z,H3,I3,r3,k,e,q3⟩=>?_)) n;subst e;cases r3;refine fY ?_;cases k with|false=>exact ite_ff ⟨.bl av,H3,I3,rfl,q3⟩|true=>exact ite_tt (chain_last (cN (hc pins s3 σ H3 _ I3 q3) λo s4⟨p,H4,I4,r4,q4⟩=>g pins s4 σ H4 y p u o Q I4 r2 r4 q4))
theorem vB:(sizeLine:Nat)<2^63:=by rw[eR];decide
theorem Cj:jc X (fh .Add) (λx y H Q=>∃i j,x=.str i/\y=.str j/\i.length+j.length<=sizeLine/\Q (.str (i++j)) H):=by intro pins s σ H x y v u Q I e f h;obtain⟨i,j,rfl,rfl,hz,q⟩:=h;obtain⟨t,rfl⟩:=e;obtain⟨t',rfl⟩:=f;exact add_str (λt' g=>⟨.str (i++j),H,I.tok _,⟨_,rfl⟩,q⟩) hz
theorem vals1{x:V}(r:Vals [x] us):∃u,us=[u]/\RelV x u:=by cases r with|cons r1 e=>cases e;exact⟨_,rfl,r1⟩
theorem vals2{x y:V}(r:Vals [x,y] us):∃u e,us=[u,e]/\RelV x u/\RelV y e:=by cases r with|cons r1 f=>cases f with|cons g j=>cases j;exact⟨_,_,rfl,r1,g⟩
theorem Mz:eX X (.builtin "abs") (λxs H Q=>∃i,xs=[.int i]/\Q (.int (if i<0 then-i else i)) H):=by intro pins s σ H xs us Q I r h;obtain⟨i,rfl,q⟩:=h;obtain⟨u,rfl,t,rfl⟩:=vals1 r;exact call_abs_int λu e=>⟨.int (if i<0 then-i else i),H,I.tok _,⟨_,rfl⟩,q⟩
theorem GP(hc:X.calm=bj):eX X (.builtin "max") (λxs H Q=>∃i j,xs=[.int i,.int j]/\Q (.int (if j>i then j else i)) H):=by
 intro pins s σ H xs us Q I r h;obtain⟨i,j,rfl,q⟩:=h;obtain⟨u,f,rfl,⟨t,rfl⟩,⟨t',rfl⟩⟩:=vals2 r;refine max_two_ints (I.ok.hd hc) λh' g k=>⟨_,H,I.kept k,?_,q⟩;by_cases e:j>i;.rw[if_pos e,if_pos e];exact⟨_,rfl⟩
 .rw[if_neg e,if_neg e];exact⟨_,rfl⟩
theorem Hl(hc:X.calm=bj):eX X (.builtin "min") (λxs H Q=>∃i j,xs=[.int i,.int j]/\Q (.int (if j<i then j else i)) H):=by
 intro pins s σ H xs us Q I r h;obtain⟨i,j,rfl,q⟩:=h;obtain⟨u,f,rfl,⟨t,rfl⟩,⟨t',rfl⟩⟩:=vals2 r;refine min_two_ints (I.ok.hd hc) λh' g k=>⟨_,H,I.kept k,?_,q⟩;by_cases e:j<i;.rw[if_pos e,if_pos e];exact⟨_,rfl⟩
 .rw[if_neg e,if_neg e];exact⟨_,rfl⟩
end
theorem rM.some_of{v:V}{o:Option bd}(r:rM (ap v) o):∃u,o=ap u/\RelV v u:=by cases o with|none=>exact(show False from r).elim|some u=>exact⟨u,rfl,r⟩
structure jo(k:Nat)(A:et):Prop where
 hd:A.handled=none
 dp:A.depth+3*k+5<recursionLimit
 un:A.units+16*k+200<fy
theorem jo.deeper{k:Nat}{A:et}(r:jo (k+1) A)(env:Env):jo k (A.deeper env):=⟨r.hd,by have:=r.dp;show A.depth+1+3*k+5<_;lia,by have:=r.un;show A.units+3+16*k+200<_;lia⟩
theorem jo.depth{k:Nat}{A:et}(r:jo k A):A.depth<recursionLimit:=by have:=r.dp;lia
noncomputable def aeX:TA:=λ_ H Q=>Q [] H
noncomputable def aaS(a:TE)(b:TA):TA:=λσ H Q=>a σ H λx c=>b σ c λxs e=>Q (x::xs) e
section
variable{X:Cx}{e:da}{es:List da}{te:TE}{t:TA}{pos:Pos}
theorem dC:PA X [] aeX:=λ_ _ _ _ H Q I h=>ji ⟨[],H,I,.nil,h⟩
theorem bD(a:PE X e te)(hr:PA X es t)(hs:cj (e::es) X.env=(av,eg e X.env)::cj es X.env:=by rfl):PA X (e::es) (aaS te t):=by intro pos pins s σ H Q I h;rw[hs];show cH _ _ (spliced ((av,eg e X.env)::fS pos (cj es X.env))) _ _ s;refine ib (cN (a pins s σ H _ I h) λu s1⟨x,H1,I1,r1,q1⟩=>?_);exact cN (hr pos pins s1 σ H1 _ I1 q1) λus s2⟨xs,H2,I2,r2,q2⟩=>⟨x::xs,H2,I2,.cons r1 r2,q2⟩
noncomputable def afE(t:TA):TE:=λσ H Q=>t σ H λxs a=>xs.length<=sizeLine/\∀p,a p=none->Q (.ref p) (upd a p (.tup xs))
noncomputable def afr(t:TA):TE:=λσ H Q=>t σ H λxs a=>xs.length<=sizeLine/\∀p,a p=none->Q (.ref p) (upd a p (.lst xs))
theorem JX{x1}(h:PA X es t):PE X (.Tuple es x1 pos) (afE t):=by intro pins s σ H Q I a;refine wpAny_Tuple_spliced (cN (h pos pins s σ H _ I a) λus s1⟨xs,H1,I1,r,z,q⟩=>⟨by rw[<-r.length];exact z,?_⟩);have c:H1 s1.heap.objs.size=none:=I1.hok.fresh (eU);refine⟨.ref s1.heap.objs.size,upd H1 s1.heap.objs.size (.tup xs),I1.laid (t':=s1.toks) (λb u e=>iZ e) (eU) ?_,rfl,q _ c⟩;exact⟨z,us,r,⟨_,dl _ rfl,rfl,_,rfl⟩⟩
theorem Dk(h:PA X es t):PE X (.List es pos) (afr t):=by intro pins s σ H Q I a;refine wpAny_List_spliced (cN (h pos pins s σ H _ I a) λus s1⟨xs,H1,I1,r,z,q⟩=>⟨by rw[<-r.length];exact z,?_⟩);have c:H1 s1.heap.objs.size=none:=I1.hok.fresh (eU);refine⟨.ref s1.heap.objs.size,upd H1 s1.heap.objs.size (.lst xs),I1.laid (t':=s1.toks) (λb u e=>iZ e) (eU) ?_,rfl,q _ c⟩;exact⟨z,us,0,r,dl _ rfl⟩
end
noncomputable abbrev Sp:=List V->Hp->VK->XK->Prop
noncomputable abbrev Iz:=List Env->Hp->bx->XK->bd->bx->Prop
structure Qi(P:c_)(w:eh)(K:PySem.W.Frag)(mg:Str->Option bd)(base:ef)(A:et)(outer:List Env)(s:bx)(H:Hp):Prop where
 frames:A.frames=ap outer
 mod:Mod K mg base
 bs:∀b o,base.get? b=ap o->s.heap.get? b=ap o/\H b=none
 IK:base.objs.size<=s.heap.objs.size
 oW:s.heap.FunFrames base outer
 Om:∀b∈frs outer,H b=none
 hok:lO P w H s.heap
 bare:kU s.gens
noncomputable def CE(outer:List Env)(P:c_)(w:eh)(H:Hp)(s:bx)(Q:VK)(u:bd)(a:bx):Prop:=∃v H',a.os=s.os/\kU a.gens/\Un (frs outer) [] H H' s.heap a.heap/\lO P w H' a.heap/\RelV v u/\Q v H'
noncomputable def CR(CX:Iz)(outer:List Env)(P:c_)(w:eh)(H:Hp)(s:bx)(Q:VK)(E:XK)(r:Result)(a:bx):Prop:=match r with|.ok (.ret u)=>CE outer P w H s Q u a|.ok _=>False|.error e=>CX outer H s E e a
structure iJ(P:c_)(w:eh)(K:PySem.W.Frag)(mg:Str->Option bd)(base:ef)(CX:Iz)(k:Nat)(f:b_)(fd:gz)(ps:List Str)(sp:Sp):Prop where
 len:∀vs H Q E,sp vs H Q E->vs.length=ps.length
 run:∀(A:et)(outer:List Env)(s:bx)(H:Hp)(args:Args)(us:List bd)(vs:List V)(Q:VK)(E:XK),jo k A->Qi P w K mg base A outer s H->nI s fd args (ps.zip us)->Vals vs us->sp vs H Q E->kS (cM P w) A (.call (.ref f) args) (CR CX outer P w H s Q E) s
section
variable{X:Cx}{pins:List (b_×Obj)}{σ:St}{H:Hp}{s s':bx}
theorem Inv.env0(I:Inv X pins σ H s):Qi X.prog X.w X.K X.mg X.base X.A X.stack s H:=⟨I.ok.frames,I.ok.mod,I.bs,gT I.ok.IK I.sz,I.stack,I.tE,I.hok,I.bare⟩
theorem Inv.after{Q:VK}{u:bd}(I:Inv X pins σ H s)(h:CE X.stack X.prog X.w H s Q u s'):EP X pins σ Q u s':=by obtain⟨v,H',os,bare,un,hok,r,q⟩:=h;obtain⟨c,g,d,t,a⟩:=s';obtain rfl:a=s.os:=os;exact⟨v,H',I.call (h':=c) (g':=g) (d':=d) (t':=t) (ch:=[]) un hok bare (λb z=>absurd z (by simp)),r,q⟩
end
noncomputable def aav(sp:Sp)(a:List V)(E:XK)(t:TA):TE:=λσ H Q=>t σ H λvs b=>sp (vs++a) b Q E
noncomputable def Binds(K:PySem.W.Frag)(fd:gz)(ps:List Str)(a:List bd):Prop:=∀(s:bx)(us:List bd),K.In s.heap->(us++a).length=ps.length->nI s fd ⟨us,[]⟩ (ps.zip (us++a))
theorem Binds.all{fd:gz}{ps:List Str}(h:∀us:List bd,us.length=ps.length->my fd ⟨us,[]⟩=eL (ps.zip us)):Binds K fd ps []:=λs us _ a=>by rw[hZ]at a ⊢;exact .of_eq (h us a)
noncomputable def Passes(CX:Iz)(X:Cx)(E:XK):Prop:=∀(pins:List (b_×Obj))(σ:St)(H:Hp)(s:bx)(e:bd)(a:bx),Inv X pins σ H s->CX X.stack H s E e a->X.xe e a
section
variable{X:Cx}{CX:Iz}{k:Nat}{f C:b_}{fd:gz}{ps:List Str}{sp:Sp}{T5:List V}{ds:List bd}{E:XK}{x m:Str}{p pos apos:Pos}{e o:da}{es:List da}{ta:TE}{t:TA}
theorem U9{σ:St}{Q:VK}{vs:List V}(F:iJ X.prog X.w X.K X.mg X.base CX k f fd ps sp)(hr:jo k X.A)(c:Binds X.K fd ps ds)(hd:Vals T5 ds)(g:Passes CX X E)(I:Inv X pins σ H s)(r:Vals vs us)(h:sp (vs++T5) H Q E):cH (cM X.prog X.w) X.A (call (.ref f) us) (EP X pins σ Q) X.xe s:=by
 have b:Vals (vs++T5) (us++ds):=r.append hd;have j:(us++ds).length=ps.length:=by rw[<-b.length];exact F.len _ _ _ _ h
 refine wpAny_call (pS (F.run X.A X.stack s H ⟨us,[]⟩ (us++ds) (vs++T5) Q E hr I.env0 (c s us I.Pz j) b h) λr l a=>?_);cases r with|error e=>exact g pins σ H s e l I a|ok n=>cases n with|ret u=>exact I.after a|next=>exact e_ a|brk=>exact e_ a|cont=>exact e_ a
theorem tZ(F:iJ X.prog X.w X.K X.mg X.base CX k f fd ps sp)(hr:jo k X.A)(b:Gl X x)(c:X.mg x=ap (.ref f))(g:keepIn X.K (.ref f)=bj)(j:Binds X.K fd ps ds)(hd:Vals T5 ds)(l:Passes CX X E)(n:PA X (e::es) t)(a:(x==("__debug__":Str))=av:=by decide)(he:cj (e::es) X.env=(av,eg e X.env)::cj es X.env:=by rfl)(hpl:(fS pos (cj es X.env)).any (·.1)=av:=by rfl):PE X (.Call (.Name x p) (e::es) [] pos) (aav sp T5 E t):=by intro pins s σ H Q I h;refine ma (sJ I b c ?_ a);refine PySem.W.callWith_K (h₀:=X.base) I.ok.mod.vp g (cN (n pos pins s σ H _ I h) λus s1⟨vs,H1,I1,r,q⟩=>⟨I1.Pz,?_⟩) he hpl;exact U9 F hr j hd l I1 r q
end
structure aO(N P:List Str)(sc:iE):Prop where
 kind:sc.kind=.function:=by rfl
 co:sc.isCoroutine=av:=by rfl
 gen:sc.isGenerator=av:=by rfl
 nd:N.Nodup:=by decide+kernel
 pre:N.take P.length=P:=by rfl
 par:∀x∈P,sc.names.lookup x=ap .local\/sc.names.lookup x=ap .cell:=by decide+kernel
 Yk:∀y∈sc.names,y.2≠.free:=by decide+kernel
theorem xn{kindOf:Str->Option j_}{x:Str}:∀{binds:List (Str×bd)}{m:Str->Option bd},(∀v,(x,v)∉binds)->oC kindOf binds m x=m x
 |[],_,_=>rfl|(n,v)::r,m,h=>by
   unfold oC;rw[xn λw a=>h w (dL _ a)];split
   . have:x≠n:=by rintro rfl;exact h v gX
     simp[this]
   .rfl
theorem wV{kindOf:Str->Option j_}{x:Str}:∀{binds:List (Str×bd)}{m:Str->Option bd},(∀v,(x,v)∉binds)->oD kindOf binds m x=m x
 |[],_,_=>rfl|(n,v)::r,m,h=>by
   unfold oD;rw[wV λw a=>h w (dL _ a)];split;.rfl
   . have:x≠n:=by rintro rfl;exact h v gX
     simp[this]
theorem v9{kindOf:Str->Option j_}{x:Str}{v:bd}:∀{P:List Str}{vs:List bd}{i:Nat}{m:Str->Option bd},P.Nodup->P[i]?=ap x->vs[i]?=ap v->kindOf x=ap .local->oC kindOf (P.zip vs) m x=ap v|[],_,_,_,_,h,_,_=>by simp at h|_::_,[],_,_,_,_,h,_=>by simp at h|p::P,w::vs,0,m,nd,h1,a,b=>by simp at h1 a;subst h1;subst a;show oC kindOf ((p,w)::P.zip vs) m p=_;unfold oC;rw[xn λv c=>(fc.mp nd).1 (jI c).1,if_pos b];simp|p::P,w::vs,i+1,m,nd,h1,a,b=>by show oC kindOf ((p,w)::P.zip vs) m x=_;unfold oC;exact v9 (i:=i) (fc.mp nd).2 (by simpa using h1) (by simpa using a) b
theorem wF{kindOf:Str->Option j_}{x:Str}{v:bd}:∀{P:List Str}{vs:List bd}{i:Nat}{m:Str->Option bd},P.Nodup->P[i]?=ap x->vs[i]?=ap v->kindOf x≠ap .local->oD kindOf (P.zip vs) m x=ap v|[],_,_,_,_,h,_,_=>by simp at h|_::_,[],_,_,_,_,h,_=>by simp at h|p::P,w::vs,0,m,nd,h1,a,b=>by simp at h1 a;subst h1;subst a;show oD kindOf ((p,w)::P.zip vs) m p=_;unfold oD;rw[wV λv c=>(fc.mp nd).1 (jI c).1,if_neg b];simp|p::P,w::vs,i+1,m,nd,h1,a,b=>by show oD kindOf ((p,w)::P.zip vs) m x=_;unfold oD;exact wF (i:=i) (fc.mp nd).2 (by simpa using h1) (by simpa using a) b
noncomputable def start(N:List Str)(vs:List V):St:=vs.map ap++cp (N.length-vs.length) none
noncomputable def jG(CX:Iz)(P:c_)(w:eh)(K:PySem.W.Frag)(mg:Str->Option bd)(base:ef)(N:List Str)(qual:Str)(scope:iE)(f:b_)(b:bd)(A:et)(outer:List Env)(s:bx)(H:Hp)(E:XK):Cx where prog:=P;w:=w;K:=K;mg:=mg;base:=base;A:=A.deeper (jO qual scope s.heap.objs.size f b);N:=N;s₀:=s;H₀:=H;env:=jO qual scope s.heap.objs.size f b;outer:=outer;stack:=jO qual scope s.heap.objs.size f b::outer;ex:=[];calm:=bj;fn:=λ_=>bj;pn:=[];xe:=λe c=>cH (cM P w) (A.deeper (jO qual scope s.heap.objs.size f b)) (leaving (jO qual scope s.heap.objs.size f b) e) (λ_ a=>CX outer H s E e a) (λg a=>CX outer H s E g a) c
theorem zW{a:iE}{n:Nat}{x:Str}(h:a.names.lookup x=ap .cell):∃c,(jB n a.names []).lookup x=ap c:=by have q:=PySem.W.cellsFrom_some a.names n [] (.inl h);exact fV.mp q
theorem Hs{CX:Iz}{P:c_}{mg:Str->Option bd}{base:ef}{N ps:List Str}{qual:Str}{scope:iE}{f:b_}{t:bd}{outer:List Env}{s1:bx}{E:XK}{vs:List V}(S:aO N ps scope)(hd:A.handled=none)(j:Qi P w K mg base A outer s H)(J:vs.length=ps.length)(r:Vals vs us)(x:InCallC s s.heap.objs.size (oC (jO qual scope s.heap.objs.size f t).kindOf (ps.zip us) λ_=>none) (jB (s.heap.objs.size+1) scope.names []) (oD (jO qual scope s.heap.objs.size f t).kindOf (ps.zip us) λ_=>none) s1):Inv (jG CX P w K mg base N qual scope f t A outer s H E) [] (start N vs) H s1:=by
 have hpl:ps.length<=N.length:=by have:=congrArg kG S.pre;rw[ke]at this;lia
 obtain⟨h1,L,rfl,B⟩:=x.done;have l:∀b:b_,b∉(jG CX P w K mg base N qual scope f t A outer s H E).ex:=λb z=>absurd (show b∈([]:List b_)from z) (by simp);refine⟨⟨j.mod,S.kind,rfl,rfl,eU,λy z c h1 g=>?_,λy hy=>?_,λy c _ h=>?_,λ_=>hd,Around.frames_deeper j.frames,.inr ⟨rfl,rfl⟩,λb z=>absurd z (l b),j.bs,j.IK,λb _ _=>l b,λb z=>absurd z (l b),j.oW,j.Om⟩,rfl,j.bare,Un.kept B,⟨_,x.toInCall.ns,λi y v h1 g O=>?_⟩,λy c h=>⟨_,x.cell y c h⟩,j.hok.fresh (eU),λy c h=>?_,λp m=>absurd (show p∈([]:List (b_×Obj))from m) (by simp),j.hok.kept B,?_⟩;.exact name_of_addr x.apart (PySem.mem_of_lookup h1) (PySem.mem_of_lookup g)
 . have hy:scope.names.lookup y=ap .cell\/scope.names.lookup y=ap .free:=hy;rcases hy with hy|hy;.exact zW hy
   .exact absurd rfl (S.Yk _ (PySem.mem_of_lookup hy))
 .exact lm (x.above y c (PySem.mem_of_lookup h))
 . have hi:i<vs.length:=by
    unfold start at g;by_cases hi:i<vs.length;.exact hi
    .rw[fT (by simpa using hi)]at g;rw[ih]at g;split at g<;>cases g
   have G:vs[i]?=ap v:=by unfold start at g;rw[dr (by simpa using hi),eW]at g;cases e:vs[i]?with|none=>rw[e]at g;cases g|some a=>rw[e]at g;cases g;rfl
   obtain⟨u,C,I⟩:=r.get G;have m:ps[i]?=ap y:=by rw[<-S.pre,List.getElem?_take_of_lt (by lia)];exact h1
   have o:ps.Nodup:=by rw[<-S.pre];exact S.nd.sublist (List.take_sublist _ _)
   refine⟨u,I,?_⟩;rcases S.par y (du m)with k|k;.exact .inl ⟨k,v9 o m C k⟩
   .obtain⟨c,e⟩:=zW (n:=s.heap.objs.size+1) k;refine .inr ⟨.inl k,c,e,?_⟩;have q:=x.cell y c e;rw[wF o m C (by show scope.names.lookup y≠_;rw[k];decide)]at q;exact q
 .exact j.hok.fresh (lm (x.above y c (PySem.mem_of_lookup h)))
 .unfold start;show _=N.length;rw[d_,dV,n_];lia
theorem TV{CX:Iz}{P:c_}{w:eh}{K:PySem.W.Frag}{mg:Str->Option bd}{base:ef}{k:Nat}{f:b_}{name qual:Str}{a:Arguments}{body:List ek}{scope:iE}{C kV j G cdv ct oc:bd}{L od:Option b_}{m:Array (Option bd)}{N ps:List Str}{sp:Sp}(lk:K.lookup f=ap ⟨oc,od,.func (PySem.W.fnOf name qual a body scope C kV j G L cdv ct),m⟩)(p:PySem.W.codeIn K cdv qual=bj)(S:aO N ps scope)(len:∀vs H Q E,sp vs H Q E->vs.length=ps.length)(c:∀(A:et)(outer:List Env)(s:bx)(H:Hp)(vs:List V)(Q:VK)(E:XK),jo k (A.deeper (jO qual scope s.heap.objs.size f cdv))->sp vs H Q E->∃t,qp (jG CX P w K mg base N qual scope f cdv A outer s H E) body t/\t {nx:=λ_ H'=>Q .non H',rt:=Q} (start N vs) H):iJ P w K mg base CX (k+1) f (PySem.W.fnOf name qual a body scope C kV j G L cdv ct) ps sp:=by
 refine⟨len,λA outer s H args us vs Q E hr l U r hsp=>?_⟩;have Y:=len _ _ _ _ hsp;have O:K.In s.heap:=l.mod.vp.keeps λb o e=>(l.bs b o e).1;have lim:s.heap.NoLimit:=l.mod.nolimit.keeps λb o e=>(l.bs b o e).1;have g:∀y∈ps.zip us,scope.names.lookup y.1=ap .local\/(scope.names.lookup y.1=ap .cell/\((jB (s.heap.objs.size+1) scope.names []).lookup y.1).isSome=bj):=λ⟨n,v⟩Z=>by
  rcases S.par n (jI Z).1 with q|q;.exact .inl q
  .exact .inr ⟨q,PySem.W.cellsFrom_some _ _ _ (.inl q)⟩
 refine codeAny_call_function hr.depth (O _ _ lk) rfl S.co S.gen rfl (PySem.W.codeRec_of O p) (U _ _ _ _ ?_);refine wpAny_newFunctionEnv_cells S.kind g λenv he s1 x=>?_;subst he;refine⟨lim.keeps x.toInCall.keep,codeAny_func ?_⟩;obtain⟨t,ht,hq⟩:=c A outer s H vs Q E (hr.deeper _) hsp;have I:Inv (jG CX P w K mg base N qual scope f cdv A outer s H E) [] (start N vs) H s1:=Hs S hr.hd l Y r x;refine dS (ht [] s1 (start N vs) H _ I hq) (λfl z hs=>?_) λe z hs=>hs;have fin:∀{σ':St}{H':Hp}{v:V}{u:bd},Inv (jG CX P w K mg base N qual scope f cdv A outer s H E) [] σ' H' z->RelV v u->Q v H'->CE outer P w H s Q u z:=λ{σ' H' v u}J B q=>⟨v,H',J.os,J.bare,J.base,J.hok,B,q⟩;cases fl with|ret u=>obtain⟨v,σ',H',J,B,q⟩:=hs;exact fin J B q|next=>obtain⟨σ',H',J,q⟩:=hs;exact fin (v:=V.non) (u:=dD) J rfl q|brk=>obtain⟨_,_,_,q⟩:=hs;exact e_ q|cont=>obtain⟨_,_,_,q⟩:=hs;exact e_ q
section
variable{X:Cx}{x:Str}{p pos:Pos}{e:da}{es:List da}{t:TA}{id T:String}{r:List V->Hp->VK->Prop}
noncomputable def tCB(r:List V->Hp->VK->Prop)(t:TA):TE:=λσ H Q=>t σ H λvs a=>r vs a Q
theorem eY(hc:eX X (.builtin id) r)(b:Gl X x)(c:X.mg x=none)(f:ez x=ap (.builtin id))(g:PA X (e::es) t)(j:x≠"__name__":=by decide)(a:(x==("__debug__":Str))=av:=by decide)(he:cj (e::es) X.env=(av,eg e X.env)::cj es X.env:=by rfl)(hpl:(fS pos (cj es X.env)).any (·.1)=av:=by rfl):PE X (.Call (.Name x p) (e::es) [] pos) (tCB r t):=by intro pins s σ H Q I h;refine ma (lq I b c f ?_ j a);exact PyProof.Rows.callWith_builtin1 (cN (g pos pins s σ H _ I h) λus s1⟨vs,H1,I1,r1,q1⟩=>hc pins s1 σ H1 vs us Q I1 r1 q1) he hpl
theorem qG(hc:eX X (.type T) r)(b:Gl X x)(c:X.mg x=none)(f:ez x=ap (.type T))(g:PA X (e::es) t)(j:x≠"__name__":=by decide)(a:(x==("__debug__":Str))=av:=by decide)(he:cj (e::es) X.env=(av,eg e X.env)::cj es X.env:=by rfl)(hpl:(fS pos (cj es X.env)).any (·.1)=av:=by rfl):PE X (.Call (.Name x p) (e::es) [] pos) (tCB r t):=by intro pins s σ H Q I h;refine ma (lq I b c f ?_ j a);exact eI (cN (g pos pins s σ H _ I h) λus s1⟨vs,H1,I1,r1,q1⟩=>hc pins s1 σ H1 vs us Q I1 r1 q1) he hpl
end
end _L
namespace _U
open PySem PyProof.Rows
section
variable{prog:c_}{w:eh}{A:et}{E:bd->bx->Prop}{s:bx}
theorem QH{t b:b_}{vs ws:List bd}{Q:bd->bx->Prop}(m:oN s.heap t vs.toArray)(o:oN s.heap b ws.toArray)(j:vs≠[])(h1:ws=[]->Q (.ref t) s)(p:ws≠[]->Q (.ref s.heap.objs.size) {s with heap:=s.heap.push {cls:=.type "tuple",data:=.seq (vs++ws).toArray}})(hsz:vs.length+ws.length<=sizeLine):cH (cM prog w) A (fh .Add (.ref t) (.ref b)) Q E s:=by
 obtain⟨⟨cls,dd,data,sl⟩,ho,hc,n,hd⟩:=id m;obtain⟨⟨k,c,data2,f⟩,a,g,l,h⟩:=id o;simp only at hc hd g h;subst hc hd g h;have e:vs.toArray++ws.toArray=(vs++ws).toArray:=by simp
 by_cases i:ws=[];.exact mw ⟨_,ho,rfl⟩ ⟨_,a,rfl⟩ m4 ot slot_tuple_add entry_tuple_add (args_tuple_add_2 _ _) (tuple_addW1 t b vs.toArray ws.toArray n l dd c sl f (by simpa using j) (by simp[i])) ⟨ho,a,h1 i⟩
 .refine mw ⟨_,ho,rfl⟩ ⟨_,a,rfl⟩ m4 ot slot_tuple_add entry_tuple_add (args_tuple_add_2 _ _) (tuple_addW2 t b vs.toArray ws.toArray n l dd c sl f (by simpa using j) (by simpa using i) (by rw[cS,cS];exact hsz)) ⟨ho,a,?_⟩;rw[e];exact p i
noncomputable def fH(n d:Nat):Option Int->Nat|none=>d|some v=>if v<0 then(v+(n:Int)).toNat else min v.toNat n
theorem Vb(n d:Nat)(hd:d<=n)(o:Option Int):fH n d o<=n:=by cases o with|none=>exact hd|some v=>
   show(if v<0 then(v+(n:Int)).toNat else min v.toNat n)<=n;by_cases a:v<0;.rw[if_pos a];lia
   .rw[if_neg a];exact Nat.min_le_right _ _
theorem Es(v:Int)(n d:Nat):(if v<0 then max (v+(n:Int)) 0 else min v (n:Int))=((fH n d (ap v):Nat):Int):=by
 show(if v<0 then max (v+(n:Int)) 0 else min v (n:Int))=(((if v<0 then(v+(n:Int)).toNat else min v.toNat n):Nat):Int);by_cases a:v<0;.simp only[if_pos a];lia
 .simp only[if_neg a];lia
theorem Cp(lo hi:Option Int)(n:Nat):qf lo hi 1 (n:Int)=(((fH n 0 lo:Nat):Int),((fH n n hi:Nat):Int)):=by
 have h1:¬((1:Int)<0):=by lia
 unfold qf;simp only[h1,if_false];refine Prod.ext ?_ ?_;.cases lo with|none=>rfl|some v=>exact Es v n 0
 .cases hi with|none=>rfl|some v=>exact Es v n n
theorem BV(i j:Nat):nh (i:Int) (j:Int) 1=j-i:=by
 unfold nh;have h1:(1:Int)>0:=by lia
 simp only[h1,if_true,Int.ediv_one];split<;>lia
theorem uF{v:bd}{o:Option Int}{Q:Option Int->bx->Prop}(p:ly v o)(h:Q o s):cH (cM prog w) A (Builtin.Slice.slicePartIndex v) Q E s:=by cases p with|none=>exact slicePart_none h|int i t=>exact slicePart_int h
theorem km{sl:b_}{c e:bd}{lo hi:Option Int}{n:Nat}{Q:Int×Int×Nat->bx->Prop}(hs:s.heap.IsSliceOf sl c e .none)(f:ly c lo)(g:ly e hi)(h:Q (((fH n 0 lo:Nat):Int),1,fH n n hi-fH n 0 lo) s):cH (cM prog w) A (sliceApplied (.ref sl) (eL (n:Int))) Q E s:=by obtain⟨os,a,i,b⟩:=id hs;unfold sliceApplied Builtin.Slice.sliceFields;refine a_ (a_ (eK a b (x:=c) rfl (a_ (eK a b (x:=e) rfl (a_ (eK a b (x:=.none) rfl (cv ?_)))))));refine a_ (slicePart_none ?_);show cH _ _ (if((1:Int)==0)=bj then _ else _) _ _ s;rw[if_neg (by decide)];refine a_ (uF f (a_ (uF g (a_ (cv ?_)))));show cH _ _ (match qf lo hi 1 (n:Int)with|(lo,hi)=>eL (lo,(1:Int),nh lo hi 1)) _ _ s;rw[Cp lo hi n];show cH _ _ (eL (((fH n 0 lo:Nat):Int),(1:Int),nh ((fH n 0 lo:Nat):Int) ((fH n n hi:Nat):Int) 1)) _ _ s;rw[BV];exact cv h
theorem K9(xs:Array bd)(i k:Nat):((eu k).filterMap λ(m:Nat)=>xs[((i:Int)+(m:Int)*1).toNat]?).toArray=((xs.toList.drop i).take k).toArray:=by
 have e:(λ(m:Nat)=>xs[((i:Int)+(m:Int)*1).toNat]?)=λm=>xs[i+m]?:=by
  funext m;have:((i:Int)+(m:Int)*1).toNat=i+m:=by lia
  rw[this]
 rw[e];have:=pick_run xs i k;rw[List.filterMap_map]at this;have a:((λx=>xs[x]?)∘ λx=>i+x)=λm=>xs[i+m]?:=rfl;rw[a]at this;rw[this]
theorem pH{t sl:b_}{items:Array bd}{i j:bd}{lo hi:Option Int}{Q:bd->bx->Prop}(a:oN s.heap t items)(hs:s.heap.IsSliceOf sl i j .none)(k:ly i lo)(l:ly j hi)(n:¬(fH items.size 0 lo=0/\fH items.size items.size hi=items.size))(h:Q (.ref s.heap.objs.size) {s with heap:=s.heap.push {cls:=.type "tuple",data:=.seq ((items.toList.drop (fH items.size 0 lo)).take (fH items.size items.size hi-fH items.size 0 lo)).toArray}})(hsz:items.size<=sizeLine):cH (cM prog w) A (jv (.ref t) (.ref sl)) Q E s:=by
 have b:sizeOk (.seq ((items.toList.drop (fH items.size 0 lo)).take (fH items.size items.size hi-fH items.size 0 lo)).toArray):=by show((items.toList.drop (fH items.size 0 lo)).take (fH items.size items.size hi-fH items.size 0 lo)).toArray.size<=sizeLine;rw[cS,ke,List.length_drop,iS];lia
 have p:fH items.size items.size hi<=items.size:=Vb _ _ (eU) hi;obtain⟨os,c,e,o⟩:=id hs;have f:s.TypeIs (.ref sl) "slice":=⟨os,c,e⟩;unfold jv;try with_reducible refine fI ?_
 first|refine a_ (cv ?_)|skip
 refine a_ (wpAny_sequenceKey a.typeIs (by decide) ?_);refine a_ (fv (name:=ii "__getitem__") a.typeIs h8 (gx h8 a.typeIs entry_tuple_getitem ?_ (args_tuple_getitem _ _)));show cH _ _ (tupleItemsOf (.ref t)>>=_) _ _ s;refine a_ (tupleItemsOf_ a ?_);refine a_ (kN f ?_);rw[if_pos (by decide)];refine a_ (km hs k l ?_);have g:¬((((fH items.size 0 lo:Nat):Int)==0&&(1:Int)==1&&(fH items.size items.size hi-fH items.size 0 lo)==items.size)=bj):=by intro q;rw[fb,fb]at q;have r:((fH items.size 0 lo:Nat):Int)=0:=eq_of_beq q.1.1;have u:fH items.size items.size hi-fH items.size 0 lo=items.size:=eq_of_beq q.2;exact n ⟨by lia,by lia⟩
 show cH _ _ (if(((fH items.size 0 lo:Nat):Int)==0&&(1:Int)==1&&(fH items.size items.size hi-fH items.size 0 lo)==items.size)=bj then _ else _) _ _ s;rw[if_neg g,K9];first|exact a_ (m:=iN _) (ew (cv ⟨_,rfl,cv h⟩) b)|exact a_ (m:=iN _) (ew (a_ (cv (cv ⟨_,rfl,cv h⟩))) b)|exact a_ (a_ (m:=iN _) (ew (cv (cv ⟨_,rfl,cv h⟩)) b))|exact a_ (a_ (m:=iN _) (ew (cv ⟨_,rfl,cv h⟩) b))
end
end _U
namespace _L
open PySem Spec PyProof.Rows
variable{n:Nat}{s:bx}{x:V}
noncomputable abbrev TO:=St->Hp->(Option Int->Hp->Prop)->Prop
noncomputable def PO(X:Cx)(e:Option da)(t:TO):Prop:=∀(a:List (b_ × Obj))(s:bx)(σ:St)(H:Hp)(Q:Option Int->Hp->Prop),Inv X a σ H s->t σ H Q->cH (cM X.prog X.w) X.A (evalPart e X.env) (λu b=>∃o H',Inv X a σ H' b/\ly u o/\Q o H') X.xe s
noncomputable def Ot:TO:=λ_ H Q=>Q none H
noncomputable def abC(t:TE):TO:=λσ H Q=>t σ H λx a=>∃i,x=.int i/\Q (ap i) a
section
variable{X:Cx}{e:da}{te:TE}{lo hi:Option da}{tl th:TO}{pos p2:Pos}
theorem Qy:PO X none Ot:=by intro a s σ H Q I h;rw[evalPart_none];exact cv ⟨none,H,I,.none,h⟩
theorem Py(h:PE X e te):PO X (ap e) (abC te):=by intro a s σ H Q I b;rw[evalPart_some];refine cN (h a s σ H _ I b) λu s1⟨x,H1,I1,r1,q1⟩=>?_;obtain⟨i,rfl,q⟩:=q1;obtain⟨t,rfl⟩:=r1;exact⟨ap i,H1,I1,.int i t,q⟩
noncomputable def SlR(X:Cx)(r:V->Option Int->Option Int->Hp->VK->Prop):Prop:=∀(a:List (b_ × Obj))(s:bx)(σ:St)(H:Hp)(x:V)(v b c:bd)(lo hi:Option Int)(sl:b_)(Q:VK),Inv X a σ H s->RelV x v->s.heap.IsSliceOf sl b c .none->ly b lo->ly c hi->r x lo hi H Q->∃T id,nL (.type T) "__getitem__"=eL (ap (.builtin id))/\s.TypeIs v T/\cH (cM X.prog X.w) X.A (jv v (.ref sl)) (EP X a σ Q) X.xe s
noncomputable def tSl(r:V->Option Int->Option Int->Hp->VK->Prop)(te:TE)(tl th:TO):TE:=λσ H Q=>te σ H λx a=>tl σ a λl b=>th σ b λu c=>r x l u c Q
theorem vy{r:V->Option Int->Option Int->Hp->VK->Prop}(hr:SlR X r)(he:PE X e te)(g:PO X lo tl)(i:PO X hi th):PE X (.Subscript e (.Slice lo hi none p2) pos) (tSl r te tl th):=by intro a s σ H Q I h;refine Subscript_ (cN (he a s σ H _ I h) λv s1⟨x,H1,I1,r1,q1⟩=>?_);refine wpAny_Slice (cN (g a s1 σ H1 _ I1 q1) λc s2⟨l,H2,I2,pl,q2⟩=>cN (i a s2 σ H2 _ I2 q2) λf s3⟨u,H3,I3,pu,q3⟩=>?_);rw[evalPart_none];refine cv ?_;have j:Inv X a σ H3 {s3 with heap:=s3.heap.push {cls:=.type "slice",data:=.fields #[c,f,.none]}}:=I3.kept (t':=s3.toks) λb p q=>iZ q;obtain⟨T,id,k,m,o⟩:=hr a {s3 with heap:=s3.heap.push {cls:=.type "slice",data:=.fields #[c,f,.none]}} σ H3 x v c f l u s3.heap.objs.size Q j r1 (Heap.IsSliceOf.new ..) pl pu q3;show cH (cM X.prog X.w) X.A (oq e (.Slice lo hi none p2) v (.ref s3.heap.objs.size)) (EP X a σ Q) X.xe {s3 with heap:=s3.heap.push {cls:=.type "slice",data:=.fields #[c,f,.none]}};exact tail_any (ops:=[.ref s3.heap.objs.size,v]) m k o (by with_unfolding_all rfl)
noncomputable def zG(xs:List V)(lo hi:Option Int):List V:=(xs.drop (_U.fH xs.length 0 lo)).take (_U.fH xs.length xs.length hi-_U.fH xs.length 0 lo)
theorem rm(xs:List V)(lo hi:Option Int):(zG xs lo hi).length<=xs.length:=by unfold zG;rw[ke,List.length_drop];lia
noncomputable def agc(K:PySem.W.Frag):V->Option Int->Option Int->Hp->VK->Prop:=λx lo hi H Q=>∃a xs,x=.ref a/\nU K H a xs/\¬(_U.fH xs.length 0 lo=0/\_U.fH xs.length xs.length hi=xs.length)/\∀p,H p=none->Q (.ref p) (upd H p (.tup (zG xs lo hi)))
theorem VD:SlR X (agc X.K):=by
 intro g s σ H x v t u lo hi sl Q I j hs k l h;obtain⟨a,xs,rfl,m,p,q⟩:=h;cases j;obtain⟨f,r,i,hz⟩:=I.tuple m;have c:f.toArray.size=xs.length:=by rw[cS];exact r.length.symm
 refine⟨"tuple",_,h8.lookup,i.typeIs,?_⟩;refine _U.pH i hs k l (by rw[c];exact p) ?_ (by rw[c];exact hz);rw[c];refine⟨.ref s.heap.objs.size,_,I.laid (t':=s.toks) (o:=.tup (zG xs lo hi)) (λb w q=>iZ q) (eU) ?_,rfl,q _ (I.hok.fresh (eU))⟩;exact⟨gT (rm xs lo hi) hz,_,(r.drop (_U.fH xs.length 0 lo)).take (_U.fH xs.length xs.length hi-_U.fH xs.length 0 lo),kH _ _⟩
noncomputable def aaA(K:PySem.W.Frag):R2:=λx y H Q=>∃a b xs ys,x=.ref a/\y=.ref b/\nU K H a xs/\nU K H b ys/\xs≠[]/\xs.length+ys.length<=sizeLine/\(ys=[]->Q (.ref a) H)/\(ys≠[]->∀p,H p=none->Q (.ref p) (upd H p (.tup (xs++ys))))
theorem Vals.sS{xs:List V}{a:List bd}(r:Vals xs a):a=[]↔xs=[]:=by cases r with|nil=>simp|cons _ _=>simp
theorem Ph:jc X (fh .Add) (aaA X.K):=by intro f s σ H x y v u Q I i j h;obtain⟨a,b,xs,ys,rfl,rfl,k,l,m,hz,p,r⟩:=h;cases i;cases j;obtain⟨t,r1,p1,_⟩:=I.tuple k;obtain⟨g,c,p2,_⟩:=I.tuple l;refine _U.QH p1 p2 (λz=>m (r1.sS.mp z)) (λz=>⟨.ref a,H,I,rfl,p (c.sS.mp z)⟩) (λz=>?_) (by rw[<-r1.length,<-c.length];exact hz);refine⟨.ref s.heap.objs.size,_,I.laid (t':=s.toks) (o:=.tup (xs++ys)) (λb A q=>iZ q) (eU) ?_,rfl,r (λw=>z (c.sS.mpr w)) _ (I.hok.fresh (eU))⟩;exact⟨by rw[d_];exact hz,_,r1.append c,kH _ _⟩
end
noncomputable def lR(n:Nat)(i:Int):Option Nat:=if 0<=i then(if i<n then ap i.toNat else none)else if-(n:Int)<=i then ap (i+n).toNat else none
noncomputable def Hu{a:Type}(xs:List a)(i:Int):Option a:=(lR xs.length i).bind λj=>xs[j]?
theorem Ex{i:Int}{j:Nat}(h:lR n i=ap j):seqIndex? i n=ap j/\j<n/\-(n:Int)<=i/\i<n:=by
 unfold lR at h;by_cases h0:0<=i
 . rw[if_pos h0]at h;by_cases h1:i<n;.rw[if_pos h1]at h;have e:i.toNat=j:=ey h;exact⟨by rw[nk h0 h1,e],by lia,by lia,h1⟩
   .rw[if_neg h1]at h;cases h
 . rw[if_neg h0]at h;by_cases h1:-(n:Int)<=i;.rw[if_pos h1]at h;have e:(i+n).toNat=j:=ey h;exact⟨by rw[mn (by lia) h1,e],by lia,h1,by lia⟩
   .rw[if_neg h1]at h;cases h
theorem yL{a:Type}{xs:List a}{i:Int}{v:a}(h:Hu xs i=ap v):∃j,seqIndex? i xs.length=ap j/\xs[j]?=ap v/\j<xs.length/\-(xs.length:Int)<=i/\i<xs.length:=by unfold Hu at h;cases e:lR xs.length i with|none=>rw[e]at h;cases h|some j=>rw[e]at h;obtain⟨h1,b,c,f⟩:=Ex e;exact⟨j,h1,h,b,c,f⟩
noncomputable def o8(b:da):Prop:=∀o i,ng b av o i=operate [o,i] (jv o i)
noncomputable def IxR(X:Cx)(r:R2):Prop:=∀(b slice:da)(a:List (b_ × Obj))(s:bx)(σ:St)(H:Hp)(x y:V)(v u:bd)(Q:VK),Inv X a σ H s->RelV x v->RelV y u->r x y H Q->ng slice av v u=operate [v,u] (jv v u)->cH (cM X.prog X.w) X.A (oq b slice v u) (EP X a σ Q) X.xe s
noncomputable def MtR(X:Cx)(id:String)(r:V->List V->Hp->VK->Prop):Prop:=∀(a:List (b_ × Obj))(s:bx)(σ:St)(H:Hp)(x:V)(xs:List V)(v:bd)(b:List bd)(Q:VK),Inv X a σ H s->RelV x v->Vals xs b->r x xs H Q->cH (cM X.prog X.w) X.A (call (.builtin id) (v::b)) (EP X a σ Q) X.xe s
section
variable{X:Cx}{a b:da}{ta tb:TE}{pos:Pos}
theorem Gp{r:R2}(hr:IxR X r)(e:PE X a ta)(f:PE X b tb)(hs:o8 b):PE X (.Subscript a b pos) (Vh r ta tb):=by intro c s σ H Q I h;exact Subscript_ (Vz e f I h λv u s2 x y g i j k q=>hr a b c s2 σ g x y v u Q i j k q (hs _ _))
noncomputable def aaE(K:PySem.W.Frag):R2:=λx y H Q=>∃p xs i v,x=.ref p/\y=.int i/\gq K H p xs/\Hu xs i=ap v/\Q v H
noncomputable def af5(K:PySem.W.Frag):R2:=λx y H Q=>∃p xs i v,x=.ref p/\y=.int i/\nU K H p xs/\Hu xs i=ap v/\Q v H
theorem xU:IxR X (aaE X.K):=by
 intro e slice c s σ H x y v u Q I m o h hs;obtain⟨p,xs,i,z,rfl,rfl,A,he,q⟩:=h;cases m;obtain⟨t,rfl⟩:=o;obtain⟨f,r,g,hz⟩:=I.list A;obtain⟨j,h1,B,M,C,E⟩:=yL he;obtain⟨w,l,G⟩:=r.get B;have J:=r.length;have N:=vB;have fin:EP X c σ Q w s:=⟨z,H,I,G,q⟩;by_cases h0:0<=i
 . have k:i.toNat=j:=by rw[nk h0 E]at h1;exact ey h1
   exact item_listR g.isList h0 (by lia) (by rw[k];simpa using l) fin hs
 . have k:(i+(f.toArray.size:Int)).toNat=j:=by rw[mn (by lia) C]at h1;rw[cS,<-J];exact ey h1
   exact pf (x:=w) g.isList.typeIs slot_list_getitem.lookup (o3 (Q:=λr L=>r=w/\EP X c σ Q r L) g.isList (by lia) (by rw[cS]<;>lia) (by lia) (by rw[k];simpa using l) ⟨rfl,fin⟩) hs
theorem V4:IxR X (af5 X.K):=by intro e slice c s σ H x y v u Q I g k h hs;obtain⟨p,xs,i,z,rfl,rfl,l,he,q⟩:=h;cases g;obtain⟨t,rfl⟩:=k;obtain⟨m,r,f,hz⟩:=I.tuple l;obtain⟨j,h1,o,G,J,L⟩:=yL he;obtain⟨w,A,B⟩:=r.get o;have C:=r.length;have M:=vB;have fin:EP X c σ Q w s:=⟨z,H,I,B,q⟩;exact pf (x:=w) f.typeIs slot_tuple_getitem.lookup (getItem_tuple (j:=j) (Q:=λr E=>r=w/\EP X c σ Q r E) f (by lia) (by lia) (by rw[cS,<-C];exact h1) (by simpa using A) ⟨rfl,fin⟩) hs
theorem Bv(c:List bd)(n j:Nat)(u:bd):fF (·.setIfInBounds j u) {cls:=.type "list",data:=.seq c.toArray n}={cls:=.type "list",data:=.seq (c.set j u).toArray n}:=by simp[fF]
theorem Inv.lst{f:List (b_×Obj)}{σ:St}{H:Hp}{s:bx}{p:b_}{xs:List V}(I:Inv X f σ H s)(h:H p=ap (.lst xs)):∃(c:List bd)(n:Nat),Vals xs c/\s.heap.get? p=ap {cls:=.type "list",data:=.seq c.toArray n}/\xs.length<=sizeLine:=by obtain⟨z,c,n,r,e⟩:=I.hok p _ h;exact⟨c,n,r,e,z⟩
theorem Inv.Vc{c:List (b_×Obj)}{σ:St}{H:Hp}{s:bx}{p:b_}{xs ys:List V}{g its':List bd}{n i:Nat}{f:Obj->Obj}(I:Inv X c σ H s)(h:H p=ap (.lst xs))(ho:s.heap.get? p=ap {cls:=.type "list",data:=.seq g.toArray n})(j:f {cls:=.type "list",data:=.seq g.toArray n}={cls:=.type "list",data:=.seq its'.toArray i})(r:Vals ys its')(hz:ys.length<=sizeLine)(t:Nat):Inv X c σ (upd H p (.lst ys)) {s with heap:=s.heap.update p f,toks:=t}:=by
 have e:(s.heap.update p f).get? p=ap {cls:=.type "list",data:=.seq its'.toArray i}:=by rw[h_ f ho (by rw[j]<;>rfl),j]
 refine I.write (x:=p) (e:=p) (by rw[h];trivial) (.inl rfl) (λb u k q=>(dN _ _ (fk k)).trans q) ⟨_,e⟩ ?_;exact⟨hz,its',i,r,e⟩
noncomputable def aaC:V->V->V->Hp->(Hp->Prop)->Prop:=λo i v H Q=>∃p xs k j,o=.ref p/\i=.int k/\H p=ap (.lst xs)/\lR xs.length k=ap j/\Q (upd H p (.lst (xs.set j v)))
theorem set_list:Vk X aaC:=by
 intro c s σ H o i v E iv u Q I z A B h;obtain⟨p,xs,k,j,rfl,rfl,l,C,q⟩:=h;cases z;obtain⟨t,rfl⟩:=A;obtain⟨e,n,r,ho,hz⟩:=I.lst l;obtain⟨h1,G,m,w⟩:=Ex C;have f:=r.length;have J:=vB;have y:Inv X c σ (upd H p (.lst (xs.set j v))) {s with heap:=s.heap.update p (fF (·.setIfInBounds j u))}:=I.Vc l ho (Bv e n j u) (r.set B j) (by rw[List.length_set];exact hz) s.toks;by_cases h0:0<=k
 . have g:k.toNat=j:=by rw[nk h0 w]at h1;exact ey h1
   exact PySem.W.ki_setAt ho h0 (by lia) (by rw[cS,<-f];exact w) (by rw[g];exact⟨_,y,q⟩)
 . have g:(k+(e.toArray.size:Int)).toNat=j:=by rw[mn (by lia) m]at h1;rw[cS,<-f];exact ey h1
   exact PySem.W.ki_setBack ho (by lia) (by rw[cS,<-f];exact m) (by lia) (by rw[g];exact⟨_,y,q⟩)
theorem yH(lo hi:Option Int)(n:Nat):(i4 lo hi none n).1=((_U.fH n 0 lo:Nat):Int)/\(i4 lo hi none n).2.1=((_U.fH n n hi:Nat):Int)/\(i4 lo hi none n).2.2=1:=by
 refine⟨?_,?_,rfl⟩;.cases lo with|none=>simp[i4,_U.fH]|some i=>
     simp only[i4,_U.fH,getD_none,show(1:Int)>0 by decide,if_true];by_cases h:i<0;.simp only[h,if_true]<;>lia
     .simp only[h,if_false]<;>lia
 .cases hi with|none=>simp[i4,_U.fH]|some i=>
     simp only[i4,_U.fH,getD_none,show(1:Int)>0 by decide,if_true];by_cases h:i<0;.simp only[h,if_true]<;>lia
     .simp only[h,if_false]<;>lia
theorem vN(c:List bd)(lo hi:Option Int):slicePick c.toArray lo hi none=((c.drop (_U.fH c.length 0 lo)).take (_U.fH c.length c.length hi-_U.fH c.length 0 lo)).toArray:=by obtain⟨h1,e,f⟩:=yH lo hi c.toArray.size;unfold slicePick;rw[h1,e,f];simp only[sliceRange_one,pick_run,cS]<;>rfl
noncomputable def af8(K:PySem.W.Frag):V->Option Int->Option Int->Hp->VK->Prop:=λx lo hi H Q=>∃a xs,x=.ref a/\gq K H a xs/\∀p,H p=none->Q (.ref p) (upd H p (.lst (zG xs lo hi)))
theorem Qx:SlR X (af8 X.K):=by intro e s σ H x v m p lo hi sl Q I g hs i j h;obtain⟨a,xs,rfl,k,q⟩:=h;cases g;obtain⟨l,r,f,hz⟩:=I.list k;have c:=r.length;refine⟨"list",_,slot_list_getitem.lookup,f.isList.typeIs,?_⟩;refine wpAny_getItem_list_slice f.isList hs i j .none (by simp) ?_ (by rw[cS]<;>lia);rw[vN,<-c];refine⟨.ref s.heap.objs.size,_,I.laid (t':=s.toks) (o:=.lst (zG xs lo hi)) (λb t q=>iZ q) (eU) ?_,rfl,q _ (I.hok.fresh (eU))⟩;exact⟨gT (rm xs lo hi) hz,_,0,(r.drop (_U.fH xs.length 0 lo)).take (_U.fH xs.length xs.length hi-_U.fH xs.length 0 lo),dl _ rfl⟩
noncomputable def wJ:V->Bool|.non=>bj|.bl _=>bj|.int _=>bj|.str _=>bj|_=>av
noncomputable def ZP:V->V->Bool|.non,.non=>bj|.bl a,.bl b=>a==b|.bl a,.int b=>(if a then 1 else 0)==b|.int a,.bl b=>a==(if b then 1 else 0)|.int a,.int b=>a==b|.str a,.str b=>a==b|_,_=>av
theorem U3{A:et}{y:V}{u v:bd}(e:RelV y u)(c:RelV x v)(g:wJ y=bj)(f:wJ x=bj):gd A s u v (ZP y x):=by cases y with
 |non=>cases e;cases x with|non=>cases c;exact lb _|bl b=>cases c;exact none_bool b|int b=>obtain⟨t,rfl⟩:=c;exact none_int b t|str b=>obtain⟨t,rfl⟩:=c;exact none_str b t|_=>exact absurd (show av=bj from f) dc
 |bl a=>cases e;cases x with|non=>cases c;exact bool_none a|bl b=>cases c;exact bool_bool a b|int b=>obtain⟨t,rfl⟩:=c;exact bool_int a b t|str b=>obtain⟨t,rfl⟩:=c;exact bool_str a b t|_=>exact absurd (show av=bj from f) dc
 |int a=>obtain⟨t',rfl⟩:=e;cases x with|non=>cases c;exact int_none a t'|bl b=>cases c;exact int_bool a t' b|int b=>obtain⟨t,rfl⟩:=c;exact int_int a t' b t|str b=>obtain⟨t,rfl⟩:=c;exact int_str a t' b t|_=>exact absurd (show av=bj from f) dc
 |str a=>obtain⟨t',rfl⟩:=e;cases x with|non=>cases c;exact str_none a t'|bl b=>cases c;exact str_bool a t' b|int b=>obtain⟨t,rfl⟩:=c;exact str_int a t' b t|str b=>obtain⟨t,rfl⟩:=c;exact str_str a t' b t|_=>exact absurd (show av=bj from f) dc
 |_=>exact absurd (show av=bj from g) dc
noncomputable def Qo(x:V)(u:bd):Bool:=match u with|.none=>ZP .non x|.bool b=>ZP (.bl b) x|.int i _=>ZP (.int i) x|.str z _=>ZP (.str z) x|_=>av
theorem Xi{y:V}{u:bd}(r:RelV y u)(f:wJ y=bj):Qo x u=ZP y x:=by cases y with|non=>cases r;rfl|bl b=>cases r;rfl|int i=>obtain⟨t,rfl⟩:=r;rfl|str z=>obtain⟨t,rfl⟩:=r;rfl|_=>exact absurd (show av=bj from f) dc
theorem ur{A:et}{s:bx}{x:V}{v:bd}(e:RelV x v)(g:wJ x=bj):∀{xs:List V}{c:List bd},Vals xs c->xs.all wJ=bj->∀u∈c,gd A s u v (Qo x u)
 |_,_,.nil,_=>λu hu=>by cases hu|y::xs,u::c,.cons r t,f=>λh hu=>by
   rw[mE,fb]at f;rcases de.mp hu with rfl|hu;.rw[Xi r f.1];exact U3 r e f.1 g
   .exact ur e g t f.2 h hu
theorem yr:eX X (.builtin "len") (λxs H Q=>∃p ys,xs=[.ref p]/\(gq X.K H p ys\/nU X.K H p ys)/\Q (.int ys.length) H):=by
 intro i s σ H xs k Q I r h;obtain⟨p,ys,rfl,hq,q⟩:=h;obtain⟨u,rfl,j⟩:=vals1 r;cases j;have l:=vB;rcases hq with hq|hq;.obtain⟨e,f,g,hz⟩:=I.list hq;have c:=f.length;exact Calls.call_len_list g.isList (by simp only[cS]<;>lia) ⟨.int ys.length,H,I.tok _,⟨s.toks+1,by rw[cS,c]⟩,q⟩
 .obtain⟨e,f,g,hz⟩:=I.tuple hq;have c:=f.length;exact len_tuple g (by simp only[cS]<;>lia) ⟨.int ys.length,H,I.tok _,⟨s.toks+1,by rw[cS,c]⟩,q⟩
theorem xP:eX X (.type "list") (λxs H Q=>∃p ys,xs=[.ref p]/\(gq X.K H p ys\/nU X.K H p ys)/\∀l,H l=none->Q (.ref l) (upd H l (.lst ys))):=by
 intro i s σ H xs v Q I r h;obtain⟨p,ys,rfl,hq,q⟩:=h;obtain⟨u,rfl,t⟩:=vals1 r;cases t;have fin:∀(c:List bd),Vals ys c->ys.length<=sizeLine->∀(h':ef)(f:Nat),(∀b m,s.heap.get? b=ap m->h'.get? b=ap m)->h'.get? s.heap.objs.size=ap {cls:=.type "list",dict:=none,data:=.seq c.toArray f,slots:=#[]}->EP X i σ Q (.ref s.heap.objs.size) {s with heap:=h'}:=λc g hz h' f kp e=>⟨.ref s.heap.objs.size,_,I.laid (t':=s.toks) kp (eU) (show bT X.prog X.w _ h' _ (.lst ys)from⟨hz,c,f,g,e⟩),rfl,q _ (I.hok.fresh (eU))⟩;rcases hq with hq|hq;.obtain⟨c,g,k,hz⟩:=I.list hq;have j:=g.length;obtain⟨o,ho,hc,n,hd⟩:=k.isList;exact call_list_seq p (.inl rfl) ho hc hd (λh' f kp e=>fin c g hz h' f kp e) (by simp only[cS]<;>lia)
 .obtain⟨c,g,k,hz⟩:=I.tuple hq;have j:=g.length;obtain⟨o,ho,hc,n,hd⟩:=k;exact call_list_seq p (.inr rfl) ho hc hd (λh' f kp e=>fin c g hz h' f kp e) (by simp only[cS]<;>lia)
theorem oh:eX X (.type "tuple") (λxs H Q=>∃p ys,xs=[.ref p]/\((gq X.K H p ys/\∀l,H l=none->Q (.ref l) (upd H l (.tup ys)))\/(nU X.K H p ys/\Q (.ref p) H))):=by
 intro c s σ H xs y Q I r h;obtain⟨p,ys,rfl,h⟩:=h;obtain⟨u,rfl,t⟩:=vals1 r;cases t;rcases h with⟨g,q⟩|⟨g,q⟩;.obtain⟨f,i,j,hz⟩:=I.list g;have k:=i.length;refine call_tuple_list j.isList (λh' kp=>?_) (by simp only[cS]<;>lia);have m:Inv X c σ H {s with heap:=h'}:=I.kept (t':=s.toks) kp;have v:Inv X c σ (upd H h'.objs.size (.tup ys)) {s with heap:=h'.push {cls:=.type "tuple",data:=.seq f.toArray}}:=m.laid (t':=s.toks) (λb o e=>iZ e) (eU) (show bT X.prog X.w _ _ _ (.tup ys)from⟨hz,f,i,kH _ _⟩);exact⟨.ref h'.objs.size,_,v,rfl,q _ (m.hok.fresh (eU))⟩
 .obtain⟨f,i,j,hz⟩:=I.tuple g;exact call_tuple_same j ⟨.ref p,H,I,rfl,q⟩
noncomputable def tyV(K:PySem.W.Frag)(T:String)(x:V)(H:Hp):Prop:=match x with|.str _=>T="str"|.int _=>T="int"|.ref p=>(T="list"/\∃xs,gq K H p xs)\/(T="tuple"/\∃o,K.lookup p=ap o/\o.cls=.type "tuple"/\o.dict=none)\/(T="dict"/\((∃kvs,H p=ap (.dK kvs))\/∃kvs,H p=ap (.dT kvs)))\/(T="set"/\∃S n,H p=ap (.set S n))|_=>False
theorem WR{g:List (b_×Obj)}{σ:St}{H:Hp}{T:String}{v:bd}(I:Inv X g σ H s)(r:RelV x v)(ty:tyV X.K T x H):
 s.TypeIs v T/\∀a,v=.ref a->∃j,s.heap.get? a=ap j/\j.dict=none:=by cases x with|str z=>obtain⟨t,rfl⟩:=r;cases(show T="str"from ty);exact⟨typeIs_str s z t,λ_ e=>nomatch e⟩|int i=>obtain⟨t,rfl⟩:=r;cases(show T="int"from ty);exact⟨md s i t,λ_ e=>nomatch e⟩|ref p=>
   cases r;rcases ty with⟨rfl,xs,l⟩|⟨rfl,o,f,hc,hd⟩|⟨rfl,f⟩|⟨rfl,S,n,f⟩;.obtain⟨m,_,k,_⟩:=I.list l;refine⟨k.isList.typeIs,λa e=>?_⟩;cases e;obtain⟨o,n,e,c,hd,_⟩:=k;exact⟨o,e,hd⟩
   .refine⟨⟨o,I.Pz p o f,hc⟩,λa e=>?_⟩;cases e;exact⟨o,I.Pz _ o f,hd⟩
   . have z:∃o,s.heap.get? p=ap o/\o.ExactDict:=by
      rcases f with⟨kvs,f⟩|⟨kvs,f⟩;.obtain⟨_,_,_,_,o,_,_,e,ex,_⟩:=I.hok p _ f;exact⟨o,e,ex⟩
      .obtain⟨_,_,_,_,o,_,_,e,ex,_⟩:=I.hok p _ f;exact⟨o,e,ex⟩
     obtain⟨o,e,ex⟩:=z;refine⟨⟨o,e,ex.1⟩,λa h=>?_⟩;cases h;exact⟨o,e,ex.2.1⟩
   .obtain⟨o,_,_,_,e,ex,_⟩:=I.hok p _ f;refine⟨⟨o,e,ex.1⟩,λa h=>?_⟩;cases h;exact⟨o,e,ex.2.1⟩|_=>exact e_ ty
noncomputable def tBM(K:PySem.W.Frag)(T:String)(r:V->List V->Hp->VK->Prop)(to:TE)(t:TA):TE:=λσ H Q=>to σ H λx c=>tyV K T x c/\t σ c λxs e=>r x xs e Q
variable{o e:da}{es:List da}{to:TE}{t:TA}{name:Str}{apos cpos:Pos}{T id:String}{r:V->List V->Hp->VK->Prop}
theorem Ga(m:PlainAttrs T)(slot:Slot T name id)(k:typeOf (.builtin id)=eL (.type "method_descriptor"))(p:MtR X id r)(ho:PE X o to)(q:PA X (e::es) t)(g:g_ o name X.env (eg o X.env)=eg o X.env:=by rfl)(j:((fS cpos (cj (e::es) X.env)).all (λx=>!x.1)&&(mA cpos (kf [] X.env)).all (λx=>x.1.isSome)&&decide ((e::es).length+([]:List iX).length+(if([]:List iX).isEmpty then 0 else 1)<30))=bj:=by rfl)(i:(apos.endLine==cpos.line)=bj:=by rfl)(hs:cj (e::es) X.env=(av,eg e X.env)::cj es X.env:=by rfl)(f:(fS cpos (cj es X.env)).any (·.1)=av:=by rfl):PE X (.Call (.Attribute o name apos) (e::es) [] cpos) (tBM X.K T r to t):=by intro c s σ H Q I h;refine wpAny_Call_method_late g j i rfl (cN (ho c s σ H _ I h) λv s1⟨x,H1,I1,r1,ty,q1⟩=>?_);obtain⟨h1,u⟩:=WR I1 r1 ty;refine⟨T,id,m,slot,k,h1,u,?_⟩;have l:=q cpos c s1 σ H1 _ I1 q1;rw[hs]at l ⊢;refine kb (by show(av||(fS cpos (cj es X.env)).any (·.1))=av;rw[f]<;>rfl) (kD ?_);exact cN l λw s2⟨vs,H2,I2,r2,q2⟩=>p c s2 σ H2 x vs v w Q I2 r1 r2 q2
end
noncomputable def MtM(X:Cx)(id:String)(r:V->List V->Hp->VK->Prop):Prop:=∀(a:List (b_ × Obj))(s:bx)(σ:St)(H:Hp)(x:V)(xs:List V)(v:bd)(b:List bd)(Q:VK),Inv X a σ H s->RelV x v->Vals xs b->r x xs H Q->cH (cM X.prog X.w) X.A (call (.builtin id) (v::b)) (EP X a σ Q) X.xe s
theorem Vals.one:∀{x:V}{a:List bd},Vals [x] a->∃u,a=[u]/\RelV x u|x,a,h=>by cases h with|cons r t=>cases t;exact⟨_,rfl,r⟩
theorem Vals.two:∀{x y:V}{a:List bd},Vals [x,y] a->∃u v,a=[u,v]/\RelV x u/\RelV y v|x,y,a,h=>by cases h with|cons r t=>cases t with|cons q z=>cases z;exact⟨_,_,rfl,r,q⟩
theorem Vals.zero:∀{a:List bd},Vals [] a->a=[]|_,.nil=>rfl
theorem Vals.reverse{xs:List V}{a:List bd}(h:Vals xs a):Vals xs.reverse a.reverse:=by induction h with|nil=>exact .nil|cons r t b=>rw[mo,mo];exact Vals.append b (.cons r .nil)
theorem Vals.rep{xs:List V}{a:List bd}(h:Vals xs a):∀k:Nat,Vals (cp k xs).flatten (cp k a).flatten|0=>.nil|k+1=>by rw[hJ,hJ,mv,mv];exact Vals.append h (Vals.rep h k)
theorem foldl_rep(a:List bd):∀(k:Nat)(b:List bd),qo (λx1 c=>x1++c) b.toArray (cp k a.toArray)=(b++(cp k a).flatten).toArray
 |0,b=>by simp|k+1,b=>by
   have e:b.toArray++a.toArray=(b++a).toArray:=by simp
   have f:(b++a)++(cp k a).flatten=b++(cp (k+1) a).flatten:=by rw[hJ,mv,ia]
   rw[<-f,<-foldl_rep a k (b++a),<-e,hJ,List.foldl_cons]
section
variable{X:Cx}{pins:List (b_×Obj)}{σ:St}{H:Hp}{s:bx}{l b:b_}{xs ys zs:List V}
theorem Inv.agn{a its':List bd}{f:Array bd->Array bd}{t':Nat}(I:Inv X pins σ H s)(c:H l=ap (.lst xs))(e:s.heap.get? l=ap {cls:=.type "list",data:=.seq a.toArray n})(g:f a.toArray=its'.toArray)(h:Vals ys its')(hz:ys.length<=sizeLine):Inv X pins σ (upd H l (.lst ys)) {s with heap:=s.heap.update l (fF f),toks:=t'}:=by have q:=PySem.IsL.update e f;rw[g]at q;refine I.write (x:=l) (e:=l) (by rw[c];exact trivial) (.inl rfl) (λk u i j=>(dN s.heap (fF f) (fk i)).trans j) ⟨_,q⟩ ?_;exact⟨hz,its',_,h,q⟩
theorem Inv.XH{a:List bd}{t':Nat}(I:Inv X pins σ H s)(c:Vals ys a)(hz:ys.length<=sizeLine):Inv X pins σ (upd H s.heap.objs.size (.lst ys)) {s with heap:=s.heap.push {cls:=.type "list",data:=.seq a.toArray},toks:=t'}:=I.laid (λ_ _ q=>iZ q) (eU) ⟨hz,a,0,c,dl _ rfl⟩
theorem Inv.fresh(I:Inv X pins σ H s):H s.heap.objs.size=none:=I.hok.fresh (eU)
theorem Inv.afg(I:Inv X pins σ H s)(c:H l=ap (.lst xs)):xs.length<=sizeLine/\∃(a:List bd)(n:Nat),Vals xs a/\xs.length=a.length/\s.heap.get? l=ap {cls:=.type "list",data:=.seq a.toArray n}:=by obtain⟨z,a,n,r,e⟩:=I.hok l _ c;exact⟨z,a,n,r,r.length,e⟩
theorem Jq(h:n<=sizeLine):qk n=av:=by unfold qk;exact decide_eq_false (by lia)
end
section
variable{X:Cx}
noncomputable def QC:V->List V->Hp->VK->Prop:=λx vs H Q=>∃l xs y,x=.ref l/\vs=[y]/\H l=ap (.lst xs)/\xs.length<sizeLine/\Q .non (upd H l (.lst (xs++[y])))
theorem qM:MtM X "list.append" QC:=by intro b s σ H x vs v j Q I f g h;obtain⟨l,xs,y,rfl,rfl,c,hz,q⟩:=h;cases f;obtain⟨u,rfl,i⟩:=g.one;obtain⟨z,a,n,r,k,e⟩:=I.afg c;refine jS F.slot_list_append ⟨_,e,rfl⟩ F.entry_list_append (F.args_list_append_2 _ _) (PySem.list_append l a.toArray n u (by rw[cS];lia)) ⟨e,?_⟩;refine⟨.non,_,I.agn (its':=a++[u]) c e (by simp) (r.append (.cons i .nil)) ?_,rfl,q⟩;rw[d_,n9];lia
theorem len_rep{a:Type}(xs:List a)(k:Nat):(cp k xs).flatten.length=k*xs.length:=by induction k with|zero=>simp|succ k b=>rw[hJ,mv,d_,b,Nat.succ_mul,Nat.add_comm]
end
end _L
namespace _A
open PySem W Calls PyProof.Rows
theorem rT{P:Params}{h:ef}:∀(ns:List Int)(vs:List bd),WellAll P h vs (ns.map WData.int)->gl vs ns:=by intro ns;induction ns with|nil=>intro vs w;rw[ms]at w;cases w;exact .nil|cons n ns c=>intro vs w;rw[dQ]at w;cases w with|cons a b=>cases a;exact .cons _ _ (c _ b)
theorem Ha{l:OpenLaw}{n:Nat}(m:l.most=ap n){P:Params}{h:ef}{args:List WData}{b:List bd}(c:l.row.toRowW.claim.pre args=bj)(j:WellAll P h b args):∃a vs ns,b=[dq a]/\args=[WData.list (ns.map WData.int)]/\h.get? a=ap {cls:=.type "list",data:=.seq vs.toArray}/\gl vs ns/\ns.length<=n:=by
 have k:WShape.hasAll [] args [.list .int]=bj:=(pre_splitW c).1;have hc:l.pre.holds [] {args:=args}=bj:=(pre_splitW c).2;obtain⟨d,r,rfl,h1,o⟩:=hasAllW_cons k;obtain rfl:=hasAllW_nil o;obtain⟨xs,rfl,p⟩:=hasW_list h1;obtain⟨ns,rfl⟩:=items_int p;have e:ns.length<=n:=by
  unfold OpenLaw.pre at hc;have g:(WTm.not (.lt (.lit (.int (n:Int))) (.len (.arg 0)))).holds [] {args:=[.list (ns.map .int)]}=bj:=by have g:=(holds_andW hc).1;rw[m]at g;exact g
  have i:=condW_of g (w_not (w_lt w_lit (w_len_list (w_arg rfl))));rw[dV]at i;refine mh λq=>?_;have s:(n:Int)<((ns.length:Nat):Int):=by lia
  first|(rw[decide_eq_true s]at i;exact absurd i (by decide))|(simp at i;lia)
 cases j with|cons t u=>cases u;cases t with|list ho f=>exact⟨_,_,ns,rfl,rfl,ho,rT ns _ f,e⟩
theorem Hy(l:OpenLaw)(args:List WData):l.row.toRowW.claim.post args (.bool bj) args=bj:=postW_of (r:=l.row.toRowW) (X:=(bj==bj)) (show WShape.has [] (.bool bj) .bool=bj by first|rfl|decide|simp[WShape.has,WShape.arms,WShape.armsAll]) (show(WTm.eq .res (.lit (.bool bj))).value [] {args:=args,res:=ap (.bool bj),after:=args}=ap (.bool (bj==bj))from w_eq_bool (w_res rfl) w_lit) rfl
theorem zR{l:OpenLaw}{n:Nat}{q:c_}{c:List Str}{z:(Str->Option bd)->ef->Prop}{A:eh->ef->Prop}{d:DefRec}(H:l.most=ap n)(s:d.params.defaults=[])(call:∀(w:eh)(s₀ b:bx)(mg t:Str->Option bd)(h:b_)(o:Obj)(u m e:bd)(a:b_)(vs:List bd)(ns:List Int),Ground q c [] z w s₀ mg t b.heap->A w b.heap->b.heap.get? h=ap o->o.data=.func (docDef d.name d.params d.body d.scope u m e)->b.heap.CodeRec m d.name->mg d.name=ap (.ref h)->b.heap.get? a=ap {cls:=.type "list",data:=.seq vs.toArray}->gl vs ns->ns.length<=n->b.gens=#[]->kS (cM l.prog w) lI (.call (.ref h) ⟨[.ref a],[]⟩) (λr p=>r=.ok (.ret (.bool bj))/\OldK b.heap p.heap/\p.os=b.os/\kU p.gens) b):WalkO q c z A l.row.toRowW d [] (λf vs=>PySem.call f vs):=by intro w s₀ b mg t G Y h o u m e I kV ho hd v B x J args C as i E L y M;obtain rfl:I=.none:=Dflts.none B s;obtain rfl:kV=.none:=Dflts.noKw B;obtain⟨a,vs,ns,rfl,rfl,j,g,k⟩:=Ha H i y;refine enter_call (pS (call w s₀ b mg t h o u m e a vs ns G Y ho (fd_plain hd) v x j g k J) λr p N=>?_);obtain⟨rfl,O,Q,U⟩:=N;exact⟨.inl ⟨.bool bj,.bool bj,[],rfl,λ_=>rfl,.bool bj,Hy l _,λ_=>⟨List.Pairwise.nil,λ_ W=>(nomatch W)⟩⟩,O,Q,U⟩
end _A
namespace _L
open PySem Spec PyProof.Rows
theorem wR:∀{vs:List bd}{ns:List Int},gl vs ns->Vals (ns.map V.int) vs|_,_,.nil=>.nil|_,_,.cons n t h=>.cons ⟨t,rfl⟩ (wR h)
noncomputable def Only(H:Hp):Prop:=∀b,H b=none\/∃o xs,H b=ap (.eN o (.lst xs))
theorem Jo{P:c_}{w:eh}{K:PySem.W.Frag}{mg G:Str->Option bd}{CX:Iz}{k:Nat}{I a:b_}{fd:gz}{x:Str}{sp:Sp}{c:bx}{vs:List bd}{ns:List Int}(O:K.In c.heap)(p:c.heap.Ns cK mg)(f:c.heap.Ns builtinsNs G)(J:∀x:Str,x≠"__name__"->G x=ez x)(t:c.heap.NoLimit)(hg:c.gens=#[])(E:c.heap.get? a=ap {cls:=.type "list",data:=.seq vs.toArray})(hi:gl vs ns)(Q:ns.length<=sizeLine)(hr:jo k lI)(F:∀base:ef,K.In base->base.Ns cK mg->iJ P w K mg base CX k I fd [x] sp)(l:∀(s:bx)(u:bd),nI s fd ⟨[u],[]⟩ [(x,u)])(hsp:∀H:Hp,Only H->gq K H a (ns.map V.int)->sp [.ref a] H (λv _=>v=.bl bj) λ_ _ _=>False)(L:∀H e g,CX [] H c (λ_ _ _=>False) e g->False):kS (cM P w) lI (.call (.ref I) ⟨[.ref a],[]⟩) (λr g=>r=.ok (.ret (.bool bj))/\OldK c.heap g.heap/\g.os=c.os/\kU g.gens) c:=by
 have U:=wR hi;have y:=hi.length--from an abstract heap in which nothing but the script may be tracked
 have j:∀H:Hp,Only H->gq K H a (ns.map V.int)->lO P w H c.heap->(∀b,H b≠none->b=a)->(H a≠none->K.lookup a=none)->kS (cM P w) lI (.call (.ref I) ⟨[.ref a],[]⟩) (λr g=>r=.ok (.ret (.bool bj))/\OldK c.heap g.heap/\g.os=c.os/\kU g.gens) c:=by
  intro H X hS hok Y hK;have Z:∀{b:b_}{o:Obj},c.heap.get? b=ap o->H b=none->(yF c.heap H).get? b=ap o:=λe n=>Lz e n;have M:∀{b:b_}{o:Obj}{es:Array DictEntry}{ep:Nat},c.heap.get? b=ap o->o.data=.dict es ep->H b=none:=λ{b o es ep}e d=>by cases q:H b with|none=>rfl|some u=>have N:b=a:=Y b (by rw[q];simp);subst N;rw[E]at e;cases e;have d':Data.seq vs.toArray _=Data.dict es ep:=d;cases d'
  have i:∀{b:b_}{m:Str->Option bd},c.heap.Ns b m->(yF c.heap H).Ns b m:=λ{b m}⟨o,es,ep,e,d,r⟩=>⟨o,es,ep,Z e (M e d),d,r⟩;have A:K.In (yF c.heap H):=λb o e=>Z (O b o e) (by cases q:H b with|none=>rfl|some u=>have N:b=a:=Y b (by rw[q];simp);subst N;rw[hK (by rw[q];simp)]at e;cases e);have hM:Mod K mg (yF c.heap H):=⟨A,i p,⟨G,i f,J⟩,let⟨mc,h1,h2⟩:=t;⟨mc,i h1,h2⟩⟩;have e0:Qi P w K mg (yF c.heap H) lI [] c H:=⟨rfl,hM,λb o e=>Pj e,n5 (Hj _ _),trivial,λb f=>absurd (show b∈([]:List b_)from f) (by simp),hok,.of_eq hg⟩;refine pS ((F _ A (i p)).run lI [] c H ⟨[.ref a],[]⟩ [.ref a] [.ref a] _ _ hr e0 (l c (.ref a)) (.cons rfl .nil) (hsp H X hS)) λr g h=>?_;cases r with|error e=>exact(L H e g h).elim|ok fl=>cases fl with|next=>exact e_ h|brk=>exact e_ h|cont=>exact e_ h|ret u=>obtain⟨v,H',os,bare,un,B,r',q⟩:=h;have q':v=.bl bj:=q;subst q';obtain rfl:u=i5 bj:=r';refine⟨rfl,OldK.of_keep λb o e=>?_,os,bare⟩;cases q:H b with|none=>exact un.keep b o e q (by intro z;exact absurd (show b∈([]:List b_)from z) (by simp)) (by simp)|some u=>
        rcases X b with z|⟨ob,xs,z⟩;.rw[q]at z;cases z
        .have z2:=un.rY b ob _ z;obtain⟨e1,_⟩:=hok b _ z;obtain⟨e2,_⟩:=B b _ z2;rw[e]at e1;cases e1;exact e2
 cases hk:K.lookup a with|some o=>--the script is one of the module's own objects
   have e:=O a o hk;rw[E]at e;cases e;refine j (λ_=>none) (λ_=>.inl rfl) (.inr ⟨_,vs.toArray,_,hk,rfl,rfl,rfl,by rw[cS,y];exact Q,by simpa using U⟩) (λb u z=>by have C:(none:Option HO)=ap u:=z;cases C) (λb z=>absurd rfl z) λz=>absurd rfl z|none=>
   refine j (λb=>if b=a then ap (.eN {cls:=.type "list",data:=.seq vs.toArray} (.lst (ns.map V.int)))else none) (λb=>?_) (.inl (.inr ⟨{cls:=.type "list",data:=.seq vs.toArray},if_pos rfl⟩)) (λb u z=>?_) (λb z=>?_) λ_=>hk
   . by_cases f:b=a;.exact .inr ⟨_,_,if_pos f⟩
     .exact .inl (if_neg f)
   . by_cases f:b=a;.have C:=(if_pos f).symm.trans z;cases C;subst f;exact⟨E,by rw[dV];exact Q,vs,_,U,E⟩
     .have C:=(if_neg f).symm.trans z;cases C
   . by_cases f:b=a;.exact f
     .exact absurd (if_neg f) z
theorem Ov{l:PySem.W.OpenLaw}{n k:Nat}{q:c_}{i:List Str}{I:(Str->Option bd)->ef->Prop}{C:eh->ef->Prop}{d:DefRec}{K:Params->PySem.W.Frag}{CX:eh->Iz}{sp:eh->Sp}{x:Str}(J:l.most=ap n)(t:n<=sizeLine)(y:d.params.defaults=[])(hr:jo k lI)(L:∀(w:eh)(h:ef),C w h->(K w.params).In h)(F:∀(w:eh)(mg:Str->Option bd)(r:b_)(h:ef),(K w.params).In h->h.Ns cK mg->mg d.name=ap (.ref r)->∃ fd:gz,(∀(s:bx)(u:bd),nI s fd ⟨[u],[]⟩ [(x,u)])/\∀base:ef,(K w.params).In base->base.Ns cK mg->iJ l.prog w (K w.params) mg base (CX w) k r fd [x] (sp w))(hsp:∀(w:eh)(H:Hp)(a:b_)(ns:List Int),ns.length<=n->Only H->gq (K w.params) H a (ns.map V.int)->sp w [.ref a] H (λv _=>v=.bl bj) λ_ _ _=>False)(z:∀(w:eh)(H:Hp)(s:bx)(e:bd)(A:bx),CX w [] H s (λ_ _ _=>False) e A->False):PySem.W.WalkO q i I C l.row.toRowW d [] (λf vs=>PySem.call f vs):=by refine _A.zR J y λw s₀ m mg mb r o pm cd M a vs ns G Y ho hd N B p j c O=>?_;have E:=L w _ Y;obtain⟨fd,Q,U⟩:=F w mg r _ E G.T.g B;exact Jo E G.T.g G.T.b G.T.builtins G.T.nolimit O p j (gT c t) hr U Q (λH X Z=>hsp w H a ns c X Z) λH e A=>z w H m e A
theorem Nh{l:PySem.W.OpenLaw}{n k:Nat}{q:c_}{b:List Str}{p:(Str->Option bd)->ef->Prop}{m:eh->ef->Prop}{d:DefRec}{K:Params->PySem.W.Frag}{CX:Iz}{sp:PySem.W.Frag->Sp}{x:Str}(r:l.most=ap n)(c:n<=sizeLine)(g:d.params.defaults=[])(hr:jo k lI)(t:∀(w:eh)(h:ef),m w h->(K w.params).In h)(F:∀(w:eh)(mg:Str->Option bd)(o:b_)(h:ef),(K w.params).In h->h.Ns cK mg->mg d.name=ap (.ref o)->∃ fd:gz,(∀(s:bx)(u:bd),nI s fd ⟨[u],[]⟩ [(x,u)])/\∀base:ef,(K w.params).In base->base.Ns cK mg->iJ l.prog w (K w.params) mg base CX k o fd [x] (sp (K w.params)))(hsp:∀(K:PySem.W.Frag)(H:Hp)(a:b_)(ns:List Int),ns.length<=n->Only H->gq K H a (ns.map V.int)->sp K [.ref a] H (λv _=>v=.bl bj) λ_ _ _=>False)(i:∀(H:Hp)(s:bx)(e:bd)(j:bx),CX [] H s (λ_ _ _=>False) e j->False):PySem.W.WalkO q b p m l.row.toRowW d [] (λf vs=>PySem.call f vs):=Ov (K:=K) (CX:=λ_=>CX) (sp:=λw=>sp (K w.params)) r c g hr t F (λw H a ns h1 y z=>hsp (K w.params) H a ns h1 y z) λ_ H s e j=>i H s e j
end _L
namespace _L
open PySem Spec PyProof.Rows
noncomputable def jb(s:ek):Arguments:=match s with|.FunctionDef _ a _ _ _ _ _ _ _ _=>a|_=>{posonlyargs:=[],args:=[],vararg:=none,kwonlyargs:=[],kw_defaults:=[],kwarg:=none,defaults:=[]}
noncomputable def fX(s:ek):List ek:=match s with|.FunctionDef _ _ b _ _ _ _ _ _ _=>b|_=>[]
noncomputable def aA(s:ek):iE:=match s with|.FunctionDef _ _ _ _ _ _ a _ _ _=>a|_=>{kind:=.function,names:=[],isGenerator:=av,isCoroutine:=av}
noncomputable abbrev Jc:Iz:=λ_ _ _ _ _ _=>False
noncomputable abbrev E0:XK:=λ_ _ _=>False
theorem SM{X:Cx}:Passes Jc X E0:=λ_ _ _ _ _ _ _ h=>h.elim
structure gn(K:PySem.W.Frag)(x qual:Str)(st:ek)(f:b_)(fd:gz):Prop where
 ex:∃(oc:bd)(od:Option b_)(kV doc pm:bd)(an:Option b_)(cdv ct:bd)(osl:Array (Option bd)),fd=PySem.W.fnOf x qual (jb st) (fX st) (aA st) .none kV doc pm an cdv ct/\K.lookup f=ap ⟨oc,od,.func fd,osl⟩/\PySem.W.codeIn K cdv qual=bj
 kp:keepIn K (.ref f)=bj
section
variable{P:c_}{w:eh}{K:PySem.W.Frag}{mg:Str->Option bd}{base:ef}
theorem gn.ok{x qual:Str}{st:ek}{f:b_}{fd:gz}{N ps:List Str}{k:Nat}{sp:Sp}(F:gn K x qual st f fd)(S:aO N ps (aA st))(len:∀vs H Q E,sp vs H Q E->vs.length=ps.length)(a:∀(cdv:bd)(A:et)(outer:List Env)(s:bx)(H:Hp)(vs:List V)(Q:VK)(E:XK),jo k (A.deeper (jO qual (aA st) s.heap.objs.size f cdv))->sp vs H Q E->∃t,qp (jG Jc P w K mg base N qual (aA st) f cdv A outer s H E).nox (fX st) t/\t {nx:=λ_ H'=>Q .non H',rt:=Q} (start N vs) H):iJ P w K mg base Jc (k+1) f fd ps sp:=by obtain⟨oc,od,kV,c,g,i,cdv,ct,e,rfl,lk,b⟩:=F.ex;refine TV lk b S len λA outer s H vs Q E hr hsp=>?_;obtain⟨t,h,q⟩:=a cdv A outer s H vs Q E hr hsp;exact⟨t,h.nox,q⟩
theorem gn.binds{x qual:Str}{st:ek}{f:b_}{fd:gz}{ps:List Str}(F:gn K x qual st f fd)(h:∀(kV a b:bd)(c:Option b_)(cdv ct:bd)(e:List bd),e.length=ps.length->my (PySem.W.fnOf x qual (jb st) (fX st) (aA st) .none kV a b c cdv ct) ⟨e,[]⟩=eL (ps.zip e)):Binds K fd ps []:=by obtain⟨oc,od,kV,a,b,c,cdv,ct,g,rfl,lk,i⟩:=F.ex;exact .all (h kV a b c cdv ct)
theorem W9{x qual:Str}{st:ek}{f:b_}{oc:bd}{od e:Option b_}{b:Array (Option bd)}{kV a g cdv ct:bd}(l:K.lookup f=ap ⟨oc,od,.func (PySem.W.fnOf x qual (jb st) (fX st) (aA st) .none kV a g e cdv ct),b⟩)(c:PySem.W.codeIn K cdv qual=bj)(k:keepIn K (.ref f)=bj):gn K x qual st f (PySem.W.fnOf x qual (jb st) (fX st) (aA st) .none kV a g e cdv ct):=⟨⟨oc,od,kV,a,g,e,cdv,ct,b,rfl,l,c⟩,k⟩
end
noncomputable def aJ(H H':Hp):Prop:=∀b o,H b=ap o->H' b=ap o
theorem aJ.refl(H:Hp):aJ H H:=λ_ _ h=>h
theorem aJ.trans{H e f:Hp}(a:aJ H e)(b:aJ e f):aJ H f:=λc o h=>b c o (a c o h)
theorem aJ.seq{K:PySem.W.Frag}{H H':Hp}{a:b_}{xs:List V}(e:aJ H H')(h:gq K H a xs):gq K H' a xs:=by
 rcases h with(h|⟨o,h⟩)|h;.exact .inl (.inl (e _ _ h))
 .exact .inl (.inr ⟨o,e _ _ h⟩)
 .exact .inr h
end _L
namespace _H
open PySem
set_option genInjectivity true in inductive Dc where|k(kvs:List (Int×Int))|t(kvs:List (List Int×Int))deriving DecidableEq
set_option genInjectivity true in inductive D where|non|bl(b:Bool)|int(i:Int)|str(s:Str)|tup(ds:List D)|lst(ds:List D)|fZ(m:Dc)|dv(ks:List Int)(ds:List D)deriving Inhabited
mutual
noncomputable def nZ:D->D->Bool|.non,.non=>bj|.bl a,.bl b=>a==b|.bl a,.int i=>(if a then(1:Int)else 0)==i|.int i,.bl a=>i==(if a then(1:Int)else 0)|.int i,.int j=>i==j|.str a,.str b=>a==b|.tup xs,.tup ys=>lg xs ys|.lst xs,.lst ys=>lg xs ys|.fZ a,.fZ b=>decide (a=b)|.dv a xs,.dv b ys=>decide (a=b)&&lg xs ys|_,_=>av
noncomputable def lg:List D->List D->Bool|[],[]=>bj|x::xs,y::ys=>nZ x y&&lg xs ys|_,_=>av
end
theorem oG:lg [] []=bj:=rfl
theorem lE{x y:D}{xs ys:List D}:lg (x::xs) (y::ys)=(nZ x y&&lg xs ys):=rfl
theorem uY{y:D}{ys:List D}:lg [] (y::ys)=av:=rfl
theorem ug{x:D}{xs:List D}:lg (x::xs) []=av:=rfl
theorem pqi{i j}:nZ (.int i) (.int j)=(i==j):=(rfl)
theorem pqt{x y}:nZ (.tup x) (.tup y)=lg x y:=(rfl)
theorem pql{x y}:nZ (.lst x) (.lst y)=lg x y:=(rfl)
noncomputable def j8:Nat->D->Bool|_,.non=>bj|_,.bl _=>bj|_,.int _=>bj|_,.str _=>bj|0,.tup _=>av|0,.lst _=>av|_,.fZ _=>av|_,.dv _ _=>av|n+1,.tup a=>a.all (j8 n)|n+1,.lst a=>a.all (j8 n)
theorem cF{n:Nat}{a:List D}:j8 (n+1) (.tup a)=a.all (j8 n):=rfl
theorem cg{n:Nat}{a:List D}:j8 (n+1) (.lst a)=a.all (j8 n):=rfl
theorem cz{n:Nat}{m:Dc}:j8 n (.fZ m)=av:=by cases n<;>rfl
theorem cB{n:Nat}{k:List Int}{a:List D}:j8 n (.dv k a)=av:=by cases n<;>rfl
theorem cA{a:List D}:j8 0 (.tup a)=av:=rfl
theorem cC{a:List D}:j8 0 (.lst a)=av:=rfl
set_option genInjectivity true in inductive Sl where|aW|val(b:Bool)(d:D)|own(b:Bool)(ds:List D)|lent(ds:List D)|jE(m:Dc)|hold(rows:List (List D))|dM(kvs:List (Int×D))deriving Inhabited
set_option genInjectivity true in inductive R where|val(d:D)|own(ds:List D)deriving Inhabited
noncomputable def R.d:R->D|.val d=>d|.own a=>.lst a
set_option genInjectivity true in inductive Res(α:Type)where|ok(a:α)(ρ:List Sl)|exc(k:Nat)(ρ:List Sl)|stuck deriving Inhabited
noncomputable def Res.bind{b c:Type}(f:b->List Sl->Res c):Res b->Res c|.ok a ρ=>f a ρ|.exc _ _=>.stuck|.stuck=>.stuck
noncomputable def lift{b:Type}(o:Option b)(ρ:List Sl):Res b:=match o with|some a=>.ok a ρ|none=>.stuck
inductive Op where|add|sub|mul|fdiv|mod|pow|shl|shr|band|Dp|din|ahH|inR|ahI
inductive Cm where|eq|ne|lt|le|gt|ge|isN|RJ|inn|acu|isT|Np|leT|geT
inductive Ty where|int|bool|str|tuple|list|none
inductive Blt where|len|list|tuple|min2|max2|Nq|sum|all|abs|int|keys|Z2|rvT|Nr
inductive P where|var(i:Nat)|con(d:D)|glob(x:Str)(d:D)|bin(o:Op)(a b:P)|neg(a:P)|not(a:P)|and(a b:P)|or(a b:P)|cmp(o:Cm)(a b:P)|chain(o o':Cm)(a b c:P)|T6(c a b:P)|tup(as:List P)|lst(as:List P)|idx(a i:P)|slice(a lo hi:P)|call(f:Nat)(as:List P)|blt(b:Blt)(as:List P)|inst(ts:List Ty)(a:P)|comp(src:P)(n:Nat)(is:List Nat)(one:Bool)(test:Option P)(elt:P)|vD(a b:P)|enm(a:P)|zip(a b:P)|Z3(x:Nat)(k d:P)|vw(x:Nat)|T7(x:Nat)(k:P)|T9(x:Nat)(k:P)(neg:Bool)|Dq(k e:Int)|oF(i:Nat)(a:P)(n:Nat)(is:List Nat)(one:Bool)(test:Option P)(elt:P)deriving Inhabited
noncomputable abbrev lim:Nat:=16777216
noncomputable def uW:D->D->Option R|.int i,.int j=>ap (.val (.int (i+j)))|.lst xs,.lst ys=>if xs.length+ys.length<=lim then ap (.own (xs++ys))else none|.tup xs,.tup ys=>if xs.length+ys.length<=lim then ap (.val (.tup (xs++ys)))else none|.str x,.str y=>if x.length+y.length<=lim then ap (.val (.str (x++y)))else none|_,_=>none
noncomputable def rF:D->D->Option R|.int i,.int j=>if((-18446744073709551616<i/\i<18446744073709551616)\/(-18446744073709551616<j/\j<18446744073709551616))then ap (.val (.int (i*j)))else none|.lst xs,.int k=>if 0<=k/\0<xs.length/\xs.length*k.toNat<=lim then ap (.own (cp k.toNat xs).flatten)else none|.tup xs,.int k=>if 0<=k/\0<xs.length/\xs.length*k.toNat<=lim then ap (.val (.tup (cp k.toNat xs).flatten))else none|_,_=>none
noncomputable def zf:D->D->Option R|.int i,.int j=>ap (.val (.int (i-j)))|_,_=>none
noncomputable def ue:D->D->Option R|.int i,.int j=>if 0<j/\j<1606938044258990275541962092341162602522202993782792835301376 then ap (.val (.int (i/j)))else none|_,_=>none
noncomputable def zj:D->D->Option R|.int i,.int j=>if 0<j then ap (.val (.int (i%j)))else none|_,_=>none
noncomputable def zE:D->D->Option R|.int i,.int j=>if 0<=j/\j<=1000/\i.natAbs<18446744073709551616 then ap (.val (.int (i^j.toNat)))else none|_,_=>none
noncomputable def Ke:D->D->Option R|.int i,.int j=>if 0<=j/\j<=1000/\i.natAbs<18446744073709551616 then ap (.val (.int (i*2^j.toNat)))else none|_,_=>none
noncomputable def KD:D->D->Option R|.int i,.int j=>if 0<=j then ap (.val (.int (i/2^j.toNat)))else none|_,_=>none
noncomputable def CV:D->D->Option R|.int i,.int j=>ap (.val (.int (Builtin.bitAnd i j)))|_,_=>none
noncomputable def flat:D->Bool|.tup _=>av|.lst _=>av|.fZ _=>av|.dv _ _=>av|_=>bj
noncomputable def items:D->Option (List D)|.lst a=>ap a|.tup a=>ap a|_=>none
noncomputable def WD:D->Option (List D)|.tup a=>ap a|_=>none
noncomputable def Mf(x y:D):Option Bool:=if j8 8 x&&j8 8 y then ap (nZ x y)else none
noncomputable def BZ(x y:D):Option Bool:=if j8 8 x&&j8 8 y then ap (!nZ x y)else none
noncomputable def Ol(f:Int->Int->Bool):D->D->Option Bool|.int i,.int j=>ap (f i j)|_,_=>none
noncomputable def lX:D->Bool|.non=>bj|_=>av
noncomputable def cmN(neg:Bool)(x:D):D->Option Bool|.non=>ap (if neg then !lX x else lX x)|_=>none
noncomputable def abk(neg:Bool)(x y:D):Option Bool:=(items y).bind λys=>if(flat x&&ys.all flat)=bj then ap (if neg then !(ys.any λy=>nZ y x)else ys.any λy=>nZ y x)else none
noncomputable def cmT(neg:Bool):D->D->Option Bool|.bl b,.bl bj=>ap (if neg then !b else b)|.bl b,.bl av=>ap (if neg then b else !b)|_,_=>none
noncomputable def bR:List Int->List Int->Bool|[],_::_=>bj|i::is,j::js=>decide (i<j)||(decide (i=j)&&bR is js)|_,[]=>av
noncomputable def oO:D->Int|.int i=>i|_=>0
noncomputable def dY:D->List Int|.int i=>[i]|.tup a=>a.map oO|_=>[]
noncomputable def gk:D->Bool|.int _=>bj|_=>av
noncomputable def Dc.get:Dc->D->Option (Option Int)|.k kvs,.int i=>ap ((kvs.find? λa=>decide (a.1=i)).map (·.2))|_,_=>none
noncomputable def putD{κ:Type}[DecidableEq κ](kvs:List (κ×Int))(k:κ)(v:Int):List (κ×Int):=if(kvs.any λa=>decide (a.1=k))=bj then kvs.map (λa=>if a.1=k then(a.1,v)else a)else kvs++[(k,v)]
noncomputable def Dc.put:Dc->D->Int->Option Dc|.k kvs,.int i,v=>if kvs.length<lim then ap (.k (putD kvs i v))else none|_,_,_=>none
noncomputable def qu(kvs:List (Int×D))(k:Int):Option D:=(kvs.find? λp=>decide (p.1=k)).map (·.2)
noncomputable def jF(kvs:List (Int×D))(k:Int)(d:D):List (Int×D):=if(kvs.any λp=>decide (p.1=k))=bj then kvs.map (λp=>if p.1=k then(p.1,d)else p)else kvs++[(k,d)]
noncomputable def aan(a:Bool):D->D->Option R|.int i,.int j=>ap (.val (.bl (a !=decide (0<=i/\i<j))))|_,_=>none
noncomputable def zZ(neg:Bool):D->D->Option R|.int k,.dv ks _=>ap (.val (.bl (if neg then !ks.contains k else ks.contains k)))|_,_=>none
noncomputable def Fx:D->D->Option R|.fZ m,k=>(m.get k).bind λo=>o.map λv=>.val (.int v)|.dv ks a,.int k=>(qu (ks.zip a) k).map .val|_,_=>none
noncomputable def vW:Op->D->D->Option R|.add=>uW|.mul=>rF|.sub=>zf|.fdiv=>ue|.mod=>zj|.pow=>zE|.shl=>Ke|.shr=>KD|.band=>CV|.Dp=>Fx|.din=>zZ av|.ahH=>zZ bj|.inR=>aan av|.ahI=>aan bj
noncomputable def abo:D->D->Option Bool|.int i,.int j=>ap (decide (i<j))|.tup xs,.tup ys=>if(xs.all gk&&ys.all gk)=bj then ap (bR (xs.map oO) (ys.map oO))else none|_,_=>none
noncomputable def ahp:D->D->Option Bool|.int i,.int j=>ap (decide (i<=j))|.tup xs,.tup ys=>if(xs.all gk&&ys.all gk)=bj then ap (!bR (ys.map oO) (xs.map oO))else none|_,_=>none
noncomputable def agg:D->D->Option Bool|.tup xs,.tup ys=>if(xs.all gk&&ys.all gk)=bj then ap (!bR (xs.map oO) (ys.map oO))else none|_,_=>none
noncomputable def cm:Cm->D->D->Option Bool|.eq=>Mf|.ne=>BZ|.lt=>abo|.le=>Ol λi j=>decide (i<=j)|.leT=>ahp|.geT=>agg|.gt=>Ol λi j=>decide (j<i)|.ge=>Ol λi j=>decide (j<=i)|.isN=>cmN av|.RJ=>cmN bj|.inn=>abk av|.acu=>abk bj|.isT=>cmT av|.Np=>cmT bj
noncomputable def uA(o:Cm)(x y:D):Option R:=(cm o x y).map λk=>.val (.bl k)
noncomputable def lR(n:Nat)(i:Int):Option Nat:=if 0<=i then(if i<n then ap i.toNat else none)else if-(n:Int)<=i then ap (i+n).toNat else none
noncomputable def at'{a:Type}(xs:List a)(i:Int):Option a:=(lR xs.length i).bind λj=>xs[j]?
noncomputable def fH(n d:Nat):Option Int->Nat|none=>d|some i=>if 0<=i then min i.toNat n else(i+n).toNat
noncomputable def cut{a:Type}(xs:List a)(lo hi:Option Int):List a:=(xs.drop (fH xs.length 0 lo)).take (fH xs.length xs.length hi-fH xs.length 0 lo)
noncomputable def j9:D->Option Int|.int i=>ap i|_=>none
noncomputable def Bx:D->Option Bool|.bl b=>ap b|_=>none
noncomputable def Pn(x y:D):Option R:=(items x).bind λa=>(j9 y).bind λi=>(at' a i).map .val
noncomputable def M8(x:D):Option R:=(j9 x).map λi=>.val (.int (-i))
noncomputable def Ht:P->Bool|.con .non=>bj|_=>av
noncomputable def part(p:P)(d:D):Option (Option Int):=if Ht p then ap none else(j9 d).map ap
noncomputable def Kh:D->Option (Option Int)->Option (Option Int)->Option R|.lst xs,ap lo,ap hi=>ap (.own (cut xs lo hi))|.tup xs,ap lo,ap hi=>ap (.val (.tup (cut xs lo hi)))|_,_,_=>none
noncomputable def dw:Ty->D->Bool|.int,.int _=>bj|.int,.bl _=>bj|.bool,.bl _=>bj|.str,.str _=>bj|.tuple,.tup _=>bj|.list,.lst _=>bj|.none,.non=>bj|_,_=>av
noncomputable def Ag:D->Bool|.tup (x::xs)=>(x::xs).all gk|_=>av
noncomputable def sortable(ds:List D):Bool:=decide (ds.length<=16777216)&&(ds.all gk||ds.all Ag)
noncomputable def R9(c:List D):List D:=c.mergeSort λa b=>!bR (dY b) (dY a)
noncomputable def Dg:D->Option (List D)|.lst a=>ap a|_=>none
noncomputable def tW(p:Int×Int):D:=.tup [.int p.1,.int p.2]
noncomputable def blt:Blt->List D->Option R|.len,[x]=>(items x).map λc=>.val (.int c.length)|.list,[x]=>(items x).map λc=>.own c|.tuple,[x]=>(items x).map λc=>.val (.tup c)|.min2,[.int i,.int j]=>ap (.val (.int (if j<i then j else i)))|.max2,[.int i,.int j]=>ap (.val (.int (if i<j then j else i)))|.Nq,[x]=>((items x).bind λc=>c.mapM j9).bind λns=>ns.min?.map λi=>.val (.int i)|.sum,[x]=>((items x).bind λc=>c.mapM j9).map λns=>.val (.int ns.sum)|.all,[x]=>((Dg x).bind λc=>c.mapM Bx).map λbs=>.val (.bl (bs.all id))|.abs,[.int i]=>ap (.val (.int (if i<0 then-i else i)))|.int,[.int i]=>ap (.val (.int i))|.int,[.bl b]=>ap (.val (.int (if b then 1 else 0)))|.keys,[.fZ (.k kvs)]=>ap (.val (.tup (kvs.map λp=>.int p.1)))|.keys,[.dv ks _]=>ap (.val (.tup (ks.map D.int)))|.Z2,[.dv ks _]=>if ks.length<=16777216 then ap (.own (ks.map D.int))else none|.rvT,[.lst c]=>ap (.val (.tup c.reverse))|.Nr,[.fZ (.k kvs)]=>if kvs.length<=16777216/\kvs.Pairwise (λa b=>a.1<b.1)then ap (.own (kvs.map tW))else none|_,_=>none
noncomputable def pk(ρ:List Sl)(i:Nat):Option D:=match ρ[i]?with|some (.val _ d)=>ap d|some (.own _ a)=>ap (.lst a)|some (.lent a)=>ap (.lst a)|_=>none
noncomputable def Iu(ρ:List Sl)(i:Nat):Option (List D):=match pk ρ i with|some (.lst a)=>ap a|_=>none
noncomputable abbrev Ev:=List Sl->Res R
noncomputable def isVar:P->Option Nat|.var i=>ap i|_=>none
noncomputable def dG(i:Option Nat)(e:Ev)(ρ:List Sl):Res D:=match i with|some i=>lift (pk ρ i) ρ|none=>(e ρ).bind λr ρ=>.ok r.d ρ
noncomputable def kI(i:Option Nat)(e:Ev)(j:Option Nat)(f:Ev)(ρ:List Sl):Res (D×D):=match i with|some i=>(lift (pk ρ i) ρ).bind λ_ ρ=>(dG j f ρ).bind λy ρ=>(lift (pk ρ i) ρ).bind λx ρ=>.ok (x,y) ρ|none=>(dG none e ρ).bind λx ρ=>(dG j f ρ).bind λy ρ=>.ok (x,y) ρ
noncomputable def jf(e:Ev)(ρ:List Sl):Res Bool:=(e ρ).bind λr ρ=>lift (Bx r.d) ρ
set_option genInjectivity true in inductive Arg where|dat(d:D)|tmp(ds:List D)|iC(i:Nat)
noncomputable def wC:R->Arg|.val d=>.dat d|.own a=>.tmp a
noncomputable def cP(ρ:List Sl):List Arg->List Nat->Option (List Sl)|[],_=>ap []|.dat d::r,a=>(cP ρ r a).map λs=>.val av d::s|.tmp b::r,a=>(cP ρ r a).map λs=>.own av b::s|.iC i::r,a=>match ρ[i]?with|some (.val _ d)=>(cP ρ r a).map λs=>.val av d::s|some (.own _ b)=>if a.contains i then none else(cP ρ r (i::a)).map λs=>.own bj b::s|some (.lent b)=>if a.contains i then none else(cP ρ r (i::a)).map λs=>.lent b::s|_=>none
theorem jY{ρ:List Sl}{u:List Nat}:cP ρ [] u=ap []:=rfl
theorem jZ{ρ:List Sl}{d:D}{r:List Arg}{u:List Nat}:cP ρ (.dat d::r) u=(cP ρ r u).map λs=>.val av d::s:=rfl
theorem jW{ρ:List Sl}{d:List D}{r:List Arg}{u:List Nat}:cP ρ (.tmp d::r) u=(cP ρ r u).map λs=>.own av d::s:=rfl
theorem iU{ρ:List Sl}{i:Nat}{r:List Arg}{u:List Nat}:cP ρ (.iC i::r) u=match ρ[i]?with|some (.val _ d)=>(cP ρ r u).map λs=>.val av d::s|some (.own _ a)=>if u.contains i then none else(cP ρ r (i::u)).map λs=>.own bj a::s|some (.lent a)=>if u.contains i then none else(cP ρ r (i::u)).map λs=>.lent a::s|_=>none:=rfl
noncomputable def bw(i:Nat):List Arg->List Sl->Option Sl|.iC k::as,s::ss=>if k=i then ap s else bw i as ss|.dat _::as,_::ss=>bw i as ss|.tmp _::as,_::ss=>bw i as ss|_,_=>none
noncomputable def dJ:Sl->Option Sl->Sl|.own b _,ap (.own _ a)=>.own b a|.own b _,ap (.val _ d)=>.val b d|s,_=>s
noncomputable def gF(as:List Arg)(ss:List Sl):Nat->List Sl->List Sl|_,[]=>[]|i,s::ρ=>dJ s (bw i as ss)::gF as ss (i+1) ρ
theorem iT{as:List Arg}{ss:List Sl}{i:Nat}:gF as ss i []=[]:=rfl
theorem gK{as:List Arg}{ss:List Sl}{i:Nat}{s:Sl}{ρ:List Sl}:gF as ss i (s::ρ)=dJ s (bw i as ss)::gF as ss (i+1) ρ:=rfl
noncomputable abbrev Call:=Nat->List Sl->Res R
noncomputable def iR(c:Call)(f:Nat)(as:List Arg)(ρ:List Sl):Res R:=match cP ρ as []with|none=>.stuck|some args=>match c f args with|.ok r a=>.ok r (gF as a 0 ρ)|.exc _ _=>.stuck|.stuck=>.stuck
noncomputable def put(ρ:List Sl)(i:Nat)(s:Sl):Option (List Sl):=match ρ[i]?with|some .aW=>ap (ρ.set i s)|some (.val av _)=>ap (ρ.set i s)|some (.own av _)=>ap (ρ.set i s)|_=>none
noncomputable def putAll(ρ:List Sl):List Nat->List D->Option (List Sl)|[],[]=>ap ρ|i::is,d::a=>(put ρ i (.val av d)).bind λρ=>putAll ρ is a|_,_=>none
theorem mO{ρ:List Sl}:putAll ρ [] []=ap ρ:=rfl
theorem lC{ρ:List Sl}{i:Nat}{is:List Nat}{d:D}{a:List D}:putAll ρ (i::is) (d::a)=(put ρ i (.val av d)).bind λρ=>putAll ρ is a:=rfl
theorem qg{ρ:List Sl}{i:Nat}{is:List Nat}:putAll ρ (i::is) []=none:=rfl
theorem qt{ρ:List Sl}{d:D}{a:List D}:putAll ρ [] (d::a)=none:=rfl
noncomputable def cO(ρ:List Sl)(is:List Nat)(one:Bool)(d:D):Option (List Sl):=match one,is,d with|true,[i],d=>put ρ i (.val av d)|false,is,.tup a=>putAll ρ is a|_,_,_=>none
noncomputable def srcOf(i:Option Nat)(e:Ev)(ρ:List Sl):Res (List D):=match i with
 |some i=>match ρ[i]?with|some (.val _ d)=>lift (items d) ρ|some (.own _ a)=>.ok a (ρ.set i (.lent a))|some (.lent a)=>.ok a ρ|_=>.stuck
 |none=>(e ρ).bind λr ρ=>lift (items r.d) ρ
noncomputable def bz(a:List Sl)(i:Option Nat)(ρ:List Sl):List Sl:=match i with
 |some i=>match a[i]?with|some (.own b c)=>ρ.set i (.own b c)|_=>ρ
 |none=>ρ
noncomputable def Jw(i:Nat)(f:Ev)(ρ:List Sl):Res (List D×List Sl):=(f ρ).bind λr a=>(lift (items r.d) a).bind λes a=>match a[i]?with|some (.val _ d)=>(lift (items d) a).bind λb a=>.ok ((es.zip b).map λp=>D.tup [p.1,p.2],a) a|some (.own _ b)=>.ok ((es.zip b).map λp=>D.tup [p.1,p.2],a) (a.set i (.lent b))|some (.lent b)=>.ok ((es.zip b).map λp=>D.tup [p.1,p.2],a) a|_=>.stuck
noncomputable def turns(is:List Nat)(one:Bool)(a:List Sl->Res Bool)(e:Ev):List D->List D->List Sl->Res (List D)|[],c,ρ=>.ok c ρ|d::r,c,ρ=>match cO ρ is one d with|none=>.stuck|some ρ=>(a ρ).bind λb ρ=>if b then(e ρ).bind λx ρ=>turns is one a e r (c++[x.d]) ρ else turns is one a e r c ρ
theorem K4{is:List Nat}{o:Bool}{f:List Sl->Res Bool}{e:Ev}{a:List D}{ρ:List Sl}:turns is o f e [] a ρ=.ok a ρ:=rfl
theorem La{is:List Nat}{o:Bool}{f:List Sl->Res Bool}{e:Ev}{d:D}{r a:List D}{ρ:List Sl}:turns is o f e (d::r) a ρ=match cO ρ is o d with|none=>.stuck|some ρ=>(f ρ).bind λb ρ=>if b then(e ρ).bind λx ρ=>turns is o f e r (a++[x.d]) ρ else turns is o f e r a ρ:=rfl
mutual
noncomputable def ev(c:Call):P->List Sl->Res R
 |.var i,ρ=>match ρ[i]?with|some (.val _ d)=>.ok (.val d) ρ|some (.own b q)=>.ok (.val (.lst q)) (ρ.set i (.val b (.lst q)))|some (.jE (.k kvs))=>.ok (.val (.fZ (.k kvs))) (ρ.set i (.val av (.fZ (.k kvs))))|some (.dM kvs)=>.ok (.val (.dv (kvs.map (·.1)) (kvs.map (·.2)))) (ρ.set i (.val av (.dv (kvs.map (·.1)) (kvs.map (·.2)))))|_=>.stuck
 |.con d,ρ=>.ok (.val d) ρ|.glob _ d,ρ=>.ok (.val d) ρ|.bin o a b,ρ=>(kI (isVar a) (ev c a) (isVar b) (ev c b) ρ).bind λs ρ=>lift (vW o s.1 s.2) ρ|.neg a,ρ=>(dG (isVar a) (ev c a) ρ).bind λx ρ=>lift (M8 x) ρ|.not a,ρ=>(jf (ev c a) ρ).bind λb ρ=>.ok (.val (.bl (!b))) ρ|.and a b,ρ=>(jf (ev c a) ρ).bind λx ρ=>if x then(jf (ev c b) ρ).bind λy ρ=>.ok (.val (.bl y)) ρ else .ok (.val (.bl av)) ρ|.or a b,ρ=>(jf (ev c a) ρ).bind λx ρ=>if x then .ok (.val (.bl bj)) ρ else(jf (ev c b) ρ).bind λy ρ=>.ok (.val (.bl y)) ρ|.cmp o a b,ρ=>(kI (isVar a) (ev c a) (isVar b) (ev c b) ρ).bind λs ρ=>lift (uA o s.1 s.2) ρ|.chain o E a b d,ρ=>(kI (isVar a) (ev c a) (isVar b) (ev c b) ρ).bind λs ρ=>(lift (if flat s.2=bj then cm o s.1 s.2 else none) ρ).bind λk ρ=>if k then(dG (isVar d) (ev c d) ρ).bind λz ρ=>lift (uA E s.2 z) ρ else .ok (.val (.bl av)) ρ|.T6 t a b,ρ=>(jf (ev c t) ρ).bind λk ρ=>if k then(ev c a ρ).bind λr ρ=>.ok (.val r.d) ρ else(ev c b ρ).bind λr ρ=>.ok (.val r.d) ρ|.tup as,ρ=>(evs c as ρ).bind λq ρ=>.ok (.val (.tup q)) ρ|.lst as,ρ=>(evs c as ρ).bind λq ρ=>.ok (.own q) ρ|.idx a i,ρ=>(kI (isVar a) (ev c a) (isVar i) (ev c i) ρ).bind λs ρ=>lift (Pn s.1 s.2) ρ|.slice a l h,ρ=>match isVar a with|some i=>(lift (pk ρ i) ρ).bind λ_ ρ=>(dG (isVar l) (ev c l) ρ).bind λy ρ=>(dG (isVar h) (ev c h) ρ).bind λz ρ=>(lift (pk ρ i) ρ).bind λx ρ=>lift (Kh x (part l y) (part h z)) ρ|none=>(dG none (ev c a) ρ).bind λx ρ=>(dG (isVar l) (ev c l) ρ).bind λy ρ=>(dG (isVar h) (ev c h) ρ).bind λz ρ=>lift (Kh x (part l y) (part h z)) ρ
 |.call f as,ρ=>(Bg c as ρ).bind λxs ρ=>iR c f xs ρ|.blt b [a],ρ=>(dG (isVar a) (ev c a) ρ).bind λx ρ=>lift (blt b [x]) ρ|.blt b as,ρ=>(evs c as ρ).bind λq ρ=>lift (blt b q) ρ|.inst G a,ρ=>(dG (isVar a) (ev c a) ρ).bind λx ρ=>.ok (.val (.bl (G.any λt=>dw t x))) ρ|.comp src n is one w A,ρ=>(srcOf (isVar src) (ev c src) ρ).bind λq g=>if q.length<=lim then(turns is one (pq c w) (ev c A) q [] (g++cp n .aW)).bind λxs u=>.ok (.own xs) (bz ρ (isVar src) (u.take g.length))else .stuck|.vD a b,ρ=>(kI (isVar a) (ev c a) (isVar b) (ev c b) ρ).bind λs ρ=>lift ((j9 s.1).bind λi=>(j9 s.2).bind λj=>if-1000000<=i/\i<=1000000000/\j<=1000000000/\-1000000000<=j then ap (.val (.lst ((eu (j-i).toNat).map λ(k:Nat)=>D.int (i+(k:Int)))))else none) ρ|.enm a,ρ=>(ev c a ρ).bind λr ρ=>lift ((items r.d).map λq=>.val (.lst (q.mapIdx λi d=>D.tup [.int (i:Int),d]))) ρ|.zip a b,ρ=>(ev c a ρ).bind λx ρ=>(ev c b ρ).bind λy ρ=>lift ((items x.d).bind λq=>(items y.d).map λes=>.val (.lst ((q.zip es).map λp=>D.tup [p.1,p.2]))) ρ|.Z3 x k d,ρ=>match ρ[x]?with
   |some (.jE _)=>(dG (isVar k) (ev c k) ρ).bind λB ρ=>(dG (isVar d) (ev c d) ρ).bind λdd ρ=>match ρ[x]?with|some (.jE m)=>lift ((m.get B).bind λo=>(j9 dd).map λv=>.val (.int (o.getD v))) ρ|_=>.stuck
   |_=>.stuck
 |.vw x,ρ=>match ρ[x]?with|some (.jE m)=>.ok (.val (.fZ m)) (ρ.set x (.val av (.fZ m)))|some (.dM kvs)=>.ok (.val (.dv (kvs.map (·.1)) (kvs.map (·.2)))) (ρ.set x (.val av (.dv (kvs.map (·.1)) (kvs.map (·.2)))))|some (.own b q)=>.ok (.val (.lst q)) (ρ.set x (.val b (.lst q)))|some (.val _ d)=>.ok (.val d) ρ|_=>.stuck
 |.T7 x k,ρ=>match ρ[x]?with
   |some (.dM _)=>(dG (isVar k) (ev c k) ρ).bind λB ρ=>match ρ[x]?with|some (.dM kvs)=>lift ((j9 B).bind λk=>(qu kvs k).map .val) ρ|_=>.stuck
   |_=>.stuck
 |.T9 x k neg,ρ=>(dG (isVar k) (ev c k) ρ).bind λB ρ=>match ρ[x]?with|some (.dM kvs)=>lift ((j9 B).map λk=>.val (.bl (if neg then !(kvs.map (·.1)).contains k else(kvs.map (·.1)).contains k))) ρ|_=>.stuck
 |.Dq k e,ρ=>.ok (.val (.dv [k] [.int e])) ρ|.oF i a n is one w A,ρ=>(Jw i (ev c a) ρ).bind λC g=>if C.1.length<=lim then(turns is one (pq c w) (ev c A) C.1 [] (g++cp n .aW)).bind λxs u=>.ok (.own xs) (bz C.2 (ap i) (u.take g.length))else .stuck
noncomputable def evs(c:Call):List P->List Sl->Res (List D)|[],ρ=>.ok [] ρ|a::r,ρ=>(ev c a ρ).bind λx ρ=>(evs c r ρ).bind λxs ρ=>.ok (x.d::xs) ρ
noncomputable def Bg(c:Call):List P->List Sl->Res (List Arg)|[],ρ=>.ok [] ρ|a::r,ρ=>match isVar a with|some i=>(lift (pk ρ i) ρ).bind λ_ ρ=>(Bg c r ρ).bind λxs ρ=>.ok (.iC i::xs) ρ|none=>(ev c a ρ).bind λx ρ=>(Bg c r ρ).bind λxs ρ=>.ok (wC x::xs) ρ
noncomputable def pq(c:Call):Option P->List Sl->Res Bool|none,ρ=>.ok bj ρ|some t,ρ=>jf (ev c t) ρ
end
theorem Ld{c:Call}{ρ:List Sl}:evs c [] ρ=.ok [] ρ:=rfl
theorem xO{c:Call}{a:P}{r:List P}{ρ:List Sl}:evs c (a::r) ρ=(_H.ev c a ρ).bind λx ρ=>(evs c r ρ).bind λxs ρ=>.ok (x.d::xs) ρ:=rfl
theorem Dn{c:Call}{ρ:List Sl}:Bg c [] ρ=.ok [] ρ:=rfl
theorem xN{c:Call}{a:P}{r:List P}{ρ:List Sl}:Bg c (a::r) ρ=match isVar a with|some i=>(lift (pk ρ i) ρ).bind λ_ ρ=>(Bg c r ρ).bind λxs ρ=>.ok (.iC i::xs) ρ|none=>(_H.ev c a ρ).bind λx ρ=>(Bg c r ρ).bind λxs ρ=>.ok (wC x::xs) ρ:=rfl
theorem E1{c i ρ}:ev c (.var i) ρ=match ρ[i]?with|some (.val _ d)=>.ok (.val d) ρ|some (.own b a)=>.ok (.val (.lst a)) (ρ.set i (.val b (.lst a)))|some (.jE (.k kvs))=>.ok (.val (.fZ (.k kvs))) (ρ.set i (.val av (.fZ (.k kvs))))|some (.dM kvs)=>.ok (.val (.dv (kvs.map (·.1)) (kvs.map (·.2)))) (ρ.set i (.val av (.dv (kvs.map (·.1)) (kvs.map (·.2)))))|_=>.stuck:=(rfl)
theorem E2{c d ρ}:ev c (.con d) ρ=.ok (.val d) ρ:=(rfl)
theorem E3{c w1 d ρ}:ev c (.glob w1 d) ρ=.ok (.val d) ρ:=(rfl)
theorem E4{c o a b ρ}:ev c (.bin o a b) ρ=(kI (isVar a) (ev c a) (isVar b) (ev c b) ρ).bind λe ρ=>lift (vW o e.1 e.2) ρ:=(rfl)
theorem E5{c a ρ}:ev c (.neg a) ρ=(dG (isVar a) (ev c a) ρ).bind λx ρ=>lift (M8 x) ρ:=(rfl)
theorem E6{c a ρ}:ev c (.not a) ρ=(jf (ev c a) ρ).bind λb ρ=>.ok (.val (.bl (!b))) ρ:=(rfl)
theorem E7{c a b ρ}:ev c (.and a b) ρ=(jf (ev c a) ρ).bind λx ρ=>if x then(jf (ev c b) ρ).bind λy ρ=>.ok (.val (.bl y)) ρ else .ok (.val (.bl av)) ρ:=(rfl)
theorem E8{c a b ρ}:ev c (.or a b) ρ=(jf (ev c a) ρ).bind λx ρ=>if x then .ok (.val (.bl bj)) ρ else(jf (ev c b) ρ).bind λy ρ=>.ok (.val (.bl y)) ρ:=(rfl)
theorem E9{c o a b ρ}:ev c (.cmp o a b) ρ=(kI (isVar a) (ev c a) (isVar b) (ev c b) ρ).bind λe ρ=>lift (uA o e.1 e.2) ρ:=(rfl)
theorem E10{c o o' a b d ρ}:ev c (.chain o o' a b d) ρ=(kI (isVar a) (ev c a) (isVar b) (ev c b) ρ).bind λe ρ=>(lift (if flat e.2=bj then cm o e.1 e.2 else none) ρ).bind λk ρ=>if k then(dG (isVar d) (ev c d) ρ).bind λz ρ=>lift (uA o' e.2 z) ρ else .ok (.val (.bl av)) ρ:=(rfl)
theorem E11{c t a b ρ}:ev c (.T6 t a b) ρ=(jf (ev c t) ρ).bind λk ρ=>if k then(ev c a ρ).bind λr ρ=>.ok (.val r.d) ρ else(ev c b ρ).bind λr ρ=>.ok (.val r.d) ρ:=(rfl)
theorem E12{c as ρ}:ev c (.tup as) ρ=(evs c as ρ).bind λa ρ=>.ok (.val (.tup a)) ρ:=(rfl)
theorem E13{c as ρ}:ev c (.lst as) ρ=(evs c as ρ).bind λa ρ=>.ok (.own a) ρ:=(rfl)
theorem E14{c a i ρ}:ev c (.idx a i) ρ=(kI (isVar a) (ev c a) (isVar i) (ev c i) ρ).bind λb ρ=>lift (Pn b.1 b.2) ρ:=(rfl)
theorem E15{c a l h ρ}:ev c (.slice a l h) ρ=match isVar a with|some i=>(lift (pk ρ i) ρ).bind λ_ ρ=>(dG (isVar l) (ev c l) ρ).bind λy ρ=>(dG (isVar h) (ev c h) ρ).bind λz ρ=>(lift (pk ρ i) ρ).bind λx ρ=>lift (Kh x (part l y) (part h z)) ρ|none=>(dG none (ev c a) ρ).bind λx ρ=>(dG (isVar l) (ev c l) ρ).bind λy ρ=>(dG (isVar h) (ev c h) ρ).bind λz ρ=>lift (Kh x (part l y) (part h z)) ρ:=(rfl)
theorem E16{c f as ρ}:ev c (.call f as) ρ=(Bg c as ρ).bind λxs ρ=>iR c f xs ρ:=(rfl)
theorem E17{c b a ρ}:ev c (.blt b [a]) ρ=(dG (isVar a) (ev c a) ρ).bind λx ρ=>lift (blt b [x]) ρ:=(rfl)
theorem E18{c b x y r ρ}:ev c (.blt b (x::y::r)) ρ=(evs c (x::y::r) ρ).bind λa ρ=>lift (blt b a) ρ:=(rfl)
theorem aby{c b ρ}:ev c (.blt b []) ρ=(evs c [] ρ).bind λa ρ=>lift (blt b a) ρ:=(rfl)
theorem E19{c ts a ρ}:ev c (.inst ts a) ρ=(dG (isVar a) (ev c a) ρ).bind λx ρ=>.ok (.val (.bl (ts.any λt=>dw t x))) ρ:=(rfl)
theorem E20{c src n is one test elt ρ}:ev c (.comp src n is one test elt) ρ=(srcOf (isVar src) (ev c src) ρ).bind λe a=>if e.length<=lim then(turns is one (pq c test) (ev c elt) e [] (a++cp n .aW)).bind λxs b=>.ok (.own xs) (bz ρ (isVar src) (b.take a.length))else .stuck:=(rfl)
theorem E21{c a b ρ}:ev c (.vD a b) ρ=(kI (isVar a) (ev c a) (isVar b) (ev c b) ρ).bind λe ρ=>lift ((j9 e.1).bind λi=>(j9 e.2).bind λj=>if-1000000<=i/\i<=1000000000/\j<=1000000000/\-1000000000<=j then ap (.val (.lst ((eu (j-i).toNat).map λ(k:Nat)=>D.int (i+(k:Int)))))else none) ρ:=(rfl)
theorem E22{c a ρ}:ev c (.enm a) ρ=(ev c a ρ).bind λr ρ=>lift ((items r.d).map λb=>.val (.lst (b.mapIdx λi d=>D.tup [.int (i:Int),d]))) ρ:=(rfl)
theorem E23{c a b ρ}:ev c (.zip a b) ρ=(ev c a ρ).bind λx ρ=>(ev c b ρ).bind λy ρ=>lift ((items x.d).bind λe=>(items y.d).map λes=>.val (.lst ((e.zip es).map λp=>D.tup [p.1,p.2]))) ρ:=(rfl)
theorem E24{c x k d ρ}:ev c (.Z3 x k d) ρ=match ρ[x]?with
 |some (.jE _)=>(dG (isVar k) (ev c k) ρ).bind λa ρ=>(dG (isVar d) (ev c d) ρ).bind λdd ρ=>match ρ[x]?with|some (.jE m)=>lift ((m.get a).bind λo=>(j9 dd).map λv=>.val (.int (o.getD v))) ρ|_=>.stuck
 |_=>.stuck:=(rfl)
theorem E25{c x ρ}:ev c (.vw x) ρ=match ρ[x]?with|some (.jE m)=>.ok (.val (.fZ m)) (ρ.set x (.val av (.fZ m)))|some (.dM kvs)=>.ok (.val (.dv (kvs.map (·.1)) (kvs.map (·.2)))) (ρ.set x (.val av (.dv (kvs.map (·.1)) (kvs.map (·.2)))))|some (.own b a)=>.ok (.val (.lst a)) (ρ.set x (.val b (.lst a)))|some (.val _ d)=>.ok (.val d) ρ|_=>.stuck:=(rfl)
theorem E26{c x k ρ}:ev c (.T7 x k) ρ=match ρ[x]?with
 |some (.dM _)=>(dG (isVar k) (ev c k) ρ).bind λa ρ=>match ρ[x]?with|some (.dM kvs)=>lift ((j9 a).bind λk=>(qu kvs k).map .val) ρ|_=>.stuck
 |_=>.stuck:=(rfl)
theorem E27{c x k neg ρ}:ev c (.T9 x k neg) ρ=(dG (isVar k) (ev c k) ρ).bind λa ρ=>match ρ[x]?with|some (.dM kvs)=>lift ((j9 a).map λk=>.val (.bl (if neg then !(kvs.map (·.1)).contains k else(kvs.map (·.1)).contains k))) ρ|_=>.stuck:=(rfl)
theorem E28{c k e ρ}:ev c (.Dq k e) ρ=.ok (.val (.dv [k] [.int e])) ρ:=(rfl)
theorem E29{c i a n is one test elt ρ}:ev c (.oF i a n is one test elt) ρ=(Jw i (ev c a) ρ).bind λf b=>if f.1.length<=lim then(turns is one (pq c test) (ev c elt) f.1 [] (b++cp n .aW)).bind λxs e=>.ok (.own xs) (bz f.2 (ap i) (e.take b.length))else .stuck:=(rfl)
inductive S where|pass|brk|cont|bad|expr(e:P)|asg(i:Nat)(e:P)|par(i j:Nat)(a b:P)|unp(i:List Nat)(e:P)|RK(x:Nat)(i e:P)|app(x:Nat)(e:P)|ret(e:P)|acx|ifs(c:P)(a b:List S)|j6(src:P)(i:List Nat)(one:Bool)(body:List S)|whl(c:P)(body:List S)|aug(x:Nat)(sub:Bool)(e:P)|Nt(x:Nat)(i:P)(sub:Bool)(e:P)|vX(k:Nat)|RL(body:List S)(x:Nat)(hs:List (List S))|Nu(x:Nat)(t:Bool)|dput(x:Nat)(k e:P)|Nv(x:Nat)(src:P)(k:Nat)(is:List Nat)(one:Bool)(elt:P)|Ny(x:Nat)(i e:P)|Ik(src:P)(is:List Nat)(one:Bool)(body:List S)|eN(x:Nat)|Il(x:Nat)|RM(x:Nat)(k e:Int)|jF(x:Nat)(k e:P)|Bc(i:Nat)(e q:P)deriving Inhabited
inductive Fl where|next|brk|cont|ret(r:R)deriving Inhabited
noncomputable def vP:R->Sl|.val d=>.val av d|.own a=>.own av a
noncomputable def lB(is:List Nat)(one:Bool)(body:List Sl->Res Fl):List D->List Sl->Res Fl|[],ρ=>.ok .next ρ|d::r,ρ=>match cO ρ is one d with|none=>.stuck|some ρ=>(body ρ).bind λa ρ=>match a with|.next=>lB is one body r ρ|.cont=>lB is one body r ρ|.brk=>.ok .next ρ|.ret r=>.ok (.ret r) ρ
theorem MT{is:List Nat}{o:Bool}{b:List Sl->Res Fl}{ρ:List Sl}:lB is o b [] ρ=.ok .next ρ:=rfl
theorem Di{is:List Nat}{o:Bool}{b:List Sl->Res Fl}{d:D}{r:List D}{ρ:List Sl}:lB is o b (d::r) ρ=match cO ρ is o d with|none=>.stuck|some ρ=>(b ρ).bind λa ρ=>match a with|.next=>lB is o b r ρ|.cont=>lB is o b r ρ|.brk=>.ok .next ρ|.ret r=>.ok (.ret r) ρ:=rfl
noncomputable def uX(a:List Sl->Res Bool)(body:List Sl->Res Fl):Nat->List Sl->Res Fl|0,_=>.stuck|n+1,ρ=>(a ρ).bind λb ρ=>if b then(body ρ).bind λc ρ=>match c with|.next=>uX a body n ρ|.cont=>uX a body n ρ|.brk=>.ok .next ρ|.ret r=>.ok (.ret r) ρ else .ok .next ρ
theorem Xg{f:List Sl->Res Bool}{b:List Sl->Res Fl}{ρ:List Sl}:uX f b 0 ρ=.stuck:=rfl
theorem Lw{f:List Sl->Res Bool}{b:List Sl->Res Fl}{n:Nat}{ρ:List Sl}:uX f b (n+1) ρ=(f ρ).bind λx ρ=>if x then(b ρ).bind λa ρ=>match a with|.next=>uX f b n ρ|.cont=>uX f b n ρ|.brk=>.ok .next ρ|.ret r=>.ok (.ret r) ρ else .ok .next ρ:=rfl
noncomputable def jl(is:List Nat)(one:Bool)(b:Ev):List D->List (List D)->List Sl->Res (List (List D))|[],a,ρ=>.ok a ρ|d::r,a,ρ=>match cO ρ is one d with|none=>.stuck|some ρ=>(b ρ).bind λx ρ=>match x with|.own c=>jl is one b r (a++[c]) ρ|.val _=>.stuck
theorem Kq{is:List Nat}{o:Bool}{e:Ev}{a:List (List D)}{ρ:List Sl}:jl is o e [] a ρ=.ok a ρ:=rfl
theorem Mu{is:List Nat}{o:Bool}{e:Ev}{d:D}{r:List D}{a:List (List D)}{ρ:List Sl}:jl is o e (d::r) a ρ=match cO ρ is o d with|none=>.stuck|some ρ=>(e ρ).bind λx ρ=>match x with|.own b=>jl is o e r (a++[b]) ρ|.val _=>.stuck:=rfl
noncomputable def rowAt(a:List (List D))(k:Int):Option (List D):=(lR a.length k).bind λr=>a[r]?
noncomputable def lV(a:List (List D))(k:Int)(f:List D->Option (List D)):Option (List (List D)):=(lR a.length k).bind λr=>(a[r]?).bind λrow=>(f row).map λb=>a.set r b
noncomputable def lM(ρ:List Sl)(x:Nat):Option (List (List D)):=match ρ[x]?with|some (.hold a)=>ap a|_=>none
noncomputable def ye(ρ:List Sl)(x:Nat)(k:D):Option (List D):=(lM ρ x).bind λa=>(j9 k).bind λk=>rowAt a k
noncomputable def Hv(ρ:List Sl)(x:Nat)(o:Option (List (List D))):Res Fl:=match o with|some a=>.ok .next (ρ.set x (.hold a))|none=>.stuck
noncomputable def Cy(is:List Nat)(one:Bool)(body:List Sl->Res Fl)(b:List Sl->Option (Nat×List Sl)):List D->List Sl->Option (Nat×List Sl)|[],_=>none|d::r,ρ=>match cO ρ is one d with|none=>none|some ρ=>match b ρ with|some x=>ap x|none=>match body ρ with|.ok .next a=>Cy is one body b r a|.ok .cont a=>Cy is one body b r a|_=>none
noncomputable def VP(a:List Sl->Res Bool)(body:List Sl->Res Fl)(e:List Sl->Option (Nat×List Sl)):Nat->List Sl->Option (Nat×List Sl)|0,_=>none|n+1,ρ=>match a ρ with
   |.ok bj c=>match e c with|some x=>ap x|none=>match body c with|.ok .next b=>VP a body e n b|.ok .cont b=>VP a body e n b|_=>none
   |_=>none
noncomputable def jV:P->P|.idx a _=>a|.blt .sum [.comp s _ _ _ _ _]=>s|e=>e
noncomputable def unl:Sl->Bool|.aW=>bj|.val b _=>!b|.own b _=>!b|.lent _=>av|.jE _=>bj|.hold _=>av|.dM _=>bj
noncomputable def gY(c:Call)(e:P)(ρ:List Sl):Option (Nat×List Sl):=match jV e with
 |.call f as=>match Bg c as ρ with
   |.ok xs b=>match cP b xs []with
     |some args=>match c f args with|.exc k a=>ap (k,gF xs a 0 b)|_=>none
     |none=>none
   |_=>none
 |_=>none
mutual
noncomputable def ex(c:Call)(n:Nat):S->List Sl->Res Fl
 |.pass,ρ=>.ok .next ρ|.brk,ρ=>.ok .brk ρ|.cont,ρ=>.ok .cont ρ|.bad,_=>.stuck|.expr e,ρ=>(ev c e ρ).bind λ_ ρ=>.ok .next ρ|.asg i e,ρ=>(ev c e ρ).bind λr ρ=>(lift (put ρ i (vP r)) ρ).bind λg _=>.ok .next g|.par i j a b,ρ=>(ev c a ρ).bind λx ρ=>(ev c b ρ).bind λy ρ=>(lift ((put ρ i (.val av x.d)).bind λρ=>put ρ j (.val av y.d)) ρ).bind λg _=>.ok .next g|.unp is e,ρ=>(ev c e ρ).bind λr ρ=>match r.d with|.tup h=>(lift (putAll ρ is h) ρ).bind λg _=>.ok .next g|_=>.stuck
 |.RK x i e,ρ=>(ev c e ρ).bind λr ρ=>(lift (pk ρ x) ρ).bind λ_ ρ=>(dG (isVar i) (ev c i) ρ).bind λk ρ=>match ρ[x]?,k with
   |some (.own b h),.int k=>match lR h.length k with|some j=>.ok .next (ρ.set x (.own b (h.set j r.d)))|none=>.stuck
   |_,_=>.stuck
 |.app x e,ρ=>(lift (Iu ρ x) ρ).bind λ_ ρ=>(ev c e ρ).bind λr ρ=>match ρ[x]?with|some (.own b h)=>if h.length<lim then .ok .next (ρ.set x (.own b (h++[r.d])))else .stuck|_=>.stuck
 |.ret e,ρ=>match isVar e with
   |some i=>match ρ[i]?with|some (.own av h)=>.ok (.ret (.own h)) (ρ.set i .aW)|_=>(ev c e ρ).bind λr ρ=>.ok (.ret r) ρ
   |none=>(ev c e ρ).bind λr ρ=>.ok (.ret r) ρ
 |.acx,ρ=>.ok (.ret (.val .non)) ρ|.ifs t a b,ρ=>(jf (ev c t) ρ).bind λk ρ=>if k then fJ c n a ρ else fJ c n b ρ|.j6 src is one body,ρ=>(srcOf (isVar src) (ev c src) ρ).bind λh f=>(lB is one (fJ c n body) h f).bind λs p=>.ok s (bz ρ (isVar src) p)|.whl t body,ρ=>uX (jf (ev c t)) (fJ c n body) n ρ|.aug x sub e,ρ=>(lift (pk ρ x) ρ).bind λa ρ=>(dG (isVar e) (ev c e) ρ).bind λb ρ=>match a,b with|.int i,.int j=>(lift (put ρ x (.val av (.int (if sub then i-j else i+j)))) ρ).bind λg _=>.ok .next g|_,_=>.stuck
 |.Nt x i sub e,ρ=>(lift (Iu ρ x) ρ).bind λ_ ρ=>(dG (isVar i) (ev c i) ρ).bind λk ρ=>(lift (Iu ρ x) ρ).bind λl ρ=>(lift ((j9 k).bind λi=>at' l i) ρ).bind λa ρ=>(dG (isVar e) (ev c e) ρ).bind λb ρ=>match a,b,ρ[x]?,k with
   |.int u,.int v,ap (.own A h),.int k=>match lR h.length k with|some j=>.ok .next (ρ.set x (.own A (h.set j (.int (if sub then u-v else u+v)))))|none=>.stuck
   |_,_,_,_=>.stuck
 |.Nu x t,ρ=>match ρ[x]?with|some .aW=>.ok .next (ρ.set x (.jE (if t then .t []else .k [])))|_=>.stuck
 |.dput x k e,ρ=>(ev c e ρ).bind λr ρ=>match ρ[x]?with
   |some (.jE _)=>(dG (isVar k) (ev c k) ρ).bind λw ρ=>match ρ[x]?,r with
     |some (.jE m),.val (.int v)=>match m.put w v with|some B=>.ok .next (ρ.set x (.jE B))|none=>.stuck
     |_,_=>.stuck
   |_=>.stuck
 |.vX _,_=>.stuck|.RL body x hs,ρ=>match fJ c n body ρ with|.ok s g=>.ok s g|_=>match jw c n body ρ with
     |some (k,_)=>if ρ.all unl=bj then match Qu c n hs k (cp ρ.length .aW)with
      |.ok .next q=>match q[x]?with|some .aW=>.ok .next q|_=>.stuck
      |_=>.stuck else .stuck|none=>.stuck
 |.Nv x src k is one z,ρ=>(srcOf (isVar src) (ev c src) ρ).bind λh f=>if h.length<=lim then(jl is one (ev c z) h [] (f++cp k .aW)).bind λo p=>(lift (put (bz ρ (isVar src) (p.take f.length)) x (.hold o)) ρ).bind λg _=>.ok .next g else .stuck|.Ny x i e,ρ=>(dG (isVar i) (ev c i) ρ).bind λk ρ=>(lift (ye ρ x k) ρ).bind λ_ ρ=>(ev c e ρ).bind λr ρ=>Hv ρ x ((lM ρ x).bind λo=>(j9 k).bind λk=>lV o k λrow=>if row.length<lim then ap (row++[r.d])else none)|.Ik src is one body,ρ=>(ev c src ρ).bind λr f=>(lift (items r.d) f).bind λh f=>lB is one (fJ c n body) h f|.eN x,ρ=>match ρ[x]?with|some (.hold o)=>.ok .next (ρ.set x (.val av (.lst (o.map D.lst))))|_=>.stuck
 |.Il x,ρ=>match ρ[x]?with|some .aW=>.ok .next (ρ.set x (.dM []))|some (.dM _)=>.ok .next (ρ.set x (.dM []))|some (.val av _)=>.ok .next (ρ.set x (.dM []))|_=>.stuck
 |.RM x k e,ρ=>match ρ[x]?with|some .aW=>.ok .next (ρ.set x (.dM [(k,.int e)]))|some (.dM _)=>.ok .next (ρ.set x (.dM [(k,.int e)]))|some (.val av _)=>.ok .next (ρ.set x (.dM [(k,.int e)]))|_=>.stuck
 |.jF x k e,ρ=>(ev c e ρ).bind λr ρ=>match ρ[x]?with
   |some (.dM _)=>(dG (isVar k) (ev c k) ρ).bind λw ρ=>match ρ[x]?,w with|some (.dM kvs),.int k=>if kvs.length<lim then .ok .next (ρ.set x (.dM (jF kvs k r.d)))else .stuck|_,_=>.stuck
   |_=>.stuck
 |.Bc i e _,ρ=>(ev c e ρ).bind λr ρ=>(lift (put ρ i (vP r)) ρ).bind λg _=>.ok .next g
noncomputable def Qu(c:Call)(n:Nat):List (List S)->Nat->List Sl->Res Fl|[],_,_=>.stuck|a::_,0,ρ=>fJ c n a ρ|_::r,k+1,ρ=>Qu c n r k ρ
noncomputable def fJ(c:Call)(n:Nat):List S->List Sl->Res Fl|[],ρ=>.ok .next ρ|s::r,ρ=>(ex c n s ρ).bind λfl ρ=>match fl with|.next=>fJ c n r ρ|fl=>.ok fl ρ
noncomputable def xV(c:Call)(n:Nat):S->List Sl->Option (Nat×List Sl)
 |.vX k,ρ=>ap (k,ρ)|.ifs t a b,ρ=>match jf (ev c t) ρ with|.ok x f=>if x then jw c n a f else jw c n b f|_=>none
 |.j6 src is one body,ρ=>match gY c src ρ with|some x=>ap x|none=>match srcOf (isVar src) (ev c src) ρ with|.ok g f=>(Cy is one (fJ c n body) (jw c n body) g f).map λx=>(x.1,bz ρ (isVar src) x.2)|_=>none
 |.ret e,ρ=>gY c e ρ|.Bc _ _ q,ρ=>gY c q ρ|.asg _ e,ρ=>gY c e ρ|.expr e,ρ=>gY c e ρ|.whl t body,ρ=>VP (jf (ev c t)) (fJ c n body) (jw c n body) n ρ|_,_=>none
noncomputable def jw(c:Call)(n:Nat):List S->List Sl->Option (Nat×List Sl)|[],_=>none|s::r,ρ=>match xV c n s ρ with|some x=>ap x|none=>match ex c n s ρ with|.ok .next a=>jw c n r a|_=>none
end
theorem X1{c n ρ}:ex c n (.pass) ρ=.ok .next ρ:=(rfl)
theorem X2{c n ρ}:ex c n (.brk) ρ=.ok .brk ρ:=(rfl)
theorem X3{c n ρ}:ex c n (.cont) ρ=.ok .cont ρ:=(rfl)
theorem X4{c n ρ}:ex c n (.bad) ρ=.stuck:=(rfl)
theorem X5{c n e ρ}:ex c n (.expr e) ρ=(ev c e ρ).bind λ_ ρ=>.ok .next ρ:=(rfl)
theorem X6{c n i e ρ}:ex c n (.asg i e) ρ=(ev c e ρ).bind λr ρ=>(lift (put ρ i (vP r)) ρ).bind λa _=>.ok .next a:=(rfl)
theorem X7{c n i j a b ρ}:ex c n (.par i j a b) ρ=(ev c a ρ).bind λx ρ=>(ev c b ρ).bind λy ρ=>(lift ((put ρ i (.val av x.d)).bind λρ=>put ρ j (.val av y.d)) ρ).bind λe _=>.ok .next e:=(rfl)
theorem X8{c n is e ρ}:ex c n (.unp is e) ρ=(ev c e ρ).bind λr ρ=>match r.d with|.tup b=>(lift (putAll ρ is b) ρ).bind λa _=>.ok .next a|_=>.stuck:=(rfl)
theorem X9{c n x i e ρ}:ex c n (.RK x i e) ρ=(ev c e ρ).bind λr ρ=>(lift (pk ρ x) ρ).bind λ_ ρ=>(dG (isVar i) (ev c i) ρ).bind λk ρ=>match ρ[x]?,k with
 |some (.own b a),.int k=>match lR a.length k with|some j=>.ok .next (ρ.set x (.own b (a.set j r.d)))|none=>.stuck
 |_,_=>.stuck:=(rfl)
theorem X10{c n x e ρ}:ex c n (.app x e) ρ=(lift (Iu ρ x) ρ).bind λ_ ρ=>(ev c e ρ).bind λr ρ=>match ρ[x]?with|some (.own b a)=>if a.length<lim then .ok .next (ρ.set x (.own b (a++[r.d])))else .stuck|_=>.stuck:=(rfl)
theorem X11{c n e ρ}:ex c n (.ret e) ρ=match isVar e with
 |some i=>match ρ[i]?with|some (.own av a)=>.ok (.ret (.own a)) (ρ.set i .aW)|_=>(ev c e ρ).bind λr ρ=>.ok (.ret r) ρ
 |none=>(ev c e ρ).bind λr ρ=>.ok (.ret r) ρ:=(rfl)
theorem X12{c n ρ}:ex c n (.acx) ρ=.ok (.ret (.val .non)) ρ:=(rfl)
theorem X13{c n t a b ρ}:ex c n (.ifs t a b) ρ=(jf (ev c t) ρ).bind λk ρ=>if k then fJ c n a ρ else fJ c n b ρ:=(rfl)
theorem X14{c n src is one body ρ}:ex c n (.j6 src is one body) ρ=(srcOf (isVar src) (ev c src) ρ).bind λe a=>(lB is one (fJ c n body) e a).bind λf b=>.ok f (bz ρ (isVar src) b):=(rfl)
theorem X15{c n t body ρ}:ex c n (.whl t body) ρ=uX (jf (ev c t)) (fJ c n body) n ρ:=(rfl)
theorem X16{c n x sub e ρ}:ex c n (.aug x sub e) ρ=(lift (pk ρ x) ρ).bind λa ρ=>(dG (isVar e) (ev c e) ρ).bind λb ρ=>match a,b with|.int i,.int j=>(lift (put ρ x (.val av (.int (if sub then i-j else i+j)))) ρ).bind λf _=>.ok .next f|_,_=>.stuck:=(rfl)
theorem X17{c n x i sub e ρ}:ex c n (.Nt x i sub e) ρ=(lift (Iu ρ x) ρ).bind λ_ ρ=>(dG (isVar i) (ev c i) ρ).bind λk ρ=>(lift (Iu ρ x) ρ).bind λl ρ=>(lift ((j9 k).bind λi=>at' l i) ρ).bind λa ρ=>(dG (isVar e) (ev c e) ρ).bind λb ρ=>match a,b,ρ[x]?,k with
 |.int u,.int v,ap (.own g f),.int k=>match lR f.length k with|some j=>.ok .next (ρ.set x (.own g (f.set j (.int (if sub then u-v else u+v)))))|none=>.stuck
 |_,_,_,_=>.stuck:=(rfl)
theorem X18{c n x t ρ}:ex c n (.Nu x t) ρ=match ρ[x]?with|some .aW=>.ok .next (ρ.set x (.jE (if t then .t []else .k [])))|_=>.stuck:=(rfl)
theorem X19{c n x k e ρ}:ex c n (.dput x k e) ρ=(ev c e ρ).bind λr ρ=>match ρ[x]?with
 |some (.jE _)=>(dG (isVar k) (ev c k) ρ).bind λa ρ=>match ρ[x]?,r with
   |some (.jE m),.val (.int v)=>match m.put a v with|some b=>.ok .next (ρ.set x (.jE b))|none=>.stuck
   |_,_=>.stuck
 |_=>.stuck:=(rfl)
theorem X20{c n w1 ρ}:ex c n (.vX w1) ρ=.stuck:=(rfl)
theorem X22{c n x src k is one elt ρ}:ex c n (.Nv x src k is one elt) ρ=(srcOf (isVar src) (ev c src) ρ).bind λg a=>if g.length<=lim then(jl is one (ev c elt) g [] (a++cp k .aW)).bind λe b=>(lift (put (bz ρ (isVar src) (b.take a.length)) x (.hold e)) ρ).bind λf _=>.ok .next f else .stuck:=(rfl)
theorem X23{c n x i e ρ}:ex c n (.Ny x i e) ρ=(dG (isVar i) (ev c i) ρ).bind λk ρ=>(lift (ye ρ x k) ρ).bind λ_ ρ=>(ev c e ρ).bind λr ρ=>Hv ρ x ((lM ρ x).bind λa=>(j9 k).bind λk=>lV a k λrow=>if row.length<lim then ap (row++[r.d])else none):=(rfl)
theorem X24{c n src is one body ρ}:ex c n (.Ik src is one body) ρ=(ev c src ρ).bind λr a=>(lift (items r.d) a).bind λb a=>lB is one (fJ c n body) b a:=(rfl)
theorem X25{c n x ρ}:ex c n (.eN x) ρ=match ρ[x]?with|some (.hold a)=>.ok .next (ρ.set x (.val av (.lst (a.map D.lst))))|_=>.stuck:=(rfl)
theorem X26{c n x ρ}:ex c n (.Il x) ρ=match ρ[x]?with|some .aW=>.ok .next (ρ.set x (.dM []))|some (.dM _)=>.ok .next (ρ.set x (.dM []))|some (.val av _)=>.ok .next (ρ.set x (.dM []))|_=>.stuck:=(rfl)
theorem X27{c n x k e ρ}:ex c n (.RM x k e) ρ=match ρ[x]?with|some .aW=>.ok .next (ρ.set x (.dM [(k,.int e)]))|some (.dM _)=>.ok .next (ρ.set x (.dM [(k,.int e)]))|some (.val av _)=>.ok .next (ρ.set x (.dM [(k,.int e)]))|_=>.stuck:=(rfl)
theorem X28{c n x k e ρ}:ex c n (.jF x k e) ρ=(ev c e ρ).bind λr ρ=>match ρ[x]?with
 |some (.dM _)=>(dG (isVar k) (ev c k) ρ).bind λa ρ=>match ρ[x]?,a with|some (.dM kvs),.int k=>if kvs.length<lim then .ok .next (ρ.set x (.dM (jF kvs k r.d)))else .stuck|_,_=>.stuck
 |_=>.stuck:=(rfl)
theorem X29{c n i e w1 ρ}:ex c n (.Bc i e w1) ρ=(ev c e ρ).bind λr ρ=>(lift (put ρ i (vP r)) ρ).bind λa _=>.ok .next a:=(rfl)
structure Fd where
 np:Nat
 nn:Nat
 body:List S deriving Inhabited
noncomputable abbrev Tab:=Nat->Option Fd
noncomputable def enter(c:Call)(n:Nat)(d:Fd)(args:List Sl):Res R:=if args.length=d.np/\d.np<=d.nn then match fJ c n d.body (args++cp (d.nn-d.np) .aW)with|.ok .next ρ=>.ok (.val .non) (ρ.take d.np)|.ok (.ret r) ρ=>.ok r (ρ.take d.np)|_=>match jw c n d.body (args++cp (d.nn-d.np) .aW)with|some (k,ρ)=>.exc k (ρ.take d.np)|none=>.stuck else .stuck
noncomputable def run(Γ:Tab)(w:Nat):Nat->Call|0,_,_=>.stuck|n+1,f,args=>match Γ f with|some d=>enter (run Γ w n) w d args|none=>.stuck
end _H
section
namespace _H
open PySem _L
variable{ρ:List Sl}{σ:St}{v:V}
noncomputable def Dc.ho:Dc->HO|.k kvs=>.dK (kvs.map λp=>(dA p.1,V.int p.2))|.t kvs=>.dT (kvs.map λp=>(p.1.map dA,V.int p.2))
noncomputable def Gw(ks:List Int)(vs:List V):HO:=.dK ((ks.zip vs).map λp=>(dA p.1,p.2))
section
variable(K:PySem.W.Frag)
mutual
noncomputable def Rep(F:Hp):V->D->Prop|v,.non=>v=.non|v,.bl b=>v=.bl b|v,.int i=>v=.int i|v,.str x=>v=.str x|v,.tup c=>∃a xs,v=.ref a/\nU K F a xs/\aN F xs c|v,.lst c=>∃a xs,v=.ref a/\gq K F a xs/\aN F xs c|v,.fZ m=>∃a o,v=.ref a/\F a=ap (.eN o m.ho)|v,.dv ks c=>∃a o vs,v=.ref a/\F a=ap (.eN o (Gw ks vs))/\aN F vs c/\ks.length=c.length
noncomputable def aN(F:Hp):List V->List D->Prop|vs,[]=>vs=[]|vs,d::a=>∃v r,vs=v::r/\Rep F v d/\aN F r a
end
end
section
variable{K:PySem.W.Frag}{F F' H H':Hp}
theorem aJ.jq{a:b_}{xs:List V}(e:aJ H H')(h:nU K H a xs):nU K H' a xs:=by
 rcases h with(h|⟨o,h⟩)|h;.exact .inl (.inl (e _ _ h))
 .exact .inl (.inr ⟨o,e _ _ h⟩)
 .exact .inr h
mutual
theorem Rep.mono(e:aJ F F'):∀{d:D}{v:V},Rep K F v d->Rep K F' v d|.non,_,h=>by rw[Rep]at h ⊢;exact h|.bl _,_,h=>by rw[Rep]at h ⊢;exact h|.int _,_,h=>by rw[Rep]at h ⊢;exact h|.str _,_,h=>by rw[Rep]at h ⊢;exact h|.tup b,_,h=>by rw[Rep]at h ⊢;obtain⟨a,xs,rfl,hs,r⟩:=h;exact⟨a,xs,rfl,aJ.jq e hs,aN.mono e r⟩|.lst b,_,h=>by rw[Rep]at h ⊢;obtain⟨a,xs,rfl,hs,r⟩:=h;exact⟨a,xs,rfl,e.seq hs,aN.mono e r⟩|.fZ m,_,h=>by rw[Rep]at h ⊢;obtain⟨a,o,rfl,hs⟩:=h;exact⟨a,o,rfl,e _ _ hs⟩|.dv ks b,_,h=>by rw[Rep]at h ⊢;obtain⟨a,o,vs,rfl,hs,r,c⟩:=h;exact⟨a,o,vs,rfl,e _ _ hs,aN.mono e r,c⟩theorem aN.mono(e:aJ F F'):∀{a:List D}{vs:List V},aN K F vs a->aN K F' vs a|[],_,h=>by rw[aN]at h ⊢;exact h|d::a,_,h=>by rw[aN]at h ⊢;obtain⟨v,r,rfl,h1,b⟩:=h;exact⟨v,r,rfl,Rep.mono e h1,aN.mono e b⟩end
theorem aN.nil:aN K F [] []:=by rw[aN]
theorem aN.cons{v:V}{d:D}{vs:List V}{a:List D}(h:Rep K F v d)(t:aN K F vs a):aN K F (v::vs) (d::a):=by rw[aN];exact⟨v,vs,rfl,h,t⟩
theorem aN.dB{vs:List V}{d:D}{a:List D}(h:aN K F vs (d::a)):∃v r,vs=v::r/\Rep K F v d/\aN K F r a:=by rw[aN]at h;exact h
theorem aN.iY{vs:List V}(h:aN K F vs []):vs=[]:=by rw[aN]at h;exact h
theorem aN.length:∀{a:List D}{vs:List V},aN K F vs a->vs.length=a.length|[],_,h=>by rw[h.iY];rfl|d::a,_,h=>by obtain⟨v,r,rfl,_,t⟩:=h.dB;simp[aN.length t]
theorem aN.get:∀{a:List D}{vs:List V}{i:Nat}{d:D},aN K F vs a->a[i]?=ap d->∃v,vs[i]?=ap v/\Rep K F v d|[],_,_,_,h,e=>by simp at e|d::a,_,0,_,h,e=>by obtain⟨v,r,rfl,h1,t⟩:=h.dB;simp at e;subst e;exact⟨v,rfl,h1⟩|d::a,_,i+1,_,h,e=>by obtain⟨v,r,rfl,_,t⟩:=h.dB;simp at e;obtain⟨w,b,c⟩:=t.get e;exact⟨w,by simpa using b,c⟩
theorem aN.append:∀{a es:List D}{vs b:List V},aN K F vs a->aN K F b es->aN K F (vs++b) (a++es)|[],_,_,_,h,h'=>by rw[h.iY];exact h'|d::a,_,_,_,h,h'=>by obtain⟨v,r,rfl,h1,t⟩:=h.dB;exact .cons h1 (t.append h')
theorem aN.set{v:V}{d:D}(hr:Rep K F v d):∀{a:List D}{vs:List V}(i:Nat),aN K F vs a->aN K F (vs.set i v) (a.set i d)|[],_,_,h=>by rw[h.iY];exact .nil|_::_,_,0,h=>by obtain⟨w,r,rfl,h1,t⟩:=h.dB;exact .cons hr t|_::_,_,i+1,h=>by obtain⟨w,r,rfl,h1,t⟩:=h.dB;exact .cons h1 (aN.set hr i t)
theorem aN.take:∀{a:List D}{vs:List V}(n:Nat),aN K F vs a->aN K F (vs.take n) (a.take n)|[],_,n,h=>by rw[h.iY];simpa using aN.nil|_::_,_,0,h=>.nil|_::_,_,n+1,h=>by obtain⟨w,r,rfl,h1,t⟩:=h.dB;exact .cons h1 (t.take n)
theorem aN.drop:∀{a:List D}{vs:List V}(n:Nat),aN K F vs a->aN K F (vs.drop n) (a.drop n)|[],_,n,h=>by rw[h.iY];simpa using aN.nil|_::_,_,0,h=>h|_::_,_,n+1,h=>by obtain⟨w,r,rfl,h1,t⟩:=h.dB;exact t.drop n
theorem aN.rep{a:List D}{vs:List V}(h:aN K F vs a):∀n,aN K F (cp n vs).flatten (cp n a).flatten|0=>by simpa using aN.nil|n+1=>by simpa[hJ]using h.append (aN.rep h n)
inductive Oc where|l(ds:List D)|d(m:Dc)|v(kvs:List (Int×D))
noncomputable def lst?:Sl->Option Oc|.own _ a=>ap (.l a)|.lent a=>ap (.l a)|.jE m=>ap (.d m)|.dM kvs=>ap (.v kvs)|_=>none
noncomputable def oA(K:PySem.W.Frag)(F:Hp)(o:HO):Oc->Prop|.l a=>∃xs,o=.lst xs/\aN K F xs a|.d m=>o=m.ho|.v kvs=>∃vs,o=Gw (kvs.map (·.1)) vs/\aN K F vs (kvs.map (·.2))
theorem oA.mono{o:HO}{x:Oc}(e:aJ F F')(h:oA K F o x):oA K F' o x:=by cases x with|l b=>obtain⟨xs,a,h⟩:=h;exact⟨xs,a,h.mono e⟩|d m=>exact h|v kvs=>obtain⟨xs,a,h⟩:=h;exact⟨xs,a,h.mono e⟩
noncomputable def bB(ρ:List Sl)(σ:St)(i:Nat)(a:b_):Prop:=(∃s b,ρ[i]?=ap s/\lst? s=ap b)/\σ[i]?=ap (ap (V.ref a))
noncomputable def Own(ρ:List Sl)(σ:St)(a:b_):Prop:=∃i,bB ρ σ i a
structure GS(K:PySem.W.Frag)(F:Hp)(ρ:List Sl)(σ:St)(H:Hp):Prop where
 sub:aJ F H
 len:ρ.length=σ.length
 val:∀(i:Nat)(b:Bool)(d:D),ρ[i]?=ap (Sl.val b d)->∃v:V,σ[i]?=ap (ap v)/\Rep K F v d
 own:∀(i:Nat)(s:Sl)(ds:Oc),ρ[i]?=ap s->lst? s=ap ds->∃(a:b_)(xs:HO),σ[i]?=ap (ap (V.ref a))/\H a=ap xs/\F a=none/\oA K F xs ds
 dis:∀(i j:Nat)(a:b_),bB ρ σ i a->bB ρ σ j a->i=j
theorem GS.pK(g:GS K F ρ σ H)(i:Nat)(s:Sl)(b:List D)(e:ρ[i]?=ap s)(c:lst? s=ap (.l b)):∃(a:b_)(xs:List V),σ[i]?=ap (ap (V.ref a))/\H a=ap (.lst xs)/\F a=none/\aN K F xs b:=by obtain⟨a,o,h1,f,h,xs,rfl,j⟩:=g.own i s (.l b) e c;exact⟨a,xs,h1,f,h,j⟩
noncomputable def u9:Sl->Bool|.val b _=>b|.own b _=>b|.lent _=>bj|.aW=>av|.jE _=>av|.dM _=>av|.hold _=>bj
noncomputable def o6:Sl->Sl->Prop|.val bj d,s=>s=.val bj d|.own bj _,s=>(∃a,s=.own bj a)\/∃d,s=.val bj d|.lent a,s=>s=.lent a|.hold a,s=>s=.hold a|_,_=>True
theorem o6.refl(s:Sl):o6 s s:=by unfold o6;split<;>first|rfl|exact .inl ⟨_,rfl⟩|trivial
theorem o6.u9{s a:Sl}(h:o6 s a)(l:u9 s=bj):_H.u9 a=bj:=by cases s with
 |aW=>cases l|jE _=>cases l|dM _=>cases l|val b d=>cases b with|true=>cases h;rfl|false=>cases l
 |own b d=>cases b with|true=>rcases h with⟨_,rfl⟩|⟨_,rfl⟩<;>rfl|false=>cases l
 |lent d=>cases h;rfl|hold d=>cases h;rfl
theorem o6.trans{s c a:Sl}(l:_H.u9 s=bj)(h:o6 s c)(h':o6 c a):o6 s a:=by cases s with
 |aW=>cases l|jE _=>cases l|dM _=>cases l|val b d=>cases b with|true=>cases h;exact h'|false=>cases l
 |own b d=>cases b with
   | true => rcases h with⟨_,rfl⟩|⟨d,rfl⟩;.exact h'
             .exact .inr ⟨d,h'⟩|false=>cases l
 |lent d=>cases h;exact h'|hold d=>cases h;exact h'
noncomputable def nt:Option HO->Option HO|some (.tup _)=>none|o=>o
theorem ni{o:Option HO}(h:o=none):nt o=none:=by rw[h];rfl
theorem Nb{H:Hp}{b:b_}{xs:List V}(h:H b=ap (.lst xs))(z:nt (H b)=none):False:=by rw[h]at z;cases z
theorem LK{o:HO}{x:Oc}(h:oA K F o x)(z:nt (ap o)=none):False:=by cases x with|l a=>obtain⟨xs,rfl,_⟩:=h;cases z|d m=>cases m<;>(cases(show o=_ from h);cases z)|v kvs=>obtain⟨xs,rfl,_⟩:=h;cases z
structure aL(K:PySem.W.Frag)(F:Hp)(ρ:List Sl)(σ:St)(H:Hp)(F':Hp)(ρ':List Sl)(σ':St)(H':Hp):Prop where
 gs:GS K F' ρ' σ' H'
 cG:aJ F F'
 yR:∀b,F b=none->F' b≠none->Own ρ σ b\/nt (H b)=none
 keep:∀b o,H b=ap o->¬ Own ρ σ b->H' b=ap o
 yS:∀b,Own ρ' σ' b->Own ρ σ b\/H b=none
 len:ρ'.length=ρ.length
 lk:∀(i:Nat)(s:Sl),ρ[i]?=ap s->u9 s=bj->σ'[i]?=σ[i]?/\∃s',ρ'[i]?=ap s'/\o6 s s'
theorem aL.refl{ρ:List Sl}{σ:St}(g:GS K F ρ σ H):aL K F ρ σ H F ρ σ H:=⟨g,aJ.refl _,λb h h'=>absurd h h',λ_ _ h _=>h,λ_ h=>.inl h,rfl,λi s h _=>⟨rfl,s,h,.refl s⟩⟩
theorem aL.trans{F1 p m r:Hp}{ρ f j:List Sl}{σ g k:St}(a:aL K F ρ σ H F1 f g m)(b:aL K F1 f g m p j k r):aL K F ρ σ H p j k r:=by
 have back:∀c,Own f g c\/m c=none->Own ρ σ c\/H c=none:=λc h=>by
  rcases h with h|h;.exact a.yS c h
  . by_cases ho:Own ρ σ c;.exact .inl ho
    .right;cases e:H c with|none=>rfl|some o=>rw[a.keep c o e ho]at h;cases h
 refine⟨b.gs,a.cG.trans b.cG,λc h h'=>?_,λc o h n=>?_,λc h=>back c (b.yS c h),b.len.trans a.len,λi s h l=>?_⟩
 . by_cases e:F1 c=none
   . by_cases ho:Own ρ σ c;.exact .inl ho
     . rcases b.yR c e h' with z|z;.exact(back c (.inl z)).imp id ni
       .right;cases q:H c with|none=>rfl|some o=>rw[a.keep c o q ho]at z;exact z
   .exact a.yR c h e
 . refine b.keep c o (a.keep c o h n) λh'=>?_;rcases a.yS c h' with h'|h';.exact n h'
   .rw[h]at h';cases h'
 .obtain⟨t,s1,h1,k1⟩:=a.lk i s h l;obtain⟨u,s2,w,k2⟩:=b.lk i s1 h1 (k1.u9 l);exact⟨u.trans t,s2,w,.trans l k1 k2⟩
noncomputable def fB(K:PySem.W.Frag)(F H:Hp)(v:V)(d:D):Prop:=Rep K F v d\/∃a xs b,v=.ref a/\H a=ap (.lst xs)/\aN K F xs b/\d=.lst b
noncomputable def dR(K:PySem.W.Frag)(F':Hp)(b:List Sl)(σ':St)(H':Hp)(ρ:List Sl)(σ:St)(H:Hp)(v:V):R->Prop|.val d=>Rep K F' v d|.own c=>∃a xs,v=.ref a/\H' a=ap (.lst xs)/\F' a=none/\aN K F' xs c/\¬ Own b σ' a/\(Own ρ σ a\/H a=none)
theorem aJ.cY{F:Hp}{a:b_}{o:HO}(h:F a=none):aJ F (upd F a o):=λb u e=>by
 have:b≠a:=by rintro rfl;rw[h]at e;cases e
 rw[aH this];exact e
theorem aL.eN{c:List Sl}{σ':St}{r:R}(s:aL K F ρ σ H F' c σ' H')(h:dR K F' c σ' H' ρ σ H v r):∃f,aL K F ρ σ H f c σ' H'/\aJ F' f/\Rep K f v r.d:=by cases r with|val d=>exact⟨F',s,.refl _,h⟩|own t=>
   obtain⟨a,xs,rfl,h1,u,w,x,y⟩:=h;have j:aJ F' (upd F' a (.lst xs)):=aJ.cY u;refine⟨upd F' a (.lst xs),⟨⟨λb o e=>?_,s.gs.len,λi b d e=>?_,λi sl k e p=>?_,s.gs.dis⟩,s.cG.trans j,λb n q=>?_,s.keep,s.yS,s.len,s.lk⟩,j,?_⟩
   . by_cases g:b=a;.subst g;rw[aP]at e;cases e;exact h1
     .rw[aH g]at e;exact s.gs.sub b o e
   .obtain⟨v,l,m⟩:=s.gs.val i b d e;exact⟨v,l,m.mono j⟩
   . obtain⟨b,ys,l,m,z,A⟩:=s.gs.own i sl k e p;have g:b≠a:=by rintro rfl;exact x ⟨i,⟨sl,k,e,p⟩,l⟩
     exact⟨b,ys,l,m,by rw[aH g];exact z,A.mono j⟩
   . by_cases g:b=a;.subst g;exact y.imp id ni
     .rw[aH g]at q;exact s.yR b n q
   .show Rep K _ _ (.lst t);rw[Rep];exact⟨a,xs,rfl,gq.of aP,w.mono j⟩
theorem fB.mono{v:V}(e:aJ F F')(k:∀a xs,v=.ref a->H a=ap (.lst xs)->H' a=ap (.lst xs)){d:D}(h:fB K F H v d):fB K F' H' v d:=by
 rcases h with h|⟨a,xs,b,h1,c,f,g⟩;.exact .inl (h.mono e)
 .exact .inr ⟨a,xs,b,h1,k a xs h1 c,f.mono e,g⟩
theorem GS.pk{ρ:List Sl}{σ:St}{i:Nat}{d:D}(g:GS K F ρ σ H)(e:_H.pk ρ i=ap d):∃v:V,σ[i]?=ap (ap v)/\fB K F H v d:=by
 unfold _H.pk at e;split at e;.rename_i b d' h;cases e;obtain⟨v,h1,c⟩:=g.val i b d h;exact⟨v,h1,.inl c⟩
 .rename_i b f h;cases e;obtain⟨a,xs,h1,c,k,j⟩:=g.pK i _ f h rfl;exact⟨.ref a,h1,.inr ⟨a,xs,f,rfl,c,j,rfl⟩⟩
 .rename_i f h;cases e;obtain⟨a,xs,h1,c,k,j⟩:=g.pK i _ f h rfl;exact⟨.ref a,h1,.inr ⟨a,xs,f,rfl,c,j,rfl⟩⟩
 .cases e
structure Ext(F H F' H':Hp):Prop where
 hs:aJ H H'
 fs:aJ F F'
 sub:aJ F' H'
 gr:∀b,F b=none->F' b≠none->nt (H b)=none
theorem Ext.refl(h:aJ F H):Ext F H F H:=⟨.refl _,.refl _,h,λ_ a b=>absurd a b⟩
theorem Ext.stp(g:GS K F ρ σ H)(e:Ext F H F' H'):aL K F ρ σ H F' ρ σ H':=by
 refine⟨⟨e.sub,g.len,λi b d h=>?_,λi s j h h'=>?_,g.dis⟩,e.fs,λb n k=>.inr (e.gr b n k),λb o h _=>e.hs b o h,λ_ h=>.inl h,rfl,λi s h _=>⟨rfl,s,h,.refl s⟩⟩;.obtain⟨v,h1,c⟩:=g.val i b d h;exact⟨v,h1,c.mono e.fs⟩
 .obtain⟨a,xs,h1,c,l,f⟩:=g.own i s j h h';refine⟨a,xs,h1,e.hs _ _ c,?_,f.mono e.fs⟩;cases q:F' a with|none=>rfl|some o=>have:=e.gr a l (by rw[q];simp);rw[c]at this;exact(LK f this).elim
noncomputable def dg(K:PySem.W.Frag)(F' H' H:Hp)(v:V):R->Prop|.val d=>Rep K F' v d|.own b=>∃a xs,v=.ref a/\H' a=ap (.lst xs)/\F' a=none/\aN K F' xs b/\H a=none
theorem dg.qF{r:R}(g:GS K F ρ σ H)(h:dg K F' H' H v r):dR K F' ρ σ H' ρ σ H v r:=by cases r with|val d=>exact h|own p=>obtain⟨a,xs,rfl,h1,l,m,f⟩:=h;refine⟨a,xs,rfl,h1,l,m,?_,.inr f⟩;rintro⟨i,⟨s,c,e,n⟩,o⟩;obtain⟨b,ys,j,k,_⟩:=g.own i s c e n;rw[o]at j;cases j;rw[f]at k;cases k
theorem dR.later{F1 j k l:Hp}{c f:List Sl}{g i:St}{r:R}(a:aL K F ρ σ H F1 c g j)(h:dR K k f i l c g j v r):dR K k f i l ρ σ H v r:=by cases r with|val d=>exact h|own q=>
   obtain⟨b,xs,rfl,h1,m,n,p,h5⟩:=h;refine⟨b,xs,rfl,h1,m,n,p,?_⟩;rcases h5 with h5|h5;.exact a.yS b h5
   . by_cases ho:Own ρ σ b;.exact .inl ho
     .right;cases e:H b with|none=>rfl|some o=>rw[a.keep b o e ho]at h5;cases h5
end
end _H
end
namespace _H
open PySem _L Spec PyProof.Rows
variable{ρ' ρ ρ₀:List Sl}{es:List da}{K:PySem.W.Frag}{F H H₀:Hp}{σ:_L.St}{i n:Nat}{ds:List D}{x:Str}{v:V}{vs:List V}{op:ny}{p':Pos}{as:List Arg}
theorem aj{c e:Type}{x:Res c}{f:c->List Sl->Res e}{b:e}(h:x.bind f=.ok b ρ'):∃a ρ,x=.ok a ρ/\f a ρ=.ok b ρ':=by cases x with|ok a ρ=>exact⟨a,ρ,rfl,h⟩|exc _ _=>cases h|stuck=>cases h
theorem aF{c:Type}{o:Option c}{a:c}(h:lift o ρ=.ok a ρ'):o=ap a/\ρ=ρ':=by cases o with|none=>cases h|some b=>cases h;exact⟨rfl,rfl⟩
theorem map_some{c e:Type}{o:Option c}{f:c->e}{b:e}(h:o.map f=ap b):∃a,o=ap a/\f a=b:=by cases o with|none=>cases h|some a=>cases h;exact⟨a,rfl,rfl⟩
theorem dj{c e:Type}{o:Option c}{f:c->Option e}{b:e}(h:o.bind f=ap b):∃a,o=ap a/\f a=ap b:=by cases o with|none=>cases h|some a=>exact⟨a,rfl,h⟩
theorem bU{e:Type}{c:Prop}[Decidable c]{a b:e}(h:(if c then ap a else none)=ap b):c/\a=b:=by
 split at h;.rename_i hc;cases h;exact⟨hc,rfl⟩
 .cases h
section
variable{X:Cx}{c:Call}{e a b:da}{p pa pb:P}{pos:Pos}
theorem dh{t t':TE}(h:PE X e t)(i:∀σ H Q,t' σ H Q->t σ H Q):PE X e t':=λf s σ H Q I q=>h f s σ H Q I (i σ H Q q)
theorem Ab{t t':TT}(h:PT X e t)(i:∀σ H Q,t' σ H Q->t σ H Q):PT X e t':=λf s σ H Q I q=>h f s σ H Q I (i σ H Q q)
theorem Tn{t t':TT}(h:PW X e t)(i:∀σ H Q,t' σ H Q->t σ H Q):PW X e t':=λwh f s σ H Q I q=>h wh f s σ H Q I (i σ H Q q)
theorem lU{t t':TA}(h:PA X es t)(i:∀σ H Q,t' σ H Q->t σ H Q):PA X es t':=λpos f s σ H Q I q=>h pos f s σ H Q I (i σ H Q q)
inductive yc(K:PySem.W.Frag)(f:Ev)(σ:_L.St)(H:Hp)(Q:VK):Prop where|mk(F:Hp)(ρ:List Sl)(r:R)(ρ':List Sl)(g:GS K F ρ σ H)(e:f ρ=.ok r ρ')(k:∀v F' H',aL K F ρ σ H F' ρ' σ H'->dR K F' ρ' σ H' ρ σ H v r->Q v H')
inductive Hk(K:PySem.W.Frag)(f:List Sl->Res Bool)(σ:_L.St)(H:Hp)(Q:Bool->Hp->Prop):Prop where|mk(F:Hp)(ρ:List Sl)(b:Bool)(ρ':List Sl)(g:GS K F ρ σ H)(e:f ρ=.ok b ρ')(k:∀F' H',aL K F ρ σ H F' ρ' σ H'->Q b H')
inductive ahx(K:PySem.W.Frag)(f:List Sl->Res (List D))(σ:_L.St)(H:Hp)(Q:List V->Hp->Prop):Prop where|mk(F:Hp)(ρ:List Sl)(ds:List D)(ρ':List Sl)(g:GS K F ρ σ H)(e:f ρ=.ok ds ρ')(k:∀vs F' H',aL K F ρ σ H F' ρ' σ H'->aN K F' vs ds->Q vs H')
structure SX(X:Cx)(c:Call)(e:da)(p:P):Prop where ev:PE X e (yc X.K (_H.ev c p))var:∀i,isVar p=ap i->PE X e (V9 i)
noncomputable def SA(X:Cx)(c:Call)(es:List da)(ps:List P):Prop:=PA X es (ahx X.K (evs c ps))/\ps.length=es.length
theorem SX.dG(h:SX X c e p):∃t,PE X e t/\∀{σ:_L.St}{H F:Hp}{ρ ρ':List Sl}{d:D}{Q:VK},GS X.K F ρ σ H->dG (isVar p) (_H.ev c p) ρ=.ok d ρ'->(∀v F' H',aL X.K F ρ σ H F' ρ' σ H'->fB X.K F' H' v d->Q v H')->t σ H Q:=by cases hv:isVar p with|none=>refine⟨_,h.ev,λ{σ H F ρ ρ' d Q}g e k=>?_⟩;obtain⟨r,m,f,j⟩:=aj e;cases j;refine⟨F,ρ,r,_,g,f,λv F' H' s o=>?_⟩;obtain⟨l,q,_,u⟩:=s.eN o;exact k v l H' q (.inl u)|some i=>refine⟨_,h.var i hv,λ{σ H F ρ ρ' d Q}g e k=>?_⟩;obtain⟨f,j⟩:=aF e;subst j;obtain⟨v,h1,w⟩:=g.pk f;exact⟨v,h1,k v F H (.refl g) w⟩
theorem SX.kI(G:SX X c a pa)(L:SX X c b pb):∃I h,PE X a I/\PE X b h/\∀{σ:_L.St}{H F:Hp}{ρ ρ':List Sl}{j:D×D}{R:V->V->Hp->Prop},GS X.K F ρ σ H->kI (isVar pa) (_H.ev c pa) (isVar pb) (_H.ev c pb) ρ=.ok j ρ'->(∀v u F' H',aL X.K F ρ σ H F' ρ' σ H'->fB X.K F' H' v j.1->fB X.K F' H' u j.2->R v u H')->I σ H λx t=>h σ t λy w=>R x y w:=by obtain⟨h,l,m⟩:=L.dG;cases hv:isVar pa with|none=>refine⟨_,h,G.ev,l,λ{σ H F ρ ρ' j R}g e k=>?_⟩;obtain⟨x,z,o,e⟩:=aj e;obtain⟨y,A,f,e⟩:=aj e;cases e;obtain⟨r,J,o,B⟩:=aj o;cases B;refine⟨F,ρ,r,_,g,o,λv F' H' s M=>?_⟩;obtain⟨F1,s1,_,N⟩:=s.eN M;refine m s1.gs f λu O w s2 C=>?_;exact k v u O w (s1.trans s2) (.inl (N.mono s2.cG)) C|some i=>refine⟨_,h,G.var i hv,l,λ{σ H F ρ ρ' j R}g e k=>?_⟩;obtain⟨x0,Q,B,e⟩:=aj e;obtain⟨E,U⟩:=aF B;subst U;obtain⟨y,z,o,e⟩:=aj e;obtain⟨x,A,f,e⟩:=aj e;cases e;have W:=aF f;clear f;obtain⟨f,Y⟩:=W;subst Y;obtain⟨v,h1,_⟩:=g.pk E;refine⟨v,h1,m g o λu F1 t s1 C=>?_⟩;obtain⟨v',q,Z⟩:=s1.gs.pk f;rw[h1]at q;cases q;exact k v u F1 t s1 Z C
inductive rD(K:PySem.W.Frag)(f:D->D->Option R)(x y:V)(H:Hp)(Q:VK):Prop where|mk(F:Hp)(d e:D)(r:R)(sm:aJ F H)(px:fB K F H x d)(py:fB K F H y e)(he:f d e=ap r)(k:∀v F' H',Ext F H F' H'->dg K F' H' H v r->Q v H')
inductive rD1(K:PySem.W.Frag)(f:D->Option R)(x:V)(H:Hp)(Q:VK):Prop where|mk(F:Hp)(d:D)(r:R)(sm:aJ F H)(px:fB K F H x d)(he:f d=ap r)(k:∀v F' H',Ext F H F' H'->dg K F' H' H v r->Q v H')
theorem yN{E:da}{f:D->D->Option R}{q:P}(t:∀{m o},PE X a m->PE X b o->PE X E (Vh (rD X.K f) m o))(y:SX X c a pa)(z:SX X c b pb)(A:∀ρ,_H.ev c q ρ=(_H.kI (isVar pa) (_H.ev c pa) (isVar pb) (_H.ev c pb) ρ).bind λj ρ=>lift (f j.1 j.2) ρ)(B:isVar q=none):SX X c E q:=by obtain⟨m,o,h1,C,G⟩:=y.kI z;refine⟨dh (t h1 C) ?_,λi h=>by rw[B]at h;cases h⟩;rintro σ H Q⟨F,ρ,r,ρ',g,e,k⟩;rw[A]at e;obtain⟨j,I,J,l⟩:=aj e;have L:=aF l;clear l;obtain⟨l,M⟩:=L;subst M;refine G g J λv u F' H' s N O=>⟨F',j.1,j.2,r,s.gs.sub,N,O,l,λw U W x Y=>?_⟩;exact k w U W (s.trans (x.stp s.gs)) (.later s (Y.qF s.gs))
theorem Ye{E:da}{f:D->Option R}{q:P}(m:∀{l},PE X a l->PE X E (tUn (rD1 X.K f) l))(o:SX X c a pa)(t:∀ρ,_H.ev c q ρ=(_H.dG (isVar pa) (_H.ev c pa) ρ).bind λx ρ=>lift (f x) ρ)(u:isVar q=none):SX X c E q:=by obtain⟨l,h1,y⟩:=o.dG;refine⟨dh (m h1) ?_,λi h=>by rw[u]at h;cases h⟩;rintro σ H Q⟨F,ρ,r,ρ',g,e,k⟩;rw[t]at e;obtain⟨x,z,A,j⟩:=aj e;have B:=aF j;clear j;obtain⟨j,C⟩:=B;subst C;refine y g A λv F' H' s G=>⟨F',x,r,s.gs.sub,G,j,λw I J x L=>?_⟩;exact k w I J (s.trans (x.stp s.gs)) (.later s (L.qF s.gs))
theorem GS.freeze{b:Bool}(g:GS K F ρ σ H)(e:ρ[i]?=ap (.own b ds)):∃v F',σ[i]?=ap (ap v)/\aL K F ρ σ H F' (ρ.set i (.val b (.lst ds))) σ H/\Rep K F' v (.lst ds):=by
 obtain⟨a,xs,h1,C,E,G⟩:=g.pK i _ ds e rfl;have hi:i<ρ.length:=(gh e).1;have y:aJ F (upd F a (.lst xs)):=aJ.cY E;have A:Rep K (upd F a (.lst xs)) (.ref a) (.lst ds):=by rw[Rep];exact⟨a,xs,rfl,gq.of aP,G.mono y⟩
 have I:Own ρ σ a:=⟨i,⟨_,_,e,rfl⟩,h1⟩;have r:∀j x,bB (ρ.set i (.val b (.lst ds))) σ j x->bB ρ σ j x/\j≠i:=λj x⟨⟨s,h,m,u⟩,z⟩=>by
  by_cases f:j=i;.subst f;rw[ce hi]at m;cases m;cases u
  .rw[gM f]at m;exact⟨⟨⟨s,h,m,u⟩,z⟩,f⟩
 refine⟨.ref a,upd F a (.lst xs),h1,⟨⟨λx o q=>?_,by simpa using g.len,λj J d q=>?_,λj s h q w=>?_,λj k x q w=>g.dis j k x (r j x q).1 (r k x w).1⟩,y,λx n B=>?_,λ_ _ q _=>q,λx⟨j,q⟩=>.inl ⟨j,(r j x q).1⟩,by simp,λj s q l=>⟨rfl,?_⟩⟩,A⟩
 . by_cases t:x=a;.subst t;rw[aP]at q;cases q;exact C
   .rw[aH t]at q;exact g.sub x o q
 . by_cases f:j=i;.subst f;rw[ce hi]at q;cases q;exact⟨_,h1,A⟩
   .rw[gM f]at q;obtain⟨v,m,u⟩:=g.val j J d q;exact⟨v,m,u.mono y⟩
 . by_cases f:j=i;.subst f;rw[ce hi]at q;cases q;cases w
   . rw[gM f]at q;obtain⟨x,ys,m,u,z,L⟩:=g.own j s h q w;have t:x≠a:=by rintro rfl;exact f (g.dis j i x ⟨⟨s,h,q,w⟩,m⟩ ⟨⟨_,_,e,rfl⟩,h1⟩)
     exact⟨x,ys,m,u,by rw[aH t];exact z,L.mono y⟩
 . by_cases t:x=a;.subst t;exact .inl I
   .rw[aH t]at B;exact absurd n B
 . by_cases f:j=i;.subst f;rw[e]at q;cases q;refine⟨_,ce hi,?_⟩;cases b with|true=>exact .inr ⟨_,rfl⟩|false=>cases l
   .exact⟨s,by rw[gM f];exact q,.refl s⟩
theorem GS.Gv{m:Dc}(g:GS K F ρ σ H)(e:ρ[i]?=ap (.jE m)):∃a,σ[i]?=ap (ap (.ref a))/\H a=ap m.ho/\∀u,aL K F ρ σ H (upd F a (.eN u m.ho)) (ρ.set i (.val av (.fZ m))) σ (upd H a (.eN u m.ho))/\Rep K (upd F a (.eN u m.ho)) (.ref a) (.fZ m):=by
 obtain⟨a,I,h1,J,L,M⟩:=g.own i _ _ e rfl;cases(show I=m.ho from M);have hi:i<ρ.length:=(gh e).1;refine⟨a,h1,J,λu=>?_⟩;have A:aJ F (upd F a (.eN u m.ho)):=aJ.cY L;have C:Rep K (upd F a (.eN u m.ho)) (.ref a) (.fZ m):=by rw[Rep];exact⟨a,u,rfl,aP⟩
 have E:Own ρ σ a:=⟨i,⟨_,_,e,rfl⟩,h1⟩;have w:∀j x,bB (ρ.set i (.val av (.fZ m))) σ j x->bB ρ σ j x/\j≠i:=λj x⟨⟨s,r,t,y⟩,B⟩=>by
  by_cases f:j=i;.subst f;rw[ce hi]at t;cases t;cases y
  .rw[gM f]at t;exact⟨⟨⟨s,r,t,y⟩,B⟩,f⟩
 refine⟨⟨⟨λx o q=>?_,by simpa using g.len,λj N d q=>?_,λj s r q z=>?_,λj k x q z=>g.dis j k x (w j x q).1 (w k x z).1⟩,A,λx n G=>?_,λx o q n=>?_,λx⟨j,q⟩=>.inl ⟨j,(w j x q).1⟩,by simp,λj s q l=>⟨rfl,?_⟩⟩,C⟩
 . by_cases h:x=a;.subst h;rw[aP]at q ⊢;exact q
   .rw[aH h]at q ⊢;exact g.sub x o q
 . by_cases f:j=i;.subst f;rw[ce hi]at q;cases q;exact⟨_,h1,C⟩
   .rw[gM f]at q;obtain⟨v,t,y⟩:=g.val j N d q;exact⟨v,t,y.mono A⟩
 . by_cases f:j=i;.subst f;rw[ce hi]at q;cases q;cases z
   . rw[gM f]at q;obtain⟨x,ys,t,y,B,O⟩:=g.own j s r q z;have h:x≠a:=by rintro rfl;exact f (g.dis j i x ⟨⟨s,r,q,z⟩,t⟩ ⟨⟨_,_,e,rfl⟩,h1⟩)
     exact⟨x,ys,t,by rw[aH h];exact y,by rw[aH h];exact B,O.mono A⟩
 . by_cases h:x=a;.subst h;exact .inl E
   .rw[aH h]at G;exact absurd n G
 . have h:x≠a:=by rintro rfl;exact n E
   rw[aH h];exact q
 . by_cases f:j=i;.subst f;rw[e]at q;cases q;cases l
   .exact⟨s,by rw[gM f];exact q,.refl s⟩
theorem GS.Ec{kvs:List (Int×D)}(g:GS K F ρ σ H)(e:ρ[i]?=ap (.dM kvs)):∃a vs,σ[i]?=ap (ap (.ref a))/\H a=ap (Gw (kvs.map (·.1)) vs)/\∀t,aL K F ρ σ H (upd F a (.eN t (Gw (kvs.map (·.1)) vs))) (ρ.set i (.val av (.dv (kvs.map (·.1)) (kvs.map (·.2))))) σ (upd H a (.eN t (Gw (kvs.map (·.1)) vs)))/\Rep K (upd F a (.eN t (Gw (kvs.map (·.1)) vs))) (.ref a) (.dv (kvs.map (·.1)) (kvs.map (·.2))):=by
 obtain⟨a,O,h1,G,I,J⟩:=g.own i _ _ e rfl;obtain⟨vs,rfl,L⟩:=J;have hi:i<ρ.length:=(gh e).1;refine⟨a,vs,h1,G,λt=>?_⟩;have z:aJ F (upd F a (.eN t (Gw (kvs.map (·.1)) vs))):=aJ.cY I;have B:Rep K (upd F a (.eN t (Gw (kvs.map (·.1)) vs))) (.ref a) (.dv (kvs.map (·.1)) (kvs.map (·.2))):=by rw[Rep];exact⟨a,t,vs,rfl,aP,L.mono z,by simp⟩
 have C:Own ρ σ a:=⟨i,⟨_,_,e,rfl⟩,h1⟩;have u:∀j x,bB (ρ.set i (.val av (.dv (kvs.map (·.1)) (kvs.map (·.2))))) σ j x->bB ρ σ j x/\j≠i:=λj x⟨⟨s,m,r,w⟩,A⟩=>by
  by_cases f:j=i;.subst f;rw[ce hi]at r;cases r;cases w
  .rw[gM f]at r;exact⟨⟨⟨s,m,r,w⟩,A⟩,f⟩
 refine⟨⟨⟨λx o q=>?_,by simpa using g.len,λj M d q=>?_,λj s m q y=>?_,λj k x q y=>g.dis j k x (u j x q).1 (u k x y).1⟩,z,λx n E=>?_,λx o q n=>?_,λx⟨j,q⟩=>.inl ⟨j,(u j x q).1⟩,by simp,λj s q l=>⟨rfl,?_⟩⟩,B⟩
 . by_cases h:x=a;.subst h;rw[aP]at q ⊢;exact q
   .rw[aH h]at q ⊢;exact g.sub x o q
 . by_cases f:j=i;.subst f;rw[ce hi]at q;cases q;exact⟨_,h1,B⟩
   .rw[gM f]at q;obtain⟨v,r,w⟩:=g.val j M d q;exact⟨v,r,w.mono z⟩
 . by_cases f:j=i;.subst f;rw[ce hi]at q;cases q;cases y
   . rw[gM f]at q;obtain⟨x,ys,r,w,A,N⟩:=g.own j s m q y;have h:x≠a:=by rintro rfl;exact f (g.dis j i x ⟨⟨s,m,q,y⟩,r⟩ ⟨⟨_,_,e,rfl⟩,h1⟩)
     exact⟨x,ys,r,by rw[aH h];exact w,by rw[aH h];exact A,N.mono z⟩
 . by_cases h:x=a;.subst h;exact .inl C
   .rw[aH h]at E;exact absurd n E
 . have h:x≠a:=by rintro rfl;exact n C
   rw[aH h];exact q
 . by_cases f:j=i;.subst f;rw[e]at q;cases q;cases l
   .exact⟨s,by rw[gM f];exact q,.refl s⟩
theorem Inv.Mp{X:Cx}{f:List (b_×Obj)}{s:bx}{a:b_}{kvs:List (Key×V)}(I:_L.Inv X f σ H s)(h:H a=ap (.dK kvs)):∃o,_L.Inv X f σ (upd H a (.eN o (.dK kvs))) s:=by obtain⟨hz,g,vs,r,dd⟩:=(show bT X.prog X.w H s.heap a (.dK kvs)from I.hok a _ h);obtain⟨o,ho,_⟩:=dd.typeIs;exact⟨o,I.write (h':=s.heap) (t':=s.toks) (by rw[h];exact trivial) (.inl rfl) (λb u _ e=>e) ⟨o,ho⟩ ⟨ho,hz,g,vs,r,dd⟩⟩
theorem Uv(y:X.N[i]?=ap x)(z:vR X.env.scope x)(hd:(x==("__debug__":Str))=av:=by decide)(t:(x==("__classdict__":Str))=av:=by decide):SX X c (.Name x pos) (.var i):=by
 have h:=gb (X:=X) (pos:=pos) y z hd t;refine⟨?_,λj A=>by cases A;exact h⟩;rintro f s σ H Q I⟨F,ρ,r,ρ',g,e,k⟩;rw[_H.E1]at e;split at e;.rename_i b d q;cases e;obtain⟨v,h1,l⟩:=g.val i b d q;exact h f s σ H Q I ⟨v,h1,k v F H (.refl g) l⟩
 .rename_i b ds q;cases e;obtain⟨v,F',h1,l,m⟩:=g.freeze q;exact h f s σ H Q I ⟨v,h1,k v F' H l m⟩
 .rename_i kvs q;cases e;obtain⟨a,h1,l,m⟩:=g.Gv q;refine cN (h f s σ H (λv H'=>v=.ref a/\H'=H) I ⟨.ref a,h1,rfl,rfl⟩) λu s1⟨v,H1,I1,r1,e1,e2⟩=>?_;subst e1 e2;obtain⟨o,w⟩:=Inv.Mp I1 l;exact⟨.ref a,_,w,r1,k _ _ _ (m o).1 (m o).2⟩
 .rename_i kvs q;cases e;obtain⟨a,vs,h1,l,m⟩:=g.Ec q;refine cN (h f s σ H (λv H'=>v=.ref a/\H'=H) I ⟨.ref a,h1,rfl,rfl⟩) λu s1⟨v,H1,I1,r1,e1,e2⟩=>?_;subst e1 e2;obtain⟨o,w⟩:=Inv.Mp I1 l;exact⟨.ref a,_,w,r1,k _ _ _ (m o).1 (m o).2⟩
 .cases e
theorem yD{d:D}(h:PE X e (tC v))(hr:∀F,Rep X.K F v d):SX X c e (.con d):=⟨dh h λσ H Q⟨F,ρ,r,ρ',g,e,k⟩=>by rw[_H.E2]at e;cases e;exact k v F H (.refl g) (hr F),λi h=>by cases h⟩
theorem aa{i j}:SX X c (.Constant (.int i) j pos) (.con (.int i)):=yD oM λF=>by rw[Rep]
theorem pR{i j}:SX X c (.Constant (.bool i) j pos) (.con (.bl i)):=yD J4 λF=>by rw[Rep]
theorem Ly{j}:SX X c (.Constant .none j pos) (.con .non):=yD Xh λF=>by rw[Rep]
theorem BK{i j}:SX X c (.Constant (.str i) j pos) (.con (.str i)):=yD Cd λF=>by rw[Rep]
theorem iG{i:Int}{t:Tok}(f:Gl X x)(j:X.mg x=ap (.int i t))(hd:(x==("__debug__":Str))=av:=by decide):SX X c (.Name x pos) (.glob x (.int i)):=⟨dh (jd (v:=.int i) f j ⟨t,rfl⟩ hd) λσ H Q⟨F,ρ,r,ρ',g,e,k⟩=>by rw[_H.E3]at e;cases e;exact k (.int i) F H (.refl g) (show Rep X.K F (.int i) (.int i)by rw[Rep]),λi h=>by cases h⟩
theorem fB.int{K:PySem.W.Frag}{F H:Hp}{v:V}{i:Int}(h:fB K F H v (.int i)):v=.int i:=by
 rcases h with h|⟨_,_,_,_,_,_,h⟩;.rw[Rep]at h;exact h
 .cases h
theorem fB.bl{K:PySem.W.Frag}{F H:Hp}{v:V}{i:Bool}(h:fB K F H v (.bl i)):v=.bl i:=by
 rcases h with h|⟨_,_,_,_,_,_,h⟩;.rw[Rep]at h;exact h
 .cases h
theorem fB.str{K:PySem.W.Frag}{F H:Hp}{v:V}{i:Str}(h:fB K F H v (.str i)):v=.str i:=by
 rcases h with h|⟨_,_,_,_,_,_,h⟩;.rw[Rep]at h;exact h
 .cases h
theorem fB.non{K:PySem.W.Frag}{F H:Hp}{v:V}(h:fB K F H v .non):v=.non:=by
 rcases h with h|⟨_,_,_,_,_,_,h⟩;.rw[Rep]at h;exact h
 .cases h
theorem fB.tup{K:PySem.W.Frag}{F H:Hp}{v:V}{ds:List D}(s:aJ F H)(h:fB K F H v (.tup ds)):∃a xs,v=.ref a/\nU K H a xs/\aN K F xs ds/\Rep K F v (.tup ds):=by
 rcases h with h|⟨_,_,_,_,_,_,h⟩;.have h':=h;rw[Rep]at h;obtain⟨a,xs,rfl,h1,f⟩:=h;exact⟨a,xs,rfl,aJ.jq s h1,f,h'⟩
 .cases h
theorem fB.lst{K:PySem.W.Frag}{F H:Hp}{v:V}{ds:List D}(s:aJ F H)(h:fB K F H v (.lst ds)):∃a xs,v=.ref a/\gq K H a xs/\aN K F xs ds:=by
 rcases h with h|⟨a,xs,es,h1,f,g,h⟩;.rw[Rep]at h;obtain⟨a,xs,rfl,h1,f⟩:=h;exact⟨a,xs,rfl,s.seq h1,f⟩
 .cases h;exact⟨a,xs,h1,gq.of f,g⟩
theorem fB.fZ{m:Dc}(s:aJ F H)(h:fB K F H v (.fZ m)):∃a o,v=.ref a/\H a=ap (.eN o m.ho):=by
 rcases h with h|⟨_,_,_,_,_,_,h⟩;.rw[Rep]at h;obtain⟨a,o,rfl,h⟩:=h;exact⟨a,o,rfl,s _ _ h⟩
 .cases h
theorem MN{X:Cx}{f:List (b_×Obj)}{s:bx}{a:b_}{g:Obj}{m:Dc}(I:_L.Inv X f σ H s)(h:H a=ap (.eN g m.ho)):∃o,s.heap.get? a=ap o/\o.cls=.type "dict":=by have z:=(show bT X.prog X.w H s.heap a (.eN g m.ho)from I.hok a _ h).2;cases m with|k kvs=>obtain⟨_,_,vs,_,d2⟩:=(show bT X.prog X.w H s.heap a (.dK _)from z);exact d2.typeIs|t kvs=>obtain⟨_,_,xs,_,o,es,ep,h1,j,_⟩:=(show bT X.prog X.w H s.heap a (.dT _)from z);exact⟨o,h1,j.1⟩
theorem fB.dv{ks:List Int}(s:aJ F H)(h:fB K F H v (.dv ks ds)):∃a o vs,v=.ref a/\H a=ap (.eN o (Gw ks vs))/\aN K F vs ds/\ks.length=ds.length:=by
 rcases h with h|⟨_,_,_,_,_,_,h⟩;.rw[Rep]at h;obtain⟨a,o,vs,rfl,h,h1,f⟩:=h;exact⟨a,o,vs,rfl,s _ _ h,h1,f⟩
 .cases h
theorem Jt{X:Cx}{f:List (b_×Obj)}{s:bx}{a:b_}{g:Obj}{ks:List Int}(I:_L.Inv X f σ H s)(h:H a=ap (.eN g (Gw ks vs))):∃o,s.heap.get? a=ap o/\o.cls=.type "dict":=by have z:=(show bT X.prog X.w H s.heap a (.eN g (Gw ks vs))from I.hok a _ h).2;obtain⟨_,_,vs,_,d2⟩:=(show bT X.prog X.w H s.heap a (.dK _)from z);exact d2.typeIs
theorem fB.items{d:D}(s:aJ F H)(h:fB K F H v d)(e:items d=ap ds):∃a xs,v=.ref a/\(gq K H a xs\/nU K H a xs)/\aN K F xs ds:=by cases d with|tup es=>cases e;obtain⟨a,xs,h1,f,g,_⟩:=h.tup s;exact⟨a,xs,h1,.inr f,g⟩|lst es=>cases e;obtain⟨a,xs,h1,f,g⟩:=h.lst s;exact⟨a,xs,h1,.inl f,g⟩|_=>cases e
theorem dg.fK{Q:VK}{d:D}(s:aJ F H)(r:Rep K F v d)(k:∀v F' H',Ext F H F' H'->dg K F' H' H v (.val d)->Q v H'):Q v H:=k v F H (.refl s) r
theorem cL(i:Int):Rep K F (.int i) (.int i):=by rw[Rep]
theorem gW(i:Bool):Rep K F (.bl i) (.bl i):=by rw[Rep]
theorem UT(i:Str):Rep K F (.str i) (.str i):=by rw[Rep]
theorem WQ:Rep K F .non .non:=by rw[Rep]
theorem Am{Q:VK}{xs:List V}{p:b_}(s:aJ F H)(r:aN K F xs ds)(f:H p=none)(k:∀v F' H',Ext F H F' H'->dg K F' H' H v (.own ds)->Q v H'):Q (.ref p) (upd H p (.lst xs)):=by
 have g:F p=none:=by cases q:F p with|none=>rfl|some o=>rw[s p o q]at f;cases f
 exact k _ F _ ⟨aJ.cY f,.refl _,s.trans (aJ.cY f),λ_ a b=>absurd a b⟩ ⟨p,xs,rfl,aP,g,r,f⟩
theorem Dh{Q:VK}{xs:List V}{p:b_}(s:aJ F H)(r:aN K F xs ds)(g:H p=none)(k:∀v F' H',Ext F H F' H'->dg K F' H' H v (.val (.tup ds))->Q v H'):Q (.ref p) (upd H p (.tup xs)):=by
 have l:F p=none:=by cases q:F p with|none=>rfl|some o=>rw[s p o q]at g;cases g
 have h:aJ F (upd F p (.tup xs)):=aJ.cY l;refine k _ (upd F p (.tup xs)) _ ⟨aJ.cY g,h,λb o e=>?_,λb n j=>?_⟩ ?_
 . by_cases f:b=p;.subst f;rw[aP]at e ⊢;exact e
   .rw[aH f]at e ⊢;exact s b o e
 . by_cases f:b=p;.subst f;exact ni g
   .rw[aH f]at j;exact absurd n j
 .show Rep K _ _ (.tup ds);rw[Rep];exact⟨p,xs,rfl,nU.of aP,r.mono h⟩
end
theorem vU(k:Int)(t:Tok)(l:b_)(a:Array bd)(n:Nat)(dd:Option b_)(sl:Array (Option bd)):oI (i3.«int.__rmul__» ⟨[.int k t,.ref l],[]⟩) (λ_ R s=>s.heap.get? l=ap ⟨.type "list",dd,.seq a n,sl⟩/\R (.ok (.ret kB)) s):=.of_wp λprog w A R s h=>by obtain⟨b,g,d,c,os⟩:=s;obtain⟨e,h⟩:=h;wp_walk;exact⟨_,rfl,h⟩
theorem Ig(l:b_)(a:Array bd)(n:Nat)(dd:Option b_)(sl:Array (Option bd))(k:Int)(t:Tok)(h0:¬(!Builtin.List.listFitsIndex k)=bj)(h1:¬a.size*k.toNat>(2^63-1)/8)(b:¬qk (a.size*k.toNat)=bj):oI (i3.«list.__mul__» ⟨[.ref l,.int k t],[]⟩) (λ_ R s=>s.heap.get? l=ap ⟨.type "list",dd,.seq a n,sl⟩/\R (.ok (.ret (dq s.heap.objs.size))) {s with heap:=s.heap.push {cls:=.type "list",data:=.seq (qo (·++·) #[] (cp (if a.isEmpty=bj then 0 else k.toNat) a))}}):=.of_wp λprog w A R s h=>by obtain⟨e,g,d,f,os⟩:=s;obtain⟨c,h⟩:=h;have hz:=AutoListH.joined_fits b;wp_walk using fw c;refine wpAny_ite_false (decide_eq_false (Nat.not_lt.mpr hz)) ?_;wp_walk;exact⟨_,rfl,h⟩
section
variable{X:Cx}{c:Call}{e a b d:da}{p pa pb pd:P}{pos:Pos}
theorem PL:jc X (fh .Add) (λx y H Q=>∃l b xs o,x=.ref l/\y=.ref b/\gq X.K H l xs/\gq X.K H b o/\xs.length+o.length<=sizeLine/\∀p,H p=none->Q (.ref p) (upd H p (.lst (xs++o)))):=by
 intro z s σ H x y v u Q I C E h;obtain⟨l,b,xs,o,rfl,rfl,G,J,hz,q⟩:=h;cases C;cases E;obtain⟨g,r,L,_⟩:=I.list G;obtain⟨f,A,M,_⟩:=I.list J;obtain⟨⟨cls,dd,data,sl⟩,ho,hc,n,hd⟩:=id L.isList;obtain⟨⟨B,t,data2,w⟩,j,k,N,m⟩:=id M.isList;simp only at hc hd k m;subst hc hd k m;have e:g.toArray++f.toArray=(g++f).toArray:=by simp
 refine mw ⟨_,ho,rfl⟩ ⟨_,j,rfl⟩ noFill_list_add seq_list_add PySem.F.slot_list_add PySem.F.entry_list_add (PySem.F.args_list_add_2 _ _) (list_addW l b g.toArray f.toArray n N dd t sl w (by simp only[cS];rw[<-r.length,<-A.length];exact hz)) ⟨ho,j,?_⟩;rw[e];exact⟨.ref _,_,I.XH (t':=s.toks) (r.append A) (by rw[d_];exact hz),rfl,q _ I.fresh⟩
theorem My:jc X (fh .Add) (λx y H Q=>∃a b ys,x=.ref a/\y=.ref b/\nU X.K H a []/\nU X.K H b ys/\Q (.ref b) H):=by intro r s σ H x y v u Q I w z h;obtain⟨a,b,ys,rfl,rfl,A,B,q⟩:=h;cases w;cases z;obtain⟨l,r1,p1,_⟩:=I.tuple A;obtain⟨f,G,p2,_⟩:=I.tuple B;obtain⟨⟨cls,dd,data,sl⟩,ho,hc,n,hd⟩:=id p1;obtain⟨⟨t,m,data2,o⟩,g,j,C,k⟩:=id p2;simp only at hc hd j k;subst hc hd j k;have E:l=[]:=r1.sS.mpr rfl;subst E;exact mw ⟨_,ho,rfl⟩ ⟨_,g,rfl⟩ m4 ot slot_tuple_add entry_tuple_add (args_tuple_add_2 _ _) (tuple_addW0 a b _ f.toArray n C dd m sl o (by simp)) ⟨ho,g,⟨.ref b,H,I,rfl,q⟩⟩
theorem aG:jc X (fh .Add) (rD X.K (vW .add)):=by
 rintro f s σ H x y v u Q I h j⟨F,d,e,r,g,q,t,he,k⟩;replace he:uW d e=ap r:=he;unfold uW at he;split at he;.cases he;rw[q.int]at h;rw[t.int]at j;exact Yh f s σ H _ _ v u Q I h j ⟨_,_,rfl,rfl,dg.fK g (cL _) k⟩
 .rename_i xs ys;obtain⟨o,he⟩:=bU he;subst he;obtain⟨a,vs,rfl,w,l⟩:=q.lst g;obtain⟨b,z,rfl,A,m⟩:=t.lst g;exact PL f s σ H _ _ v u Q I h j ⟨a,b,vs,z,rfl,rfl,w,A,by rw[l.length,m.length];exact o,λp B=>Am g (l.append m) B k⟩
 . rename_i xs ys;obtain⟨o,he⟩:=bU he;subst he;obtain⟨a,vs,rfl,w,l,E⟩:=q.tup g;obtain⟨b,z,rfl,A,m,G⟩:=t.tup g;by_cases h0:vs=[]
   . subst h0;have C:xs=[]:=by have:=l.length;exact iF this.symm
     subst C;exact My f s σ H _ _ v u Q I h j ⟨a,b,z,rfl,rfl,w,A,dg.fK g G k⟩
   . refine Ph f s σ H _ _ v u Q I h j ⟨a,b,vs,z,rfl,rfl,w,A,h0,by rw[l.length,m.length];exact o,λe=>?_,λ_ p B=>Dh g (l.append m) B k⟩;subst e;have C:ys=[]:=by have:=m.length;exact iF this.symm
     subst C;rw[hZ]at k;exact dg.fK g E k
 .rename_i x1 J;obtain⟨o,he⟩:=bU he;subst he;rw[q.str]at h;rw[t.str]at j;exact Cj f s σ H _ _ v u Q I h j ⟨_,_,rfl,rfl,o,dg.fK g (UT _) k⟩
 .cases he
theorem dm:jc X (fh .Sub) (rD X.K (vW .sub)):=by
 rintro f s σ H x y v u Q I g h⟨F,d,e,r,j,l,m,he,k⟩;replace he:zf d e=ap r:=he;unfold zf at he;split at he;.cases he;rw[l.int]at g;rw[m.int]at h;exact Wk f s σ H _ _ v u Q I g h ⟨_,_,rfl,rfl,dg.fK j (cL _) k⟩
 .cases he
theorem Ro:jc X (fh .Mult) (λx y H Q=>∃l k xs,x=.ref l/\y=.int k/\gq X.K H l xs/\-(2^63)<=k/\k<2^63/\xs.length*k.toNat<=sizeLine/\∀p,H p=none->Q (.ref p) (upd H p (.lst (cp k.toNat xs).flatten))):=by
 intro w s σ H x y v u Q I z A h;obtain⟨l,k,xs,rfl,rfl,B,h1,C,hz,q⟩:=h;cases z;obtain⟨t,rfl⟩:=A;obtain⟨f,r,E,_⟩:=I.list B;obtain⟨⟨cls,dd,data,sl⟩,ho,hc,n,hd⟩:=id E.isList;simp only at hc hd;subst hc hd;have g:f.toArray.size*k.toNat<=sizeLine:=by rw[cS,<-r.length];exact hz
 have o:¬ f.toArray.size*k.toNat>(2^63-1)/8:=by
  have:(sizeLine:Nat)<=(2^63-1)/8:=by decide
  lia
 have j:qo (·++·) #[] (cp (if f.toArray.isEmpty=bj then 0 else k.toNat) f.toArray)=(cp k.toNat f).flatten.toArray:=by
  have f0:∀m:Nat,qo (·++·) #[] (cp m f.toArray)=(cp m f).flatten.toArray:=λm=>by have:=foldl_rep f m [];rw[nil_append]at this;exact this
  rw[f0];cases f with|nil=>simp|cons a J=>rw[if_neg (by simp)]
 refine om (T:="list") (U:="int") (by decide) ⟨_,ho,rfl⟩ (λG=>md G k t) noFill_list_mul F.fills_int_mul F.slot_int_rmul repeat_list F.slot_int_index.lookup ?_;refine jS F.slot_int_rmul (md s k t) F.entry_int_rmul (F.args_int_rmul_2 _ _) (vU k t l f.toArray n dd sl) ⟨ho,rfl,⟨_,ho,rfl⟩,?_⟩;refine jS F.slot_list_mul ⟨_,ho,rfl⟩ F.entry_list_mul (F.args_list_mul_2 _ _) (Ig l f.toArray n dd sl k t (by rw[fitsIndex_both h1 C];exact dc) o (by rw[Jq g];exact dc)) ⟨ho,?_⟩;rw[j];exact⟨.ref _,_,I.XH (t':=s.toks) (r.rep k.toNat) (by rw[len_rep,n3];exact hz),rfl,q _ I.fresh⟩
theorem qy:fillsNumberSlot (.type "tuple") "mul"=eL av:=PySem.fillsNumberSlot_seq (id:="tuple.__mul__") (r:=ap (.builtin "tuple.__rmul__")) slot_tuple_mul.lookup (by decide+kernel) PySem.F.slot_tuple_rmul.lookup (by decide+kernel)
theorem yq:seqRepeat? (.type "tuple")=eL (ap (.builtin "tuple.__mul__")):=by unfold seqRepeat?;rw[PySem.seqSlot_of (T:="tuple") (name:="__mul__") (id:="tuple.__mul__") slot_tuple_mul.lookup (by decide+kernel),PySem.seqSlot_of (T:="tuple") (name:="__rmul__") (id:="tuple.__rmul__") PySem.F.slot_tuple_rmul.lookup (by decide+kernel)];rfl
theorem uv(k:Int)(t:Tok)(l:b_)(f:Array bd)(n:Nat)(dd:Option b_)(sl:Array (Option bd)):oI (i3.«int.__rmul__» ⟨[.int k t,.ref l],[]⟩) (λ_ R s=>s.heap.get? l=ap ⟨.type "tuple",dd,.seq f n,sl⟩/\R (.ok (.ret kB)) s):=.of_wp λprog w A R s h=>by obtain⟨j,g,d,m,os⟩:=s;obtain⟨o,h⟩:=h;wp_walk;exact⟨_,rfl,h⟩
theorem Bq(l:b_)(f:Array bd)(n:Nat)(dd:Option b_)(sl:Array (Option bd))(k:Int)(t:Tok)(h0:0<=k)(h1:k<2^63)(hz:f.size*k.toNat<=sizeLine)(r:0<f.size):oI (i3.«tuple.__mul__» ⟨[.ref l,.int k t],[]⟩) (λ_ R s=>s.heap.get? l=ap ⟨.type "tuple",dd,.seq f n,sl⟩/\(k=1->R (.ok (.ret (dq l))) s)/\(k≠1->R (.ok (.ret (dq s.heap.objs.size))) {s with heap:=s.heap.push {cls:=.type "tuple",data:=.seq (qo (·++·) #[] (cp k.toNat f))}})):=.of_wp λprog w A R s h=>by
  obtain⟨u,g,d,G,os⟩:=s;obtain⟨o,y,z⟩:=h;have j:f.isEmpty=av:=by cases e:f.isEmpty with|false=>rfl|true=>rw[Array.isEmpty_iff_size_eq_zero]at e;lia
  show cH _ _ (asIndex (.int k t)>>=_) _ _ _;wp_walk using fw o;have B:oN u l f:=⟨_,o,rfl,n,rfl⟩;rw[if_neg (by simp;lia)];refine a_ (PyProof.Rows.tupleItemsOf_ B ?_);try dsimp only
  by_cases m:k=1;.rw[if_pos (by simp[m])];wp_walk using fw o;exact⟨_,rfl,y m⟩
  . have q:=z m;rw[if_neg (by simp[j,m])];by_cases C:k=0;.subst C;rw[if_pos (by simp)];unfold iN;refine a_ (ew ?_);exact cv ⟨_,rfl,q⟩
    . have I:(f.size:Int)*k<=sizeLine:=by
       have:((f.size*k.toNat:Nat):Int)<=(sizeLine:Nat):=by exact_mod_cast hz
       rw[Int.natCast_mul,show((k.toNat:Nat):Int)=k by lia]at this;exact this
      have E:(sizeLine:Int)<=(2^63-1)/8:=by decide
      rw[if_neg (by simp[j];lia),if_neg (by lia),if_neg (by simp[Builtin.Tuple.tupleTooMany];lia)];unfold iN;refine a_ (ew ?_ ?_);.exact cv ⟨_,rfl,q⟩
      .have:=foldl_rep f.toList k.toNat [];rw[nil_append,show f.toList.toArray=f by simp]at this;show(qo (·++·) #[] (cp k.toNat f)).size<=sizeLine;rw[show(#[]:Array bd)=([]:List bd).toArray from rfl,this,cS,len_rep,iS,n3];exact hz
theorem Qd:jc X (fh .Mult) (λx y H Q=>∃l k xs,x=.ref l/\y=.int k/\nU X.K H l xs/\0<xs.length/\0<=k/\k<2^63/\xs.length*k.toNat<=sizeLine/\(k=1->Q (.ref l) H)/\(k≠1->∀p,H p=none->Q (.ref p) (upd H p (.tup (cp k.toNat xs).flatten)))):=by
 intro w s σ H x y v u Q I z A h;obtain⟨l,k,xs,rfl,rfl,B,m,h1,C,hz,E,G⟩:=h;cases z;obtain⟨t,rfl⟩:=A;obtain⟨f,r,J,_⟩:=I.tuple B;obtain⟨⟨cls,dd,data,sl⟩,ho,hc,n,hd⟩:=id J;simp only at hc hd;subst hc hd;have g:f.toArray.size*k.toNat<=sizeLine:=by rw[cS,<-r.length];exact hz
 have j:qo (·++·) #[] (cp k.toNat f.toArray)=(cp k.toNat f).flatten.toArray:=by have:=foldl_rep f k.toNat [];rw[nil_append]at this;exact this
 refine om (T:="tuple") (U:="int") (by decide) ⟨_,ho,rfl⟩ (λL=>md L k t) qy F.fills_int_mul F.slot_int_rmul yq F.slot_int_index.lookup ?_;refine jS F.slot_int_rmul (md s k t) F.entry_int_rmul (F.args_int_rmul_2 _ _) (uv k t l f.toArray n dd sl) ⟨ho,rfl,⟨_,ho,rfl⟩,?_⟩;refine jS slot_tuple_mul ⟨_,ho,rfl⟩ PySem.F.entry_tuple_mul (PySem.F.args_tuple_mul_2 _ _) (Bq l f.toArray n dd sl k t h1 C g (by rw[cS,<-r.length];exact m)) ⟨ho,λe=>⟨.ref l,H,I,rfl,E e⟩,λe=>?_⟩;rw[j];refine⟨.ref s.heap.objs.size,_,I.laid (t':=s.toks) (o:=.tup (cp k.toNat xs).flatten) (λb M q=>iZ q) (eU) ?_,rfl,G e _ (I.hok.fresh (eU))⟩;exact⟨by rw[len_rep,n3];exact hz,_,r.rep k.toNat,kH _ _⟩
theorem cZ:jc X (fh .Mult) (rD X.K (vW .mul)):=by
 rintro f s σ H x y v u Q I m g⟨F,d,e,r,h,q,t,he,k⟩;replace he:rF d e=ap r:=he;unfold rF at he;split at he;.obtain⟨hc,he⟩:=bU he;subst he;rw[q.int]at m;rw[t.int]at g;exact Ww f s σ H _ _ v u Q I m g ⟨_,_,rfl,rfl,hc,dg.fK h (cL _) k⟩
 . rename_i xs i;obtain⟨⟨h1,o,l⟩,he⟩:=bU he;subst he;obtain⟨a,vs,rfl,w,j⟩:=q.lst h;rw[t.int]at g;have z:i<2^63:=by have A:=n7 i.toNat o;have C:i.toNat<=16777216:=gT A l;lia
   exact Ro f s σ H _ _ v u Q I m g ⟨a,i,vs,rfl,rfl,w,by lia,z,by rw[j.length];exact l,λp B=>Am h (j.rep i.toNat) B k⟩
 . rename_i xs i;obtain⟨⟨h1,o,l⟩,he⟩:=bU he;subst he;obtain⟨a,vs,rfl,w,j,E⟩:=q.tup h;rw[t.int]at g;have z:i<2^63:=by have A:=n7 i.toNat o;have C:i.toNat<=16777216:=gT A l;lia
   refine Qd f s σ H _ _ v u Q I m g ⟨a,i,vs,rfl,rfl,w,by rw[j.length];exact o,h1,z,by rw[j.length];exact l,λe=>?_,λe p B=>Dh h (j.rep i.toNat) B k⟩;subst e;refine dg.fK h ?_ k;have G:(cp (1:Int).toNat xs).flatten=xs:=by simp
   rw[G];exact E
 .cases he
theorem zA:jc X (fh .FloorDiv) (rD X.K (vW .fdiv)):=by
 rintro f s σ H x y v u Q I g h⟨F,d,e,r,l,m,o,he,k⟩;replace he:ue d e=ap r:=he;unfold ue at he;split at he
 . rename_i i j;obtain⟨⟨h1,w⟩,he⟩:=bU he;subst he;rw[m.int]at g;rw[o.int]at h;obtain⟨t,rfl⟩:=g;obtain⟨t',rfl⟩:=h;have q:j.natAbs.log2<9000:=by
    have:j.natAbs<2^200:=by
     have:(2:Nat)^200=1606938044258990275541962092341162602522202993782792835301376:=by decide
     lia
    have z:=(Nat.log2_lt (by lia)).mpr this;lia
   exact floordiv_int (by lia) (by rw[Int.fdiv_eq_ediv_of_nonneg i (by lia)];exact⟨.int _,H,I.tok _,⟨_,rfl⟩,dg.fK l (cL _) k⟩) (.inl (PyProof.noPylong_of_log2 q))
 .cases he
theorem dU:jc X (fh .Mod) (rD X.K (vW .mod)):=by
 rintro f s σ H x y v u Q I g h⟨F,d,e,r,j,l,m,he,k⟩;replace he:zj d e=ap r:=he;unfold zj at he;split at he;.obtain⟨h1,he⟩:=bU he;subst he;rw[l.int]at g;rw[m.int]at h;exact XQ f s σ H _ _ v u Q I g h ⟨_,_,rfl,rfl,h1,dg.fK j (cL _) k⟩
 .cases he
theorem iB:jc X (fh .Pow) (rD X.K (vW .pow)):=by
 rintro f s σ H x y v u Q I g h⟨F,d,e,r,j,l,m,he,k⟩;replace he:zE d e=ap r:=he;unfold zE at he;split at he;.obtain⟨⟨h1,q,o⟩,he⟩:=bU he;subst he;rw[l.int]at g;rw[m.int]at h;exact Uq f s σ H _ _ v u Q I g h ⟨_,_,rfl,rfl,⟨h1,by lia,o⟩,dg.fK j (cL _) k⟩
 .cases he
theorem az{o:Op}{op:lx}(ho:jc X (fh op) (rD X.K (vW o)))(f:SX X c a pa)(g:SX X c b pb):SX X c (.BinOp a op b pos) (.bin o pa pb):=yN (λh1 h=>ab8 ho h1 h) f g (λρ=>rfl) rfl
theorem mz(j:SX X c a pa):SX X c (.UnaryOp .USub a pos) (.neg pa):=by refine Ye (f:=M8) (λh1=>aa1 ?_ h1) j (λρ=>rfl) rfl;rintro g s σ H x v Q I h⟨F,d,r,l,m,he,k⟩;unfold M8 at he;obtain⟨i,o,q⟩:=map_some he;subst q;cases d<;>cases o;rw[m.int]at h;exact WT g s σ H _ v Q I h ⟨_,rfl,dg.fK l (cL _) k⟩
theorem Fe{f:Int->Int->Bool}(ho:jc X (ec op) (N8 λi j=>.bl (f i j))):jc X (ec op) (rD X.K λx y=>(Ol f x y).map λk=>.val (.bl k)):=by
 rintro g s σ H x y v u Q I l m⟨F,d,e,r,o,q,w,he,k⟩;obtain⟨t,h,z⟩:=map_some (show(Ol f d e).map _=ap r from he);subst z;unfold Ol at h;split at h;.cases h;rw[q.int]at l;rw[w.int]at m;exact ho g s σ H _ _ v u Q I l m ⟨_,_,rfl,rfl,dg.fK o (gW _) k⟩
 .cases h
theorem CT{f:Int->Int->Bool}(ho:jc X (ec op) (N8 λi j=>.bl (f i j))){o:Cm}(hc:cm o=Ol f):jc X (ec op) (rD X.K (uA o)):=by
 have e:uA o=λx y=>(Ol f x y).map λk=>.val (.bl k):=by funext x y;unfold uA;rw[hc]
 rw[e];exact Fe ho
theorem U5:jc X (ec .Lt) (rD X.K λx y=>(Ol (λi j=>decide (i<j)) x y).map λk=>.val (.bl k)):=Fe abh
theorem qx:jc X (ec .LtE) (rD X.K (uA .le)):=CT aa2 rfl
theorem jR:jc X (ec .Gt) (rD X.K (uA .gt)):=CT aba rfl
theorem W0:jc X (ec .GtE) (rD X.K (uA .ge)):=CT aaK rfl
theorem GQ{d:D}(h:fB K F H v d):decide (v=.non)=lX d:=by cases d with
 |non=>rw[h.non];rfl|bl _=>rw[h.bl];rfl|int _=>rw[h.int];rfl|str _=>rw[h.str];rfl|tup _=>
   rcases h with h|⟨a,_,_,rfl,_⟩;.rw[Rep]at h;obtain⟨a,_,rfl,_⟩:=h;rfl
   .rfl|lst _=>
   rcases h with h|⟨a,_,_,rfl,_⟩;.rw[Rep]at h;obtain⟨a,_,rfl,_⟩:=h;rfl
   .rfl|fZ _=>
   rcases h with h|⟨a,_,_,rfl,_⟩;.rw[Rep]at h;obtain⟨a,_,rfl,_⟩:=h;rfl
   .rfl|dv _ _=>
   rcases h with h|⟨a,_,_,rfl,_⟩;.rw[Rep]at h;obtain⟨a,_,_,rfl,_⟩:=h;rfl
   .rfl
theorem O4:jc X (ec .IsNot) (rD X.K (uA .RJ)):=by
 rintro f s σ H x y v u Q I h j⟨F,d,e,r,l,m,o,he,k⟩;obtain⟨t,g,q⟩:=map_some (show(cmN bj d e).map _=ap r from he);subst q;unfold cmN at g;split at g;.cases g;exact O3 f s σ H x y v u Q I h j ⟨o.non,by rw[GQ m];exact dg.fK l (gW _) k⟩
 .cases g
theorem qJ{o:Cm}(ho:jc X (ec op) (rD X.K (uA o)))(f:SX X c a pa)(g:SX X c b pb)(h:fq op b=av):SX X c (.Compare a [op] [b] pos) (.cmp o pa pb):=yN (λh1 j=>QW ho h1 j h) f g (λρ=>rfl) rfl
theorem Aw{o E:Cm}{l:ny}(ho:jc X (ec op) (rD X.K (uA o)))(A:jc X (ec l) (rD X.K (uA E)))(G:SX X c a pa)(I:SX X c b pb)(hd:SX X c d pd)(J:lastMarks [op,l] [b,d]=av:=by with_unfolding_all rfl):SX X c (.Compare a [op,l] [b,d] pos) (.chain o E pa pb pd):=by
 obtain⟨ta,tb,h1,L,M⟩:=G.kI I;obtain⟨td,N,O⟩:=hd.dG;refine⟨dh (LC ho A h1 L N J) ?_,λi h=>by cases h⟩;rintro σ H Q⟨F,ρ,r,ρ',g,e,k⟩;rw[_H.E10]at e;obtain⟨m,U,W,e⟩:=aj e;obtain⟨t,Y,j,e⟩:=aj e;have Z:=aF j;clear j;obtain⟨j,B⟩:=Z;subst B;have f:flat m.2=bj/\cm o m.1 m.2=ap t:=by
  split at j;.rename_i hf;exact⟨hf,j⟩
  .cases j
 obtain⟨f,j⟩:=f;refine M g W λv u F' H' s pv y=>⟨F',m.1,m.2,.val (.bl t),s.gs.sub,pv,y,by unfold uA;rw[j];rfl,λw C H2 x q=>?_⟩;have s2:=s.trans (x.stp s.gs);have q:Rep X.K C w (.bl t):=q;rw[Rep]at q;subst q;refine⟨t,rfl,?_⟩;cases t with|false=>rw[if_neg dc]at e ⊢;cases e;exact k _ C H2 s2 (show Rep X.K C _ _ from gW _)|true=>
   rw[if_pos rfl]at e ⊢;obtain⟨z,ac,B,e⟩:=aj e;obtain⟨e4,e5⟩:=aF e;subst e5;refine O s2.gs B λw F3 H3 s3 pw=>⟨F3,m.2,z,r,s3.gs.sub,?_,pw,e4,λw' F4 H4 x4 q=>?_⟩
   . have x1:=x.fs;have x2:=s3.cG;rcases y with y|⟨_,_,_,_,_,_,h⟩;.exact .inl ((y.mono x1).mono x2)
     .rw[h]at f;cases f
   .have s4:=s2.trans s3;exact k w' F4 H4 (s4.trans (x4.stp s4.gs)) (.later s4 (q.qF s4.gs))
end
section
variable{X:Cx}{c:Call}{e a b d:da}{p pa pb pd:P}{pos:Pos}{rest:List da}
theorem u0{x:D}{k:Bool}(h:Bx x=ap k):x=.bl k:=by cases x<;>cases h;rfl
theorem dZ{x:D}{k:Int}(h:j9 x=ap k):x=.int k:=by cases x<;>cases h;rfl
theorem dR.bool{F' H':Hp}{σ':_L.St}{r:R}{k:Bool}(h:dR K F' ρ' σ' H' ρ σ H v r)(e:r.d=.bl k):v=.bl k:=by cases r with|val d=>cases(show d=.bl k from e);have h:Rep K F' v (.bl k):=h;rw[Rep]at h;exact h|own ds=>cases e
noncomputable def ST(X:Cx)(c:Call)(e:da)(p:P):Prop:=PT X e (Hk X.K (jf (_H.ev c p)))
noncomputable def SW(X:Cx)(c:Call)(e:da)(p:P):Prop:=PW X e (Hk X.K (jf (_H.ev c p)))
theorem SW.st(h:SW X c e p):ST X c e p:=PW.pt h
theorem qH{t:TE}{Q:Bool->Hp->Prop}(hi:∀Q,yc X.K (_H.ev c p) σ H Q->t σ H Q)(h:Hk X.K (jf (_H.ev c p)) σ H Q):t σ H λx l=>∃k,x=.bl k/\Q k l:=by obtain⟨F,ρ,k,ρ',g,e,q⟩:=h;obtain⟨r,j,m,f⟩:=aj e;have o:=aF f;clear f;obtain⟨f,u⟩:=o;subst u;exact hi _ ⟨F,ρ,r,j,g,m,λv F' H' s w=>⟨k,w.bool (u0 f),q F' H' s⟩⟩
theorem gA(h:SX X c e p)(he:∀f,isTrue e X.env f=(do let v<-f;pp e.pos;jp [v] (truthy v)):=by intro _;rfl):ST X c e p:=Ab (JB h.ev he) λσ H Q q=>qH (λ_ z=>z) q
theorem bC{o:Cm}(ho:jc X (ec op) (rD X.K (uA o)))(j:SX X c a pa)(l:SX X c b pb)(m:fq op b=av):ST X c (.Compare a [op] [b] pos) (.cmp o pa pb):=by obtain⟨y,A,h1,B,C⟩:=j.kI l;refine Ab (Gf ho h1 B m) λσ H Q q=>qH (t:=Vh (rD X.K (uA o)) y A) (λQ z=>?_) q;obtain⟨F,ρ,r,ρ',g,e,k⟩:=z;rw[_H.E9]at e;obtain⟨h,E,G,f⟩:=aj e;have I:=aF f;clear f;obtain⟨f,J⟩:=I;subst J;refine C g G λv u F' H' s L M=>⟨F',h.1,h.2,r,s.gs.sub,L,M,f,λw N O x U=>?_⟩;exact k w N O (s.trans (x.stp s.gs)) (.later s (U.qF s.gs))
theorem qN(j:ST X c a pa):ST X c (.UnaryOp .Not a pos) (.not pa):=by
 refine Ab (VM j) ?_;rintro σ H Q⟨F,ρ,k,ρ',g,e,q⟩;unfold jf at e;rw[_H.E6]at e;obtain⟨r,l,m,f⟩:=aj e;obtain⟨h,o,t,u⟩:=aj m;cases u;have w:=aF f;clear f;obtain⟨f,y⟩:=w;subst y;have f:(!h)=k:=by cases f;rfl
 exact⟨F,ρ,h,_,g,t,λF' H' s=>by show Q (!h) H';rw[f];exact q F' H' s⟩
theorem Qe(ρ:List Sl):jf (_H.ev c (.and pa pb)) ρ=(jf (_H.ev c pa) ρ).bind λx ρ=>if x then jf (_H.ev c pb) ρ else .ok av ρ:=by unfold jf;rw[_H.E7];unfold jf;cases _H.ev c pa ρ with|exc _ _=>rfl|stuck=>rfl|ok r f=>simp only[Res.bind];cases h:Bx r.d with|none=>rfl|some k=>cases k with|false=>rfl|true=>simp only[lift,if_true];cases _H.ev c pb f with|exc _ _=>rfl|stuck=>rfl|ok g j=>simp only[Res.bind];cases h2:Bx g.d with|none=>rfl|some k2=>rfl
theorem XS(ρ:List Sl):jf (_H.ev c (.or pa pb)) ρ=(jf (_H.ev c pa) ρ).bind λx ρ=>if x then .ok bj ρ else jf (_H.ev c pb) ρ:=by unfold jf;rw[_H.E8];unfold jf;cases _H.ev c pa ρ with|exc _ _=>rfl|stuck=>rfl|ok r f=>simp only[Res.bind];cases h:Bx r.d with|none=>rfl|some k=>cases k with|true=>rfl|false=>simp only[lift,gc,if_false];cases _H.ev c pb f with|exc _ _=>rfl|stuck=>rfl|ok g j=>simp only[Res.bind];cases h2:Bx g.d with|none=>rfl|some k2=>rfl
theorem QZ(f:ST X c a pa):SW X c (.BoolOp .And [a] pos) pa:=Eo f
theorem CN(f:ST X c a pa):SW X c (.BoolOp .Or [a] pos) pa:=Vr f
theorem Wg(h:ST X c a pa)(j:SW X c (.BoolOp .And (b::rest) pos) pb):SW X c (.BoolOp .And (a::b::rest) pos) (.and pa pb):=by refine Tn (JW h j) ?_;rintro σ H Q⟨F,ρ,k,ρ',g,e,q⟩;rw[Qe]at e;obtain⟨x,f,l,e⟩:=aj e;refine⟨F,ρ,x,f,g,l,λF1 m s1=>?_⟩;cases x with|true=>rw[if_pos rfl]at e ⊢;exact⟨F1,f,k,ρ',s1.gs,e,λo r s2=>q o r (s1.trans s2)⟩|false=>rw[if_neg dc]at e ⊢;cases e;exact q F1 m s1
theorem JD(h:ST X c a pa)(j:SW X c (.BoolOp .Or (b::rest) pos) pb):SW X c (.BoolOp .Or (a::b::rest) pos) (.or pa pb):=by refine Tn (aaM h j) ?_;rintro σ H Q⟨F,ρ,k,ρ',g,e,q⟩;rw[XS]at e;obtain⟨x,f,l,e⟩:=aj e;refine⟨F,ρ,x,f,g,l,λF1 m s1=>?_⟩;cases x with|true=>rw[if_pos rfl]at e ⊢;cases e;exact q F1 m s1|false=>rw[if_neg dc]at e ⊢;exact⟨F1,f,k,ρ',s1.gs,e,λo r s2=>q o r (s1.trans s2)⟩
theorem Ul(f:SX X c a pa):SX X c (.UnaryOp .Not a pos) (.not pa):=by refine⟨dh (Vf f.ev) ?_,λi h=>by cases h⟩;rintro σ H Q⟨F,ρ,r,ρ',g,e,k⟩;rw[_H.E6]at e;obtain⟨x,j,l,m⟩:=aj e;cases m;exact qH (c:=c) (λ_ z=>z) ⟨F,ρ,x,_,g,l,λF' H' s=>k _ F' H' s (show Rep X.K F' _ _ from gW _)⟩
theorem m8{op}(f:SX X c a pa):PE X (.BoolOp op [a] pos) (yc X.K (_H.ev c pa)):=Wj f.ev
theorem jj(o:SX X c a pa)(q:PE X (.BoolOp .And (b::rest) pos) (yc X.K (_H.ev c pb))):SX X c (.BoolOp .And (a::b::rest) pos) (.and pa pb):=by refine⟨dh (W3 o.ev q) ?_,λi h=>by cases h⟩;rintro σ H Q⟨F,ρ,r,ρ',g,e,k⟩;rw[_H.E7]at e;obtain⟨x,f,s,e⟩:=aj e;refine qH (c:=c) (λ_ z=>z) (Q:=λx j=>if x=bj then yc X.K (_H.ev c pb) σ j Q else Q (.bl av) j) ⟨F,ρ,x,f,g,s,λF1 j s1=>?_⟩;cases x with|true=>rw[if_pos rfl]at e ⊢;obtain⟨y,t,u,w⟩:=aj e;cases w;obtain⟨A,B,C,l⟩:=aj u;have E:=aF l;clear l;obtain⟨l,G⟩:=E;subst G;refine⟨F1,f,A,_,s1.gs,C,λv m I s2 J=>?_⟩;rw[J.bool (u0 l)];exact k _ m I (s1.trans s2) (show Rep X.K m _ _ from gW _)|false=>rw[if_neg dc]at e ⊢;cases e;exact k _ F1 j s1 (show Rep X.K F1 _ _ from gW _)
theorem oJ(hc:ST X c e p)(w:SX X c a pa)(y:SX X c b pb):SX X c (.IfExp e a b pos) (.T6 p pa pb):=by refine⟨dh (Js hc w.ev y.ev) ?_,λi h=>by cases h⟩;rintro σ H Q⟨F,ρ,r,ρ',g,e,k⟩;rw[_H.E11]at e;obtain⟨x,f,z,e⟩:=aj e;refine⟨F,ρ,x,f,g,z,λF1 B s1=>?_⟩;cases x with|true=>rw[if_pos rfl]at e ⊢;obtain⟨j,l,m,o⟩:=aj e;cases o;refine⟨F1,f,j,_,s1.gs,m,λv A q s2 s=>?_⟩;obtain⟨t,s3,_,u⟩:=s2.eN s;exact k v t q (s1.trans s3) u|false=>rw[if_neg dc]at e ⊢;obtain⟨j,l,m,o⟩:=aj e;cases o;refine⟨F1,f,j,_,s1.gs,m,λv A q s2 s=>?_⟩;obtain⟨t,s3,_,u⟩:=s2.eN s;exact k v t q (s1.trans s3) u
theorem yG:∀{ps:List P}{ρ ρ':List Sl}{ds:List D},evs c ps ρ=.ok ds ρ'->ds.length=ps.length|[],_,_,_,h=>by rw[Ld]at h;cases h;rfl|p::ps,_,_,_,h=>by rw[xO]at h;obtain⟨r,f,_,h⟩:=aj h;obtain⟨xs,g,j,h⟩:=aj h;cases h;simp[yG j]
theorem aM:SA X c [] []:=⟨lU dC λσ H Q⟨F,ρ,ds,ρ',g,e,k⟩=>by rw[Ld]at e;cases e;exact k [] F H (.refl g) .nil,rfl⟩
theorem tH{ps:List P}(h:SX X c a pa)(hr:SA X c es ps)(hs:cj (a::es) X.env=(av,eg a X.env)::cj es X.env:=by rfl):SA X c (a::es) (pa::ps):=by refine⟨lU (bD h.ev hr.1 hs) ?_,by simp[hr.2]⟩;rintro σ H Q⟨F,ρ,ds,ρ',g,e,k⟩;rw[xO]at e;obtain⟨r,f,j,e⟩:=aj e;obtain⟨xs,l,m,e⟩:=aj e;cases e;refine⟨F,ρ,r,f,g,j,λv F' H' s o=>?_⟩;obtain⟨F1,s1,_,q⟩:=s.eN o;refine⟨F1,f,xs,_,s1.gs,m,λvs t u s2 w=>?_⟩;exact k _ t u (s1.trans s2) (.cons (q.mono s2.cG) w)
theorem Ext.OJ{f g:Hp}{Q:VK}{xs:List V}(s:aL K g ρ σ f F ρ' σ H)(r:aN K F xs ds)(k:∀v F' H',aL K g ρ σ f F' ρ' σ H'->dR K F' ρ' σ H' ρ σ f v (.val (.tup ds))->Q v H')(p:b_)(h:H p=none):Q (.ref p) (upd H p (.tup xs)):=Dh s.gs.sub r h λv F' H' x j=>k v F' H' (s.trans (x.stp s.gs)) j
theorem bJ{ps:List P}{x1}(h:SA X c es ps)(hz:ps.length<=sizeLine:=by decide):SX X c (.Tuple es x1 pos) (.tup ps):=by refine⟨dh (JX h.1) ?_,λi h=>by cases h⟩;rintro σ H Q⟨F,ρ,r,ρ',g,e,k⟩;rw[_H.E12]at e;obtain⟨ds,l,f,e⟩:=aj e;cases e;exact⟨F,ρ,ds,_,g,f,λvs F' H' s j=>⟨by rw[j.length,yG f];exact hz,λp m=>Ext.OJ s j k p m⟩⟩
theorem dI{ps:List P}(h:SA X c es ps)(hz:ps.length<=sizeLine:=by decide):SX X c (.List es pos) (.lst ps):=by refine⟨dh (Dk h.1) ?_,λi h=>by cases h⟩;rintro σ H Q⟨F,ρ,r,ρ',g,e,k⟩;rw[_H.E13]at e;obtain⟨ds,l,f,e⟩:=aj e;cases e;exact⟨F,ρ,ds,_,g,f,λvs F' H' s j=>⟨by rw[j.length,yG f];exact hz,λp m=>Am s.gs.sub j m λv o q x t=>k v o q (s.trans (x.stp s.gs)) (.later s (t.qF s.gs))⟩⟩
theorem M9{i:Int}{d:D}(h:at' ds i=ap d):∃j,_L.lR ds.length i=ap j/\ds[j]?=ap d:=dj h
theorem aas:IxR X (rD X.K Pn):=by
 rintro f slice g s σ H x y v u Q I o l⟨F,d,e,r,m,A,B,he,k⟩hs;unfold Pn at he;obtain⟨ds,C,he⟩:=dj he;obtain⟨i,E,he⟩:=dj he;obtain⟨z,G,he⟩:=map_some he;subst he;cases dZ E;rw[B.int]at l;obtain⟨p,xs,rfl,hq,q⟩:=A.items m C;obtain⟨j,h1,J⟩:=M9 G;obtain⟨w,L,t⟩:=q.get J;have h:Hu xs i=ap w:=by unfold Hu;rw[q.length,h1];exact L
 rcases hq with hq|hq;.exact xU f slice g s σ H _ _ v u Q I o l ⟨p,xs,i,w,rfl,rfl,hq,h,dg.fK m t k⟩ hs
 .exact V4 f slice g s σ H _ _ v u Q I o l ⟨p,xs,i,w,rfl,rfl,hq,h,dg.fK m t k⟩ hs
theorem au(g:SX X c a pa)(h:SX X c b pb)(hs:o8 b:=by intro _ _;rfl):SX X c (.Subscript a b pos) (.idx pa pb):=yN (f:=Pn) (λh1 j=>Gp aas h1 j hs) g h (λρ=>rfl) rfl
noncomputable def Qf(K:PySem.W.Frag)(f:D->Option R):List V->Hp->VK->Prop:=λxs H Q=>∃x,xs=[x]/\rD1 K f x H Q
theorem qY{E:da}{f:D->Option R}{q:P}(l:∀{t},PA X [a] t->PE X E (tCB (Qf X.K f) t))(m:SX X c a pa)(o:∀ρ,_H.ev c q ρ=(_H.dG (isVar pa) (_H.ev c pa) ρ).bind λx ρ=>lift (f x) ρ)(u:isVar q=none)(hs:cj [a] X.env=(av,eg a X.env)::cj [] X.env:=by rfl):SX X c E q:=by obtain⟨M,h1,y⟩:=m.dG;refine⟨dh (l (bD h1 dC hs)) ?_,λi h=>by rw[u]at h;cases h⟩;rintro σ H Q⟨F,ρ,r,ρ',g,e,k⟩;rw[o]at e;obtain⟨x,z,A,j⟩:=aj e;have B:=aF j;clear j;obtain⟨j,C⟩:=B;subst C;refine y g A λv F' H' s G=>⟨v,rfl,F',x,r,s.gs.sub,G,j,λw I J x L=>?_⟩;exact k w I J (s.trans (x.stp s.gs)) (.later s (L.qF s.gs))
theorem abU:eX X (.builtin "len") (Qf X.K λx=>blt .len [x]):=by rintro f s σ H xs h Q I r⟨x,j,F,d,l,g,m,he,k⟩;obtain⟨ds,o,he⟩:=map_some (show(items d).map _=ap l from he);subst he;obtain⟨p,ys,rfl,q,t⟩:=m.items g o;exact yr f s σ H xs h Q I r ⟨p,ys,j,q,by rw[t.length];exact dg.fK g (cL _) k⟩
theorem Yi:eX X (.type "list") (Qf X.K λx=>blt .list [x]):=by rintro f s σ H xs h Q I r⟨x,j,F,d,m,g,o,he,k⟩;obtain⟨ds,q,he⟩:=map_some (show(items d).map _=ap m from he);subst he;obtain⟨p,ys,rfl,t,u⟩:=o.items g q;exact xP f s σ H xs h Q I r ⟨p,ys,j,t,λl w=>Am g u w k⟩
theorem Q6:eX X (.type "tuple") (Qf X.K λx=>blt .tuple [x]):=by rintro f s σ H xs m Q I r⟨x,o,F,d,u,g,q,he,k⟩;obtain⟨ds,h,he⟩:=map_some (show(items d).map _=ap u from he);subst he;cases d with|tup es=>cases h;obtain⟨a,ys,rfl,j,t,rt⟩:=q.tup g;exact oh f s σ H xs m Q I r ⟨a,ys,o,.inr ⟨j,dg.fK g rt k⟩⟩|lst es=>cases h;obtain⟨a,ys,rfl,j,t⟩:=q.lst g;exact oh f s σ H xs m Q I r ⟨a,ys,o,.inl ⟨j,λl w=>Dh g t w k⟩⟩|_=>cases h
theorem cu(f:x="len")(g:Gl X x)(j:X.mg x=none)(k:SX X c a pa)(hs:cj [a] X.env=(av,eg a X.env)::cj [] X.env:=by rfl):SX X c (.Call (.Name x p') [a] [] pos) (.blt .len [pa]):=by subst f;exact qY (λh=>eY abU g j PySem.boot_len h (he:=hs)) k (λρ=>rfl) rfl hs
theorem xM(f:x="list")(g:Gl X x)(j:X.mg x=none)(k:SX X c a pa)(hs:cj [a] X.env=(av,eg a X.env)::cj [] X.env:=by rfl):SX X c (.Call (.Name x p') [a] [] pos) (.blt .list [pa]):=by subst f;exact qY (λh=>qG Yi g j (by decide+kernel) h (he:=hs)) k (λρ=>rfl) rfl hs
theorem fP(f:x="tuple")(g:Gl X x)(j:X.mg x=none)(k:SX X c a pa)(hs:cj [a] X.env=(av,eg a X.env)::cj [] X.env:=by rfl):SX X c (.Call (.Name x p') [a] [] pos) (.blt .tuple [pa]):=by subst f;exact qY (λh=>qG Q6 g j (by decide+kernel) h (he:=hs)) k (λρ=>rfl) rfl hs
end
noncomputable def PB(K:PySem.W.Frag)(np:Nat)(f:List Sl->Res R):Sp:=λvs H Q _=>vs.length=np/\∃F args r a,GS K F args (vs.map ap) H/\f args=.ok r a/\∀v F' σ' H',aL K F args (vs.map ap) H F' a σ' H'->dR K F' a σ' H' args (vs.map ap) H v r->Q v H'
section
variable{K:PySem.W.Frag}
noncomputable def CG(K:PySem.W.Frag)(F:Hp)(ρ:List Sl)(σ:_L.St)(H:Hp)(ρ₀:List Sl)(H₀:Hp)(v:V):Arg->Prop|.dat d=>Rep K F v d|.tmp ds=>∃x xs,v=.ref x/\H x=ap (.lst xs)/\F x=none/\aN K F xs ds/\¬ Own ρ σ x/\(Own ρ₀ σ x\/H₀ x=none)|.iC i=>σ[i]?=ap (ap v)
structure zL(K:PySem.W.Frag)(F:Hp)(ρ:List Sl)(σ:_L.St)(H:Hp)(ρ₀:List Sl)(H₀:Hp)(as:List Arg)(vs:List V):Prop where
 len:as.length=vs.length
 one:∀(j:Nat)(a:Arg)(v:V),as[j]?=ap a->vs[j]?=ap v->CG K F ρ σ H ρ₀ H₀ v a
 dis:∀(j k:Nat)(ds es:List D)(x:b_),as[j]?=ap (.tmp ds)->as[k]?=ap (.tmp es)->vs[j]?=ap (.ref x)->vs[k]?=ap (.ref x)->j=k
theorem CG.later{F' H':Hp}{a:Arg}(s:aL K F ρ σ H F' ρ' σ H')(h:CG K F ρ σ H ρ₀ H₀ v a):CG K F' ρ' σ H' ρ₀ H₀ v a:=by cases a with|dat d=>exact Rep.mono s.cG h|iC i=>exact h|tmp ds=>
   obtain⟨x,xs,h1,b,e,f,c,g⟩:=h;refine⟨x,xs,h1,s.keep x _ b c,?_,f.mono s.cG,λo=>?_,g⟩;.cases q:F' x with|none=>rfl|some o=>
       rcases s.yR x e (by rw[q];simp)with z|z;.exact absurd z c
       .exact(Nb b z).elim
   . rcases s.yS x o with z|z;.exact c z
     .rw[b]at z;cases z
theorem zL.nil:zL K F ρ σ H ρ₀ H₀ [] []:=⟨rfl,λj a v h=>by simp at h,λj k ds es x h=>by simp at h⟩
theorem zL.cons{F H H₀:Hp}{ρ ρ₀:List Sl}{σ:_L.St}{a:Arg}{v:V}{as:List Arg}{vs:List V}(h:CG K F ρ σ H ρ₀ H₀ v a)(t:zL K F ρ σ H ρ₀ H₀ as vs)(hd:∀ds x,a=.tmp ds->v=.ref x->∀(k:Nat)es,as[k]?=ap (.tmp es)->vs[k]?≠ap (.ref x)):zL K F ρ σ H ρ₀ H₀ (a::as) (v::vs):=by
 refine⟨by simp[t.len],λj b u h1 c=>?_,λj k ds es x h1 c e f=>?_⟩;.cases j with|zero=>simp at h1 c;subst h1;subst c;exact h|succ j=>exact t.one j b u (by simpa using h1) (by simpa using c)
 .cases j with
   |zero=>cases k with|zero=>rfl|succ k=>simp at h1 e;exact absurd (by simpa using f) (hd ds x h1 e k es (by simpa using c))
   |succ j=>cases k with|zero=>simp at c f;exact absurd (by simpa using e) (hd es x c f j ds (by simpa using h1))|succ k=>rw[t.dis j k ds es x (by simpa using h1) (by simpa using c) (by simpa using e) (by simpa using f)]
noncomputable def LR(ρ:List Sl):Arg->Sl->Prop|.dat d,s=>s=.val av d|.tmp ds,s=>s=.own av ds|.iC i,s=>(∃b d,ρ[i]?=ap (.val b d)/\s=.val av d)\/(∃b ds,ρ[i]?=ap (.own b ds)/\s=.own bj ds)\/∃ds,ρ[i]?=ap (.lent ds)/\s=.lent ds
theorem vq{ρ:List Sl}:∀{as:List Arg}{c:List Nat}{args:List Sl},cP ρ as c=ap args->args.length=as.length/\(∀(j:Nat)(a:Arg)(s:Sl),as[j]?=ap a->args[j]?=ap s->LR ρ a s)/\(∀(j:Nat)(i:Nat)(s:Sl)ds,as[j]?=ap (.iC i)->args[j]?=ap s->lst? s=ap ds->i∉c)/\(∀(j k:Nat)(i:Nat)(s t:Sl)ds es,as[j]?=ap (.iC i)->as[k]?=ap (.iC i)->args[j]?=ap s->args[k]?=ap t->lst? s=ap ds->lst? t=ap es->j=k)
 |[],c,args,h=>by rw[jY]at h;cases h;exact⟨rfl,λj a s h=>by simp at h,λj i s ds h=>by simp at h,λj k i s t ds es h=>by simp at h⟩|a::as,c,args,h=>by--the ahL slot,the ahM
   have key:∃s0 r u,args=s0::r/\cP ρ as u=ap r/\LR ρ a s0/\((∃i ds,a=.iC i/\lst? s0=ap ds/\u=i::c/\i∉c)\/((∀i ds,a=.iC i->lst? s0≠ap ds)/\u=c)):=by cases a with|dat d=>rw[jZ]at h;obtain⟨r,g,l⟩:=map_some h;exact⟨_,r,c,l.symm,g,rfl,.inr ⟨λi ds z=>(by cases z),rfl⟩⟩|tmp d=>rw[jW]at h;obtain⟨r,g,l⟩:=map_some h;exact⟨_,r,c,l.symm,g,rfl,.inr ⟨λi ds z=>(by cases z),rfl⟩⟩|iC i=>
      rw[iU]at h;split at h;.rename_i b d q;obtain⟨r,g,l⟩:=map_some h;exact⟨_,r,c,l.symm,g,.inl ⟨b,d,q,rfl⟩,.inr ⟨λ_ _ _ z=>(by cases z),rfl⟩⟩
      . rename_i b ds q;split at h;.cases h
        .rename_i o;obtain⟨r,g,l⟩:=map_some h;exact⟨_,r,_,l.symm,g,.inr (.inl ⟨b,ds,q,rfl⟩),.inl ⟨i,_,rfl,rfl,rfl,by simpa using o⟩⟩
      . rename_i ds q;split at h;.cases h
        .rename_i o;obtain⟨r,g,l⟩:=map_some h;exact⟨_,r,_,l.symm,g,.inr (.inr ⟨ds,q,rfl⟩),.inl ⟨i,_,rfl,rfl,rfl,by simpa using o⟩⟩
      .cases h
   obtain⟨s0,r,u,rfl,hr,A,o⟩:=key;obtain⟨N,l2,B,O⟩:=vq hr;have sub:∀i,i∉u->i∉c:=λi hi L=>by
    rcases o with⟨_,_,_,_,rfl,_⟩|⟨_,rfl⟩;.exact hi (dL _ L)
    .exact hi L
   refine⟨by simp[N],λj b s h1 f=>?_,λj i s ds h1 f p=>?_,λj k i s t ds es h1 f p y C E=>?_⟩;.cases j with|zero=>simp at h1 f;subst h1;subst f;exact A|succ j=>exact l2 j b s (by simpa using h1) (by simpa using f)
   .cases j with|zero=>
       simp at h1 f;subst h1;subst f;rcases o with⟨M,_,e,_,_,m⟩|⟨m,_⟩;.cases e;exact m
       .exact absurd p (m i ds rfl)|succ j=>exact sub i (B j i s ds (by simpa using h1) (by simpa using f) p)
   . have Q:∀(k:Nat)(t:Sl)es,a=.iC i->lst? s0=ap ds->(as[k]?=ap (.iC i))->r[k]?=ap t->lst? t=ap es->False:=λk t es w G I J he=>by
      rcases o with⟨M,_,e,_,rfl,m⟩|⟨m,_⟩;.rw[w]at e;cases e;exact B k i t es I J he gX
      .exact m i ds w G
     have U:∀(k:Nat)(t:Sl)es,a=.iC i->lst? s0=ap es->(as[k]?=ap (.iC i))->r[k]?=ap t->lst? t=ap ds->False:=λk t es w G I J he=>by
      rcases o with⟨M,_,e,_,rfl,m⟩|⟨m,_⟩;.rw[w]at e;cases e;exact B k i t ds I J he gX
      .exact m i es w G
     cases j with
     |zero=>cases k with|zero=>rfl|succ k=>simp at h1 p;subst p;exact(Q k t es h1 C (by simpa using f) (by simpa using y) E).elim
     |succ j=>cases k with|zero=>simp at f y;subst y;exact(U j s es f E (by simpa using h1) (by simpa using p) C).elim|succ k=>rw[O j k i s t ds es (by simpa using h1) (by simpa using f) (by simpa using p) (by simpa using y) C E]
theorem zL.get(A:zL K F ρ σ H ρ₀ H₀ as vs){args:List Sl}{j:Nat}{s:Sl}(c:args.length=as.length)(h:args[j]?=ap s):∃a v,as[j]?=ap a/\vs[j]?=ap v/\CG K F ρ σ H ρ₀ H₀ v a:=by
 have e:j<args.length:=(gh h).1;have h1:j<as.length:=by lia
 have b:j<vs.length:=by rw[<-A.len];exact h1
 exact⟨as[j],vs[j],by simp[h1],by simp[b],A.one j _ _ (by simp[h1]) (by simp[b])⟩
theorem args_gs{args:List Sl}(g:GS K F ρ σ H)(A:zL K F ρ σ H ρ₀ H₀ as vs)(h:cP ρ as []=ap args):GS K F args (vs.map ap) H:=by
 obtain⟨I,l2,l3,Y⟩:=vq h;have M:∀{j:Nat}{v:V},vs[j]?=ap v->(vs.map ap)[j]?=ap (ap v):=λe=>by rw[eW,e];rfl
 have dn:∀{j:Nat}{v:V},(vs.map ap)[j]?=ap (ap v)->vs[j]?=ap v:=λ{j v}e=>by rw[eW]at e;cases q:vs[j]?with|none=>rw[q]at e;cases e|some w=>rw[q]at e;cases e;rfl
 refine⟨g.sub,by rw[I,A.len,dV],λj b d e=>?_,λj s ds e J=>?_,λj k x⟨⟨s,ds,e1,e2⟩,N⟩⟨⟨t,es,f1,f2⟩,f3⟩=>?_⟩;.obtain⟨a,v,h1,u,m⟩:=A.get I e;have B:=l2 j a _ h1 e;refine⟨v,M u,?_⟩;cases a with|dat d'=>cases B;exact m|tmp ds=>cases B|iC i=>
     rcases B with⟨O,d',r,c⟩|⟨_,_,_,c⟩|⟨_,_,c⟩;.cases c;obtain⟨w,f,p⟩:=g.val i O d r;have m:σ[i]?=ap (ap v):=m;rw[m]at f;cases f;exact p
     .cases c
     .cases c
 .obtain⟨a,v,h1,u,m⟩:=A.get I e;have B:=l2 j a _ h1 e;cases a with|dat d'=>cases B;cases J|tmp es=>cases B;cases J;obtain⟨x,xs,rfl,c,f,p,_⟩:=m;exact⟨x,_,M u,c,f,xs,rfl,p⟩|iC i=>
     have m:σ[i]?=ap (ap v):=m;rcases B with⟨O,d',r,c⟩|⟨O,es,r,c⟩|⟨es,r,c⟩;.cases c;cases J
     .cases c;cases J;obtain⟨x,xs,f,p⟩:=g.own i _ _ r rfl;rw[m]at f;cases f;exact⟨x,xs,M u,p⟩
     .cases c;cases J;obtain⟨x,xs,f,p⟩:=g.own i _ _ r rfl;rw[m]at f;cases f;exact⟨x,xs,M u,p⟩
 . obtain⟨a,v,h1,u,m⟩:=A.get I e1;obtain⟨Q,v',C,L,E⟩:=A.get I f1;have N:=dn N;have f3:=dn f3;rw[u]at N;cases N;rw[L]at f3;cases f3;have s1:=l2 j a _ h1 e1;have s2:=l2 k Q _ C f1;have nm:∀{i:Nat}{s:Sl}{ds:Oc},lst? s=ap ds->LR ρ (.iC i) s->∃G o,ρ[i]?=ap G/\lst? G=ap o:=λ{i s ds}l z=>by
    rcases z with⟨_,_,_,z⟩|⟨b,es,q,_⟩|⟨es,q,_⟩;.subst z;cases l
    .exact⟨_,_,q,rfl⟩
    .exact⟨_,_,q,rfl⟩
   cases a with
   |dat d=>cases s1;cases e2|tmp Z=>cases Q with|dat d=>cases s2;cases f2|tmp X=>exact A.dis j k Z X x h1 C u L|iC i=>obtain⟨y,_,r,_,_,_,c,_⟩:=m;cases r;obtain⟨G,o,f,p⟩:=nm f2 s2;exact absurd ⟨i,⟨G,o,f,p⟩,E⟩ c
   |iC i=>obtain⟨G,o,f,p⟩:=nm e2 s1;cases Q with|dat d=>cases s2;cases f2|tmp X=>obtain⟨y,_,r,_,_,_,c,_⟩:=E;cases r;exact absurd ⟨i,⟨G,o,f,p⟩,m⟩ c|iC i'=>obtain⟨U,W,q5,q6⟩:=nm f2 s2;have:=g.dis i i' x ⟨⟨G,o,f,p⟩,m⟩ ⟨⟨U,W,q5,q6⟩,E⟩;subst this;exact Y j k i s t ds es h1 C e1 f1 e2 f2
theorem qi{as:List Arg}{ss:List Sl}:∀(ρ:List Sl)(n i:Nat),(gF as ss n ρ)[i]?=(ρ[i]?).map λs=>dJ s (bw (n+i) as ss)
 |[],n,i=>by simp[iT,gK]|s::ρ,n,0=>by simp[iT,gK]|s::ρ,n,i+1=>by
   rw[gK];simp only[fm];rw[qi ρ (n+1) i];have:n+1+i=n+(i+1):=by lia
   rw[this]
theorem qC{as:List Arg}{ss:List Sl}:∀(ρ:List Sl)(n:Nat),(gF as ss n ρ).length=ρ.length|[],n=>rfl|s::ρ,n=>by rw[gK];simp[qC ρ]
theorem lD{i:Nat}:∀{as:List Arg}{ss:List Sl}{t:Sl},bw i as ss=ap t->∃j:Nat,as[j]?=ap (.iC i)/\ss[j]?=ap t
 |[],_,_,h=>by simp[bw]at h|a::as,[],_,h=>by cases a<;>simp[bw]at h|a::as,s::ss,t,h=>by
   have b:bw i as ss=ap t->∃j:Nat,(a::as)[j]?=ap (.iC i)/\(s::ss)[j]?=ap t:=λh=>by obtain⟨j,h1,c⟩:=lD h;exact⟨j+1,by simpa using h1,by simpa using c⟩
   cases a with|dat d=>exact b (by simpa[bw]using h)|tmp d=>exact b (by simpa[bw]using h)|iC k=>
     rw[bw]at h;split at h;.rename_i e;cases h;subst e;exact⟨0,rfl,rfl⟩
     .exact b h
theorem oK{i:Nat}:∀{as:List Arg}{ss:List Sl},as.length=ss.length->bw i as ss=none->∀j:Nat,as[j]?≠ap (.iC i)
 |[],_,_,_=>λj h=>by simp at h|a::as,[],b,_=>by simp at b|a::as,s::ss,b,h=>λj c=>by
   have f:as.length=ss.length:=by simpa using b
   have g:bw i as ss=none/\a≠.iC i:=by cases a with|dat d=>exact⟨by simpa[bw]using h,by simp⟩|tmp d=>exact⟨by simpa[bw]using h,by simp⟩|iC k=>
      rw[bw]at h;split at h;.cases h
      .rename_i l;exact⟨h,λe=>l (by cases e;rfl)⟩
   cases j with|zero=>simp at c;exact g.2 c|succ j=>exact oK f g.1 j (by simpa using c)
theorem uf{Q F' H':Hp}{args c:List Sl}{σ':_L.St}(s0:aL K Q ρ₀ σ H₀ F ρ σ H)(A:zL K F ρ σ H ρ₀ H₀ as vs)(hb:cP ρ as []=ap args)(s:aL K F args (vs.map ap) H F' c σ' H'):aL K Q ρ₀ σ H₀ F' (gF as c 0 ρ) σ H'/\∀v r,dR K F' c σ' H' args (vs.map ap) H v r->dR K F' (gF as c 0 ρ) σ H' ρ₀ σ H₀ v r:=by
 have g:=s0.gs;obtain⟨M,l2,l3,l4⟩:=vq hb;have up:∀{j:Nat}{v:V},vs[j]?=ap v->(vs.map ap)[j]?=ap (ap v):=λe=>by rw[eW,e];rfl
 have dn:∀{j:Nat}{v:V},(vs.map ap)[j]?=ap (ap v)->vs[j]?=ap v:=λ{j v}e=>by rw[eW]at e;cases q:vs[j]?with|none=>rw[q]at e;cases e|some w=>rw[q]at e;cases e;rfl
 have la:as.length=c.length:=by rw[s.len,M]--whose are the lists that the callee holds
 have own:∀b,Own args (vs.map ap) b->(∃(j:Nat)(ds:List D),as[j]?=ap (Arg.tmp ds)/\vs[j]?=ap (V.ref b)/\¬ Own ρ σ b/\(Own ρ₀ σ b\/H₀ b=none))\/Own ρ σ b:=λb⟨j,⟨sl,ds,E,U⟩,e3⟩=>by obtain⟨a,v,h1,C,J⟩:=A.get M E;have s1:=l2 j a _ h1 E;have e3:=dn e3;rw[C]at e3;cases e3;cases a with|dat d=>cases s1;cases U|tmp es=>obtain⟨x,_,k,_,_,_,f,N⟩:=J;cases k;exact .inl ⟨j,es,h1,C,f,N⟩|iC i=>
    right;rcases s1 with⟨_,_,_,z⟩|⟨b',es,q,_⟩|⟨es,q,_⟩;.subst z;cases U
    .exact⟨i,⟨_,_,q,rfl⟩,J⟩
    .exact⟨i,⟨_,_,q,rfl⟩,J⟩
 have back:∀b,Own ρ σ b\/H b=none->Own ρ₀ σ b\/H₀ b=none:=λb h=>by
  rcases h with h|h;.exact s0.yS b h
  . by_cases ho:Own ρ₀ σ b;.exact .inl ho
    .right;cases e:H₀ b with|none=>rfl|some o=>rw[s0.keep b o e ho]at h;cases h
 have L:∀b,Own args (vs.map ap) b->Own ρ₀ σ b\/H₀ b=none:=λb h=>by
  rcases own b h with⟨_,_,_,_,_,z⟩|z;.exact z
  .exact back b (.inl z)--a name's slot behind the call
 have slot:∀{i:Nat}{t:Sl},(gF as c 0 ρ)[i]?=ap t->∃s1,ρ[i]?=ap s1/\t=dJ s1 (bw i as c):=λ{i t}h=>by rw[qi]at h;obtain⟨s1,E,U⟩:=map_some h;exact⟨s1,E,by rw[<-U,nK]⟩
 have ac:∀{i:Nat}{s1:Sl},ρ[i]?=ap s1->(gF as c 0 ρ)[i]?=ap (dJ s1 (bw i as c)):=λ{i s1}h=>by rw[qi,h,nK];rfl--what the callee left of a list that was lent to it
 have lent:∀{i j:Nat}{s1 t:Sl}{ds:List D},ρ[i]?=ap s1->lst? s1=ap (.l ds)->as[j]?=ap (.iC i)->c[j]?=ap t->∃v s2,σ[i]?=ap (ap v)/\σ'[j]?=ap (ap v)/\args[j]?=ap s2/\o6 s2 t/\((∃b,s1=.own b ds/\s2=.own bj ds)\/(s1=.lent ds/\s2=.lent ds)):=λ{i j s1 t ds}h1 C J h4=>by
  have W:j<args.length:=by rw[M];exact(gh J).1
  have E:args[j]?=ap args[j]:=by simp[W]
  obtain⟨a,v,k,f,N⟩:=A.get M E;rw[J]at k;cases k;have q4:=l2 j _ _ J E;have kind:(∃b,s1=.own b ds/\args[j]=.own bj ds)\/(s1=.lent ds/\args[j]=.lent ds):=by
   rcases q4 with⟨_,_,z,_⟩|⟨b,es,z,z'⟩|⟨es,z,z'⟩;.rw[h1]at z;cases z;cases C
   .rw[h1]at z;cases z;cases C;exact .inl ⟨b,rfl,z'⟩
   .rw[h1]at z;cases z;cases C;exact .inr ⟨rfl,z'⟩
  have lk:u9 args[j]=bj:=by rcases kind with⟨_,_,z⟩|⟨_,z⟩<;>rw[z]<;>rfl
  obtain⟨u,s',y,z3⟩:=s.lk j _ E lk;rw[h4]at y;cases y;exact⟨v,_,N,by rw[u];exact up f,E,z3,kind⟩
 have RP:∀{i:Nat}{x:b_},bB (gF as c 0 ρ) σ i x->bB ρ σ i x:=λ{i x}⟨⟨t,ds,E,U⟩,e3⟩=>by obtain⟨s1,k,f⟩:=slot E;refine⟨?_,e3⟩;cases s1 with|aW=>subst f;cases U|val b d=>subst f;cases U|own b es=>exact⟨_,_,k,rfl⟩|lent es=>exact⟨_,_,k,rfl⟩|jE m=>exact⟨_,_,k,rfl⟩|dM m=>exact⟨_,_,k,rfl⟩|hold _=>subst f;cases U
 refine⟨?_,λv r h=>?_⟩;rotate_left;.cases r with|val d=>exact h|own ds=>
     obtain⟨x,xs,h1,C,J,h4,h5,h6⟩:=h;refine⟨x,xs,h1,C,J,h4,λ⟨i,h⟩=>?_,?_⟩
     . have hO:=RP h;obtain⟨⟨s1,Yl,k,f⟩,N⟩:=hO;obtain⟨x',ah,w1,w2,_⟩:=g.own i s1 Yl k f;rw[N]at w1;cases w1;rcases h6 with h6|h6
       . rcases own x h6 with⟨_,_,_,_,z,_⟩|_;.exact z ⟨i,⟨s1,Yl,k,f⟩,N⟩
         .--a name was lent
           obtain⟨j,⟨sl,es,X,w4⟩,w5⟩:=h6;obtain⟨a',v',G,O,y3⟩:=A.get M X;have sa:=l2 j a' _ G X;have w5:=dn w5;rw[O]at w5;cases w5;cases a' with|dat d=>cases sa;cases w4|tmp ai=>obtain⟨_,_,u1,_,_,_,u2,_⟩:=y3;cases u1;exact u2 ⟨i,⟨s1,Yl,k,f⟩,N⟩|iC i'=>
             have ex:∃s' Y,ρ[i']?=ap s'/\lst? s'=ap Y:=by
              rcases sa with⟨_,_,_,z⟩|⟨b,es,q,_⟩|⟨es,q,_⟩;.subst z;cases w4
              .exact⟨_,_,q,rfl⟩
              .exact⟨_,_,q,rfl⟩
             have:=g.dis i i' x ⟨⟨s1,Yl,k,f⟩,N⟩ ⟨ex,y3⟩;subst this;have hk:∃RN,Yl=.l RN:=by
              rcases sa with⟨_,_,_,z⟩|⟨b,es,q,_⟩|⟨es,q,_⟩;.subst z;cases w4
              .rw[k]at q;cases q;cases f;exact⟨_,rfl⟩
              .rw[k]at q;cases q;cases f;exact⟨_,rfl⟩
             obtain⟨RN,rfl⟩:=hk;have W:j<c.length:=by rw[<-la];exact(gh G).1
             have B:c[j]?=ap c[j]:=by simp[W]
             obtain⟨v2,s2,u1,u2,u3,u4,u5⟩:=lent k f G B;rw[N]at u1;cases u1--the slot behind the call is a list's
             obtain⟨⟨t,dt,t1,t2⟩,_⟩:=h;obtain⟨s3,t3,t4⟩:=slot t1;rw[k]at t3;cases t3;have lo:∃t5,bw i as c=ap t5:=by cases I:bw i as c with|none=>exact absurd G (oK la I j)|some t5=>exact⟨t5,rfl⟩
             obtain⟨t5,I⟩:=lo;obtain⟨j2,t6,t7⟩:=lD I;have al:j2<args.length:=by rw[M];exact(gh t6).1
             obtain⟨_,s6,_,am,ae,ar,af⟩:=lent k f t6 t7;have ag:j2=j:=by
              have a1:lst? s6=ap (.l RN):=by rcases af with⟨_,_,z⟩|⟨_,z⟩<;>rw[z]<;>rfl
              have a2:lst? s2=ap (.l RN):=by rcases u5 with⟨_,_,z⟩|⟨_,z⟩<;>rw[z]<;>rfl
              exact l4 j2 j i s6 s2 _ _ t6 G ae u3 a1 a2
             subst ag;rw[B]at t7;cases t7;rw[I]at t4;refine h5 ⟨j2,?_,u2⟩;rcases u5 with⟨b,u,y⟩|⟨u,y⟩
             . subst u;subst y;rcases u4 with⟨d2,z⟩|⟨d2,z⟩;.exact⟨_,.l d2,B,by rw[z];rfl⟩
               .rw[z]at t4;subst t4;cases t2
             .subst u;subst y;exact⟨_,.l RN,B,by rw[show c[j2]=.lent RN from u4];rfl⟩
       .rw[w2]at h6;cases h6
     . rcases h6 with h6|h6;.exact L x h6
       .exact back x (.inr h6)
 refine⟨⟨s.gs.sub,by rw[qC];exact g.len,λi b d e=>?_,λi t ds e B=>?_,λi j x h1 C=>g.dis i j x (RP h1) (RP C)⟩,s0.cG.trans s.cG,λb n n'=>?_,λb o h n=>?_,λb⟨i,h⟩=>back b (.inl ⟨i,RP h⟩),by rw[qC];exact s0.len,λi s1 h l=>?_⟩;.--data
   obtain⟨s1,k,f⟩:=slot e;cases s1 with|aW=>cases f|lent es=>cases f|jE _=>cases f|dM _=>cases f|hold _=>cases f|val b' d'=>cases f;obtain⟨v,u,y⟩:=g.val i b d k;exact⟨v,u,y.mono s.cG⟩|own b' es=>cases I:bw i as c with|none=>rw[I]at f;cases f|some t=>rw[I]at f;obtain⟨j,u,y⟩:=lD I;obtain⟨v,s2,G,O,y3,Z,p⟩:=lent k rfl u y;cases t with|aW=>cases f|own _ _=>cases f|lent _=>cases f|jE _=>cases f|dM _=>cases f|hold _=>cases f|val b2 d2=>cases f;obtain⟨w,x1,x2⟩:=s.gs.val j b2 d y;rw[O]at x1;cases x1;exact⟨v,G,x2⟩
 .--lists
   obtain⟨s1,k,f⟩:=slot e--a list that was not lent
   have stay:∀es,lst? s1=ap es->(∀j:Nat,as[j]?≠ap (.iC i))->t=s1->∃(a:b_)(xs:HO),σ[i]?=ap (ap (V.ref a))/\H' a=ap xs/\F' a=none/\oA K F' xs ds:=λes he hn ht=>by
    subst ht;rw[he]at B;cases B;obtain⟨a,xs,u,y,z3,z4⟩:=g.own i _ ds k he;have no:¬ Own args (vs.map ap) a:=λh=>by obtain⟨j,⟨sl,es,w1,w2⟩,X⟩:=h;obtain⟨a',v,h1,C,J⟩:=A.get M w1;have sa:=l2 j a' _ h1 w1;have X:=dn X;rw[C]at X;cases X;cases a' with|dat d=>cases sa;cases w2|tmp es=>obtain⟨x,_,G,_,_,_,O,_⟩:=J;cases G;exact O ⟨i,⟨_,ds,k,he⟩,u⟩|iC i'=>
       have:∃s' Y,ρ[i']?=ap s'/\lst? s'=ap Y:=by
        rcases sa with⟨_,_,_,z⟩|⟨b,es,q,_⟩|⟨es,q,_⟩;.subst z;cases w2
        .exact⟨_,_,q,rfl⟩
        .exact⟨_,_,q,rfl⟩
       have:=g.dis i i' a ⟨⟨_,ds,k,he⟩,u⟩ ⟨this,J⟩;subst this;exact hn j h1
    refine⟨a,xs,u,s.keep a _ y no,?_,z4.mono s.cG⟩;cases q:F' a with|none=>rfl|some o=>
      rcases s.yR a z3 (by rw[q];simp)with z|z;.exact absurd z no
      .rw[y]at z;exact(LK z4 z).elim
   cases I:bw i as c with
   |none=>have hn:=oK la I;rw[I]at f;cases s1 with|aW=>subst f;cases B|val b' d'=>subst f;cases B|own b' es=>exact stay _ rfl hn f|lent es=>exact stay _ rfl hn f|jE m=>exact stay _ rfl hn f|dM m=>exact stay _ rfl hn f|hold _=>subst f;cases B
   |some t2=>rw[I]at f;obtain⟨j,u,y⟩:=lD I;cases s1 with
     |aW=>subst f;cases B|val b' d'=>subst f;cases B|hold _=>subst f;cases B|jE m=>
       have W:j<args.length:=by rw[M];exact(gh u).1
       rcases l2 j _ _ u (show args[j]?=ap args[j]by simp[W])with⟨_,_,z,_⟩|⟨_,_,z,_⟩|⟨_,z,_⟩<;>(rw[k]at z;cases z)|dM m=>
       have W:j<args.length:=by rw[M];exact(gh u).1
       rcases l2 j _ _ u (show args[j]?=ap args[j]by simp[W])with⟨_,_,z,_⟩|⟨_,_,z,_⟩|⟨_,z,_⟩<;>(rw[k]at z;cases z)|own b' es=>
       obtain⟨v,s2,G,O,y3,Z,p⟩:=lent k rfl u y;have:t2≠.aW/\∀x,t2≠.lent x:=by
        rcases p with⟨_,_,p⟩|⟨p,_⟩;.subst p;rcases Z with⟨_,rfl⟩|⟨_,rfl⟩<;>simp
        .cases p
       cases t2 with
       |aW=>exact absurd rfl this.1|hold x=>
         rcases p with⟨_,_,p⟩|⟨p,_⟩;.subst p;rcases Z with⟨_,h⟩|⟨_,h⟩<;>cases h
         .cases p|jE x=>
         rcases p with⟨_,_,p⟩|⟨p,_⟩;.subst p;rcases Z with⟨_,h⟩|⟨_,h⟩<;>cases h
         .cases p|dM x=>
         rcases p with⟨_,_,p⟩|⟨p,_⟩;.subst p;rcases Z with⟨_,h⟩|⟨_,h⟩<;>cases h
         .cases p|lent x=>exact absurd rfl (this.2 x)|val b2 d2=>subst f;cases B|own b2 aw=>subst f;cases B;obtain⟨a,xs,x1,x2⟩:=s.gs.own j _ _ y rfl;rw[O]at x1;cases x1;exact⟨a,xs,G,x2⟩
     |lent es=>
       obtain⟨v,s2,G,O,y3,Z,p⟩:=lent k rfl u y;have ht:t=.lent es:=by rw[f];cases t2<;>rfl
       subst ht;cases B;rcases p with⟨_,p,_⟩|⟨_,p⟩;.cases p
       .subst p;cases(show t2=.lent es from Z);obtain⟨a,xs,x1,x2⟩:=s.gs.own j _ _ y rfl;rw[O]at x1;cases x1;exact⟨a,xs,G,x2⟩
 . by_cases q:F b=none
   . rcases s.yR b q n' with z|z;.exact(L b z).imp id ni
     . by_cases ho:Own ρ₀ σ b;.exact .inl ho
       .right;cases f:H₀ b with|none=>rfl|some o=>rw[s0.keep b o f ho]at z;exact z
   .exact s0.yR b n q
 . refine s.keep b o (s0.keep b o h n) λz=>?_;rcases L b z with z|z;.exact n z
   .rw[h]at z;cases z
 .obtain⟨E,s2,C,k2⟩:=s0.lk i s1 h l;refine⟨E,_,ac C,?_⟩;have Z4:=k2.u9 l;refine o6.trans l k2 ?_;cases s2 with
   |aW=>cases Z4|jE _=>cases Z4|dM _=>cases Z4|hold _=>exact o6.refl _|val b d=>exact o6.refl _|lent es=>cases bw i as c with|none=>rfl|some t=>cases t<;>rfl
   |own b es=>cases b with|false=>cases Z4|true=>cases bw i as c with|none=>exact .inl ⟨_,rfl⟩|some t=>cases t with|aW=>exact .inl ⟨_,rfl⟩|lent _=>exact .inl ⟨_,rfl⟩|jE _=>exact .inl ⟨_,rfl⟩|dM _=>exact .inl ⟨_,rfl⟩|hold _=>exact .inl ⟨_,rfl⟩|own _ ds=>exact .inl ⟨_,rfl⟩|val _ d=>exact .inr ⟨_,rfl⟩
theorem zL.rebase{F1 g k l:Hp}{c f:List Sl}(a:aL K F ρ σ H F1 c σ g)(A:zL K k f σ l c g as vs):zL K k f σ l ρ H as vs:=by refine⟨A.len,λj b v h1 m=>?_,A.dis⟩;have h:=A.one j b v h1 m;cases b with|dat d=>exact h|iC i=>exact h|tmp ds=>
   obtain⟨x,xs,p,q,r,s,t,q6⟩:=h;refine⟨x,xs,p,q,r,s,t,?_⟩;rcases q6 with q6|q6;.exact a.yS x q6
   . by_cases ho:Own ρ σ x;.exact .inl ho
     .right;cases e:H x with|none=>rfl|some o=>rw[a.keep x o e ho]at q6;cases q6
theorem zL.aar{F1 c e f:Hp}{a b:List Sl}{r:R}(s1:aL K F ρ σ H F1 a σ c)(g:dR K F1 a σ c ρ σ H v r)(s2:aL K F1 a σ c e b σ f)(A:zL K e b σ f a c as vs):zL K e b σ f ρ H (wC r::as) (v::vs):=by
 have h1:CG K F1 a σ c ρ H v (wC r):=by cases r with|val d=>exact g|own ds=>exact g
 refine .cons (h1.later s2) (A.rebase s1) λds x m ev k es o j=>?_;cases r with|val d=>cases m|own p=>
   obtain⟨y,xs,l,q,u,w,s,B⟩:=g;rw[ev]at l;cases l;have h:=A.one k _ _ o j;obtain⟨z,C,t,_,_,_,_,w6⟩:=h;cases t;rcases w6 with w6|w6;.exact s w6
   .rw[q]at w6;cases w6
end
section
variable{K:PySem.W.Frag}{F F1 H H1:Hp}{ρ ρ1 ρ2:List Sl}{σ σ1:_L.St}
theorem uq{s:Sl}(h:put ρ i s=ap ρ1):∃s0,ρ[i]?=ap s0/\u9 s0=av/\ρ1=ρ.set i s:=by
 unfold put at h;split at h;.rename_i q;cases h;exact⟨_,q,rfl,rfl⟩
 .rename_i q;cases h;exact⟨_,q,rfl,rfl⟩
 .rename_i q;cases h;exact⟨_,q,rfl,rfl⟩
 .cases h
theorem aL.put{r:R}(s:aL K F ρ σ H F1 ρ1 σ1 H1)(w:dR K F1 ρ1 σ1 H1 ρ σ H v r)(h:_H.put ρ1 i (vP r)=ap ρ2):aL K F ρ σ H F1 ρ2 (σ1.set i (ap v)) H1:=by
 obtain⟨s0,h0,A,rfl⟩:=uq h;have hi:i<ρ1.length:=(gh h0).1;have m:i<σ1.length:=by rw[<-s.gs.len];exact hi
 have f:∀{j:Nat}{a:b_},j≠i->bB (ρ1.set i (vP r)) (σ1.set i (ap v)) j a->bB ρ1 σ1 j a:=λ{j a}c⟨⟨t,ds,o,p⟩,g⟩=>by rw[gM c]at o g;exact⟨⟨t,ds,o,p⟩,g⟩
 have new:∀{a:b_},bB (ρ1.set i (vP r)) (σ1.set i (ap v)) i a->¬ Own ρ1 σ1 a/\(Own ρ σ a\/H a=none):=λ{a}⟨⟨t,ds,o,p⟩,g⟩=>by rw[ce hi]at o;rw[ce m]at g;cases o;cases g;cases r with|val d=>cases p|own es=>obtain⟨x,xs,G,B,C,E,I,J⟩:=w;cases G;exact⟨I,J⟩
 refine⟨⟨s.gs.sub,by simp[s.gs.len],λj b d e=>?_,λj t ds e y=>?_,λj k a h1 z=>?_⟩,s.cG,s.yR,s.keep,λa⟨j,c⟩=>?_,by simp[s.len],λj t e l=>?_⟩
 . by_cases c:j=i;.subst c;rw[ce hi]at e;cases r with|own es=>cases e|val d'=>cases e;exact⟨v,ce m,w⟩
   .rw[gM c]at e ⊢;exact s.gs.val j b d e
 . by_cases c:j=i;.subst c;rw[ce hi]at e;cases r with|val d'=>cases e;cases y|own es=>cases e;cases y;obtain⟨x,xs,rfl,B,C,E,_⟩:=w;exact⟨x,_,ce m,B,C,xs,rfl,E⟩
   .rw[gM c]at e ⊢;exact s.gs.own j t ds e y
 . by_cases c:j=i
   . by_cases q:k=i;.rw[c,q]
     .subst c;exact absurd ⟨k,f q z⟩ (new h1).1
   . by_cases q:k=i;.subst q;exact absurd ⟨j,f c h1⟩ (new z).1
     .exact s.gs.dis j k a (f c h1) (f q z)
 . by_cases u:j=i;.subst u;exact(new c).2
   .exact s.yS a ⟨j,f u c⟩
 . obtain⟨o,t1,p,g⟩:=s.lk j t e l;have c:j≠i:=by rintro rfl;rw[h0]at p;cases p;rw[g.u9 l]at A;cases A
   exact⟨by rw[gM c];exact o,t1,by rw[gM c];exact p,g⟩
theorem GS.mut{x:Nat}{b:Bool}{es:List D}{a:b_}{ys:List V}(g:GS K F ρ σ H)(e:ρ[x]?=ap (.own b ds))(s:σ[x]?=ap (ap (.ref a)))(r:aN K F ys es):aL K F ρ σ H F (ρ.set x (.own b es)) σ (upd H a (.lst ys)):=by
 have hi:x<ρ.length:=(gh e).1;have y:bB ρ σ x a:=⟨⟨_,_,e,rfl⟩,s⟩;obtain⟨L,xs,h1,M,z,N⟩:=g.pK x _ ds e rfl;rw[s]at h1;cases h1;have h:∀{j:Nat}{c:b_},bB (ρ.set x (.own b es)) σ j c->bB ρ σ j c:=λ{j c}⟨⟨t,m,p,u⟩,q3⟩=>by
  by_cases f:j=x;.subst f;exact⟨⟨_,_,e,rfl⟩,q3⟩
  .rw[gM f]at p;exact⟨⟨t,m,p,u⟩,q3⟩
 refine⟨⟨λc o q=>?_,by simp[g.len],λj B d q=>?_,λj t m q w=>?_,λj k c p u=>g.dis j k c (h p) (h u)⟩,.refl _,λc n C=>absurd n C,λc o q n=>?_,λc⟨j,q⟩=>.inl ⟨j,h q⟩,by simp,λj t q l=>⟨rfl,?_⟩⟩
 . have:c≠a:=by rintro rfl;rw[z]at q;cases q
   rw[aH this];exact g.sub c o q
 . by_cases f:j=x;.subst f;rw[ce hi]at q;cases q
   .rw[gM f]at q;exact g.val j B d q
 . by_cases f:j=x;.subst f;rw[ce hi]at q;cases q;cases w;exact⟨a,_,s,aP,z,ys,rfl,r⟩
   . rw[gM f]at q;obtain⟨c,E,A,G,I,J⟩:=g.own j t m q w;have:c≠a:=by rintro rfl;exact f (g.dis j x c ⟨⟨t,m,q,w⟩,A⟩ y)
     exact⟨c,E,A,by rw[aH this];exact G,I,J⟩
 . have:c≠a:=by rintro rfl;exact n ⟨x,y⟩
   rw[aH this];exact q
 . by_cases f:j=x;.subst f;rw[e]at q;cases q;refine⟨_,ce hi,?_⟩;cases b with|true=>exact .inl ⟨_,rfl⟩|false=>cases l
   .exact⟨t,by rw[gM f];exact q,.refl t⟩
theorem GS.lend{b:Bool}(g:GS K F ρ σ H)(e:ρ[i]?=ap (.own b ds)):GS K F (ρ.set i (.lent ds)) σ H:=by
 have hi:i<ρ.length:=(gh e).1;have f:∀{j:Nat}{c:b_},bB (ρ.set i (.lent ds)) σ j c->bB ρ σ j c:=λ{j c}⟨⟨t,l,h,m⟩,q3⟩=>by
  by_cases a:j=i;.subst a;exact⟨⟨_,_,e,rfl⟩,q3⟩
  .rw[gM a]at h;exact⟨⟨t,l,h,m⟩,q3⟩
 refine⟨g.sub,by simp[g.len],λj p d q=>?_,λj t l q o=>?_,λj k c h m=>g.dis j k c (f h) (f m)⟩
 . by_cases a:j=i;.subst a;rw[ce hi]at q;cases q
   .rw[gM a]at q;exact g.val j p d q
 . by_cases a:j=i;.subst a;rw[ce hi]at q;cases q;cases o;exact g.own j _ _ e rfl
   .rw[gM a]at q;exact g.own j t l q o
theorem aL.bz{b:Bool}(g:GS K F ρ σ H)(e:ρ[i]?=ap (.own b ds))(s:aL K F (ρ.set i (.lent ds)) σ H F1 ρ1 σ1 H1):aL K F ρ σ H F1 (ρ1.set i (.own b ds)) σ1 H1/\∀v r,dR K F1 ρ1 σ1 H1 (ρ.set i (.lent ds)) σ H v r->dR K F1 (ρ1.set i (.own b ds)) σ1 H1 ρ σ H v r:=by
 have hi:i<ρ.length:=(gh e).1;have h1:(ρ.set i (.lent ds))[i]?=ap (.lent ds):=ce hi;obtain⟨E,G,A,I⟩:=s.lk i _ h1 rfl;cases(show G=.lent ds from I);have u:i<ρ1.length:=(gh A).1;have B:∀{j:Nat}{c:b_},bB (ρ.set i (.lent ds)) σ j c->bB ρ σ j c:=λ{j c}⟨⟨t,y,f,p⟩,m⟩=>by
  by_cases a:j=i;.subst a;exact⟨⟨_,_,e,rfl⟩,m⟩
  .rw[gM a]at f;exact⟨⟨t,y,f,p⟩,m⟩
 have J:∀{c:b_},Own ρ σ c->Own (ρ.set i (.lent ds)) σ c:=λ{c}⟨j,⟨t,y,f,p⟩,m⟩=>by
  by_cases a:j=i;.subst a;exact⟨j,⟨_,_,h1,rfl⟩,m⟩
  .exact⟨j,⟨t,y,by rw[gM a];exact f,p⟩,m⟩
 have z:∀{j:Nat}{c:b_},bB (ρ1.set i (.own b ds)) σ1 j c->bB ρ1 σ1 j c:=λ{j c}⟨⟨t,y,f,p⟩,m⟩=>by
  by_cases a:j=i;.subst a;exact⟨⟨_,_,A,rfl⟩,m⟩
  .rw[gM a]at f;exact⟨⟨t,y,f,p⟩,m⟩
 have w:∀{c:b_}{h:Hp},Own (ρ.set i (.lent ds)) σ c\/h c=none->Own ρ σ c\/h c=none:=λ{c h}q=>q.imp (λ⟨j,q⟩=>⟨j,B q⟩) id;have L:∀{c:b_}{h:Hp},Own (ρ.set i (.lent ds)) σ c\/nt (h c)=none->Own ρ σ c\/nt (h c)=none:=λ{c h}q=>q.imp (λ⟨j,q⟩=>⟨j,B q⟩) id;refine⟨⟨⟨s.gs.sub,by simp[s.gs.len],λj M d q=>?_,λj t y q C=>?_,λj k c f p=>s.gs.dis j k c (z f) (z p)⟩,s.cG,λc n N=>L (s.yR c n N),λc o q n=>s.keep c o q λ⟨j,x⟩=>n ⟨j,B x⟩,λc⟨j,q⟩=>w (s.yS c ⟨j,z q⟩),by simpa using s.len,λj t q l=>?_⟩,λv r h=>?_⟩
 . by_cases a:j=i;.subst a;rw[ce u]at q;cases q
   .rw[gM a]at q;exact s.gs.val j M d q
 . by_cases a:j=i;.subst a;rw[ce u]at q;cases q;cases C;exact s.gs.own j _ _ A rfl
   .rw[gM a]at q;exact s.gs.own j t y q C
 . by_cases a:j=i;.subst a;rw[e]at q;cases q;refine⟨E,_,ce u,?_⟩;cases b with|true=>exact .inl ⟨_,rfl⟩|false=>cases l
   .obtain⟨O,t',Q,U⟩:=s.lk j t (by rw[gM a];exact q) l;exact⟨O,t',by rw[gM a];exact Q,U⟩
 .cases r with|val d=>exact h|own es=>obtain⟨x,xs,f,p,m,W,X,Y⟩:=h;exact⟨x,xs,f,p,m,W,λ⟨j,q⟩=>X ⟨j,z q⟩,w Y⟩
theorem GS.give(g:GS K F ρ σ H)(e:ρ[i]?=ap (.own av ds)):∃v,σ[i]?=ap (ap v)/\aL K F ρ σ H F (ρ.set i .aW) σ H/\dR K F (ρ.set i .aW) σ H ρ σ H v (.own ds):=by
 have hi:i<ρ.length:=(gh e).1;obtain⟨a,xs,h1,s,u,w⟩:=g.pK i _ ds e rfl;have f:∀{j:Nat}{c:b_},bB (ρ.set i .aW) σ j c->bB ρ σ j c/\j≠i:=λ{j c}⟨⟨t,o,h,m⟩,q3⟩=>by
  by_cases b:j=i;.subst b;rw[ce hi]at h;cases h;cases m
  .rw[gM b]at h;exact⟨⟨⟨t,o,h,m⟩,q3⟩,b⟩
 have p:bB ρ σ i a:=⟨⟨_,_,e,rfl⟩,h1⟩;refine⟨.ref a,h1,⟨⟨g.sub,by simp[g.len],λj y d q=>?_,λj t o q r=>?_,λj k c h m=>g.dis j k c (f h).1 (f m).1⟩,.refl _,λc n z=>absurd n z,λ_ _ q _=>q,λc⟨j,q⟩=>.inl ⟨j,(f q).1⟩,by simp,λj t q l=>⟨rfl,?_⟩⟩,a,xs,rfl,s,u,w,λ⟨j,q⟩=>?_,.inl ⟨i,p⟩⟩
 . by_cases b:j=i;.subst b;rw[ce hi]at q;cases q
   .rw[gM b]at q;exact g.val j y d q
 . by_cases b:j=i;.subst b;rw[ce hi]at q;cases q;cases r
   .rw[gM b]at q;exact g.own j t o q r
 . by_cases b:j=i;.subst b;rw[e]at q;cases q;cases l
   .exact⟨t,by rw[gM b];exact q,.refl t⟩
 .exact(f q).2 (g.dis j i a (f q).1 p)
theorem GS.more{τ:List (Option V)}(g:GS K F ρ σ H)(w:τ.length=n):GS K F (ρ++cp n .aW) (σ++τ) H:=by
 have get:∀{j:Nat}{t:Sl},(ρ++cp n Sl.aW)[j]?=ap t->t≠.aW->ρ[j]?=ap t/\j<ρ.length:=λ{j t}q ne=>by
  by_cases h:j<ρ.length;.rw[dr h]at q;exact⟨q,h⟩
  . rw[fT (by lia),ih]at q;split at q;.cases q;exact absurd rfl ne
    .cases q
 have m:∀{j:Nat}{v:Option V},j<ρ.length->(σ[j]?=ap v↔(σ++τ)[j]?=ap v):=λ{j v}h=>by rw[dr (by rw[<-g.len];exact h)]
 have e:∀{j:Nat}{c:b_},bB (ρ++cp n .aW) (σ++τ) j c->bB ρ σ j c:=λ{j c}⟨⟨t,o,p,l⟩,q3⟩=>by obtain⟨h1,f⟩:=get p (by rintro rfl;cases l);exact⟨⟨t,o,h1,l⟩,(m f).mpr q3⟩
 refine⟨g.sub,by simp[g.len,w],λj b d q=>?_,λj t o q u=>?_,λj k c p l=>g.dis j k c (e p) (e l)⟩;.obtain⟨h1,f⟩:=get q (by simp);obtain⟨v,r,s⟩:=g.val j b d h1;exact⟨v,(m f).mp r,s⟩
 .obtain⟨h1,f⟩:=get q (by rintro rfl;cases u);obtain⟨a,xs,r,s⟩:=g.own j t o h1 u;exact⟨a,xs,(m f).mp r,s⟩
theorem aL.less{τ:List (Option V)}{m:Nat}(M:m=ρ.length)(g:GS K F ρ σ H)(hn:τ.length=n)(s:aL K F (ρ++cp n .aW) (σ++τ) H F1 ρ1 σ1 H1):aL K F ρ σ H F1 (ρ1.take m) (σ1.take m) H1/\∀v r,dR K F1 ρ1 σ1 H1 (ρ++cp n .aW) (σ++τ) H v r->dR K F1 (ρ1.take m) (σ1.take m) H1 ρ σ H v r:=by
 subst M;have N:ρ.length<=ρ1.length:=by rw[s.len];simp
 have l2:ρ.length<=σ1.length:=by rw[<-s.gs.len];exact N
 have A:∀{y:Type}{l:List y}{j:Nat}{x:y},(l.take ρ.length)[j]?=ap x->l[j]?=ap x/\j<ρ.length:=λ{y l j x}q=>by
  rw[lf]at q;split at q;.exact⟨q,by assumption⟩
  .cases q
 have C:∀{y:Type}{l:List y}{j:Nat}{x:y},j<ρ.length->l[j]?=ap x->(l.take ρ.length)[j]?=ap x:=λ{y l j x}f q=>by rw[lf,if_pos f];exact q
 have E:∀{c:b_},Own (ρ++cp n .aW) (σ++τ) c->Own ρ σ c:=λ{c}⟨j,⟨t,z,e,p⟩,u⟩=>by
  by_cases f:j<ρ.length;.rw[dr f]at e;rw[dr (by rw[<-g.len];exact f)]at u;exact⟨j,⟨t,z,e,p⟩,u⟩
  . rw[fT (by lia),ih]at e;split at e;.cases e;cases p
    .cases e
 have O:∀{c:b_},Own ρ σ c->Own (ρ++cp n .aW) (σ++τ) c:=λ{c}⟨j,⟨t,z,e,p⟩,u⟩=>by have f:j<ρ.length:=(gh e).1;exact⟨j,⟨t,z,by rw[dr f];exact e,p⟩,by rw[dr (by rw[<-g.len];exact f)];exact u⟩
 have B:∀{j:Nat}{c:b_},bB (ρ1.take ρ.length) (σ1.take ρ.length) j c->bB ρ1 σ1 j c:=λ{j c}⟨⟨t,z,e,p⟩,u⟩=>⟨⟨t,z,(A e).1,p⟩,(A u).1⟩;have w:∀{c:b_}{h:Hp},Own (ρ++cp n .aW) (σ++τ) c\/h c=none->Own ρ σ c\/h c=none:=λ{c h}q=>q.imp E id;have Q:∀{c:b_}{h:Hp},Own (ρ++cp n .aW) (σ++τ) c\/nt (h c)=none->Own ρ σ c\/nt (h c)=none:=λ{c h}q=>q.imp E id;refine⟨⟨⟨s.gs.sub,by simp only[ke];lia,λj b d q=>?_,λj t z q U=>?_,λj k c e p=>s.gs.dis j k c (B e) (B p)⟩,s.cG,λc a b=>Q (s.yR c a b),λc o q n=>s.keep c o q λx=>n (E x),λc⟨j,q⟩=>w (s.yS c ⟨j,B q⟩),by simp only[ke];lia,λj t q l=>?_⟩,λv r h=>?_⟩;.obtain⟨h1,G⟩:=A q;obtain⟨v,I,J⟩:=s.gs.val j b d h1;exact⟨v,C G I,J⟩
 .obtain⟨h1,G⟩:=A q;obtain⟨a,xs,I,J⟩:=s.gs.own j t z h1 U;exact⟨a,xs,C G I,J⟩
 .have f:j<ρ.length:=(gh q).1;obtain⟨L,t',W,X⟩:=s.lk j t (by rw[dr f];exact q) l;rw[dr (by rw[<-g.len];exact f)]at L;refine⟨?_,t',C f W,X⟩;rw[lf,if_pos f];exact L
 .cases r with|val d=>exact h|own es=>obtain⟨x,xs,e,p,u,Y,Z,q6⟩:=h;exact⟨x,xs,e,p,u,Y,λ⟨j,q⟩=>Z ⟨j,B q⟩,w q6⟩
end
section
variable{X:Cx}{c:Call}{n:Nat}{e a b d:da}{p pa pb pd:P}{pos:Pos}{es:List da}{ps:List P}
inductive ahd(K:PySem.W.Frag)(f:List Sl->Res (List Arg))(σ:_L.St)(H:Hp)(Q:List V->Hp->Prop):Prop where|mk(F:Hp)(ρ:List Sl)(as:List Arg)(ρ':List Sl)(g:GS K F ρ σ H)(e:f ρ=.ok as ρ')(k:∀vs F' H',aL K F ρ σ H F' ρ' σ H'->zL K F' ρ' σ H' ρ H as vs->Q vs H')
noncomputable def SG(X:Cx)(c:Call)(es:List da)(ps:List P):Prop:=PA X es (ahd X.K (Bg c ps))
theorem ao:SG X c [] []:=lU dC λσ H Q⟨F,ρ,as,ρ',g,e,k⟩=>by rw[Dn]at e;cases e;exact k [] F H (.refl g) .nil
theorem Rw(q:SX X c a pa)(hr:SG X c es ps)(hs:cj (a::es) X.env=(av,eg a X.env)::cj es X.env:=by rfl):SG X c (a::es) (pa::ps):=by cases hv:isVar pa with|none=>refine lU (bD q.ev hr hs) ?_;rintro σ H Q⟨F,ρ,as,ρ',g,e,k⟩;rw[xN,hv]at e;obtain⟨r,f,s,e⟩:=aj e;obtain⟨xs,h,j,e⟩:=aj e;cases e;refine⟨F,ρ,r,f,g,s,λv F1 B s1 t=>⟨F1,f,xs,_,s1.gs,j,λvs l m s2 A=>k _ l m (s1.trans s2) (zL.aar s1 t s2 A)⟩⟩|some i=>refine lU (bD (q.var i hv) hr hs) ?_;rintro σ H Q⟨F,ρ,as,ρ',g,e,k⟩;rw[xN,hv]at e;obtain⟨x0,u,w,e⟩:=aj e;obtain⟨o,y⟩:=aF w;subst y;obtain⟨xs,h,j,e⟩:=aj e;cases e;obtain⟨v,h1,_⟩:=g.pk o;exact⟨v,h1,F,ρ,xs,_,g,j,λvs l m s2 A=>k _ l m s2 (.cons h1 A λds x z=>by cases z)⟩
theorem Qw{k f:Nat}{t:b_}{fd:gz}{j:List Str}(J:iJ X.prog X.w X.K X.mg X.base Jc k t fd j (PB X.K j.length (c f)))(hr:jo k X.A)(L:Gl X x)(M:X.mg x=ap (.ref t))(N:keepIn X.K (.ref t)=bj)(O:Binds X.K fd j [])(U:SG X c (e::es) ps)(W:(e::es).length=j.length)(u:(x==("__debug__":Str))=av:=by decide)(he:cj (e::es) X.env=(av,eg e X.env)::cj es X.env:=by rfl)(hpl:(fS pos (cj es X.env)).any (·.1)=av:=by rfl)(y:ps.length=(e::es).length:=by rfl):SX X c (.Call (.Name x p') (e::es) [] pos) (.call f ps):=by
 refine⟨dh (tZ (E:=E0) J hr L M N O .nil SM U u he hpl) ?_,λi h=>by cases h⟩;rintro σ H Q⟨F,ρ,r,ρ',g,e,k⟩;rw[_H.E16]at e;obtain⟨as,z,G,e⟩:=aj e;unfold iR at e;split at e;.cases e
 . rename_i args m;split at e
   . rename_i r' l hc;cases e;refine⟨F,ρ,as,z,g,G,λvs F1 Y s1 A=>?_⟩;have o:vs.length=j.length:=by
      have:∀{ps:List P}{ρ ρ':List Sl}{as:List Arg},Bg c ps ρ=.ok as ρ'->as.length=ps.length:=by intro ps;induction ps with|nil=>intro ρ ρ' as h;rw[Dn]at h;cases h;rfl|cons q j I=>
         intro ρ ρ' as h;rw[xN]at h;split at h;.obtain⟨_,_,_,h⟩:=aj h;obtain⟨xs,B,C,h⟩:=aj h;cases h;simp[I C]
         .obtain⟨_,_,_,h⟩:=aj h;obtain⟨xs,B,C,h⟩:=aj h;cases h;simp[I C]
      rw[<-A.len,this G,y,W]
     show PB X.K j.length (c f) (vs++[]) Y Q E0;rw[hZ];refine⟨o,F1,args,r,l,args_gs s1.gs A m,hc,λv F' σ' H' s Z=>?_⟩;obtain⟨z1,z2⟩:=uf s1 A m s;exact k v F' H' z1 (z2 v r Z)
   .cases e
   .cases e
noncomputable def J3(K:PySem.W.Frag)(D:Ends)(F':Hp)(ρ':List Sl)(σ':_L.St)(H':Hp)(ρ:List Sl)(σ:_L.St)(H:Hp)(f:Fl):Prop:=match f with|.next=>D.nx σ' H'|.brk=>D.bk σ' H'|.cont=>D.ct σ' H'|.ret r=>∀v,dR K F' ρ' σ' H' ρ σ H v r->D.rt v H'
inductive tEx(K:PySem.W.Frag)(f:List Sl->Res Fl)(D:Ends)(σ:_L.St)(H:Hp):Prop where|mk(F:Hp)(ρ:List Sl)(fl:Fl)(ρ':List Sl)(g:GS K F ρ σ H)(e:f ρ=.ok fl ρ')(k:∀F' σ' H',aL K F ρ σ H F' ρ' σ' H'->J3 K D F' ρ' σ' H' ρ σ H fl)
noncomputable def SS(X:Cx)(c:Call)(n:Nat)(st:ek)(s:S):Prop:=PS X st (tEx X.K (ex c n s))
noncomputable def SB(X:Cx)(c:Call)(n:Nat)(st:List ek)(s:List S):Prop:=qp X st (tEx X.K (fJ c n s))
theorem cU{st:ek}{t t':TS}(h:PS X st t)(i:∀D σ H,t' D σ H->t D σ H):PS X st t':=λf s σ H D I q=>h f s σ H D I (i D σ H q)
theorem lA{st:List ek}{t t':TS}(h:qp X st t)(i:∀D σ H,t' D σ H->t D σ H):qp X st t':=λf s σ H D I q=>h f s σ H D I (i D σ H q)
theorem xs0{c:Call}:fJ c n [] ρ=.ok .next ρ:=rfl
theorem Tt{c:Call}{s:S}{r:List S}:fJ c n (s::r) ρ=(ex c n s ρ).bind λfl ρ=>match fl with|.next=>fJ c n r ρ|fl=>.ok fl ρ:=rfl
theorem aq:SB X c n [] []:=lA su λD σ H⟨F,ρ,fl,ρ',g,e,k⟩=>by rw[xs0]at e;cases e;exact k F σ H (.refl g)
theorem aQ{st:ek}{s:S}{f:List ek}{ss:List S}(h1:SS X c n st s)(o:SB X c n f ss):SB X c n (st::f) (s::ss):=by refine lA (jm h1 o) ?_;rintro D σ H⟨F,ρ,m,ρ',g,e,k⟩;rw[Tt]at e;obtain⟨f1,h,j,e⟩:=aj e;cases f1 with
 |next=>refine⟨F,ρ,.next,h,g,j,λF1 t z s1=>⟨F1,h,m,ρ',s1.gs,e,λu l w s2=>?_⟩⟩;have q:=k u l w (s1.trans s2);cases m with|next=>exact q|brk=>exact q|cont=>exact q|ret r=>exact λv y=>q v (y.later s1)
 |brk=>cases e;exact⟨F,ρ,.brk,_,g,j,k⟩|cont=>cases e;exact⟨F,ρ,.cont,_,g,j,k⟩|ret r=>cases e;exact⟨F,ρ,.ret r,_,g,j,k⟩
theorem Lb{st:ek}:SS X c n st .bad:=cU uO λD σ H⟨F,ρ,fl,ρ',g,e,k⟩=>by rw[_H.X4]at e;cases e
theorem dH(he:SX X c e p)(hs:eP e none pos.line X.env=eL av:=by rfl):SS X c n (.Expr e pos) (.expr p):=by refine cU (tG he.ev hs) ?_;rintro D σ H⟨F,ρ,l,ρ',g,e,k⟩;rw[_H.X5]at e;obtain⟨r,f,h,e⟩:=aj e;cases e;exact⟨F,ρ,r,_,g,h,λv F1 j s1 m=>k F1 σ j s1⟩
theorem abX{t1 t2:TE}(h1:PE X e t1)(g:PE X e t2):PE X e (λσ H Q=>t1 σ H Q\/t2 σ H Q):=λf s σ H Q I h=>h.elim (h1 f s σ H Q I) (g f s σ H Q I)
theorem WM(he:SX X c e p):SS X c n (.Return (ap e) pos) (.ret p):=by
 have plain:∀(D:Ends)(σ:_L.St)(H:Hp),(∃F ρ f ρ',GS X.K F ρ σ H/\((_H.ev c p ρ).bind λr ρ=>.ok (Fl.ret r) ρ)=.ok f ρ'/\∀F' σ' H',aL X.K F ρ σ H F' ρ' σ' H'->(match f with|.next=>D.nx σ' H'|.brk=>D.bk σ' H'|.cont=>D.ct σ' H'|.ret r=>∀v,dR X.K F' ρ' σ' H' ρ σ H v r->D.rt v H'))->yc X.K (_H.ev c p) σ H D.rt:=λD σ H⟨F,ρ,f,ρ',g,e,k⟩=>by obtain⟨r,h,j,e⟩:=aj e;cases e;exact⟨F,ρ,r,_,g,j,λv F1 l s1 m=>k F1 σ l s1 v m⟩
 cases hv:isVar p with|none=>refine cU (Cv he.ev) λD σ H⟨F,ρ,f,ρ',g,e,k⟩=>plain D σ H ⟨F,ρ,f,ρ',g,?_,k⟩;rw[_H.X11,hv]at e;exact e|some i=>--by the name itself:its own list is handed back,else its data
   have o:p=.var i:=by cases p<;>cases hv;rfl
   subst o;refine cU (Cv (abX (he.var i hv) he.ev)) ?_;rintro D σ H⟨F,ρ,f,ρ',g,e,k⟩;rw[_H.X11,hv]at e;dsimp only at e;split at e;.rename_i ds q;cases e;obtain⟨v,h1,s,t⟩:=g.give q;exact .inl ⟨v,h1,k F σ H s v t⟩
   .exact .inr (plain D σ H ⟨F,ρ,f,ρ',g,e,k⟩)
theorem dF{o s:List ek}{t u:List S}(hc:ST X c e p)(w:SB X c n o t)(y:SB X c n s u):SS X c n (.If e o s pos) (.ifs p t u):=by refine cU (FT hc w y) ?_;rintro D σ H⟨F,ρ,l,ρ',g,e,k⟩;rw[_H.X13]at e;obtain⟨x,j,z,e⟩:=aj e;refine⟨F,ρ,x,j,g,z,λF1 A s1=>?_⟩;have go:∀{f:List Sl->Res Fl},f j=.ok l ρ'->tEx X.K f D σ A:=λ{f}h=>⟨F1,j,l,ρ',s1.gs,h,λB m C s2=>by have q:=k B m C (s1.trans s2);cases l with|next=>exact q|brk=>exact q|cont=>exact q|ret r=>exact λv E=>q v (E.later s1)⟩;cases x with|true=>rw[if_pos rfl]at e;exact go e|false=>rw[if_neg dc]at e;exact go e
theorem lW{f:Pos}(l:X.N.Nodup)(hi:X.N[i]?=ap x)(m:Loc X.env.scope x)(he:SX X c e p)(hs:eP e (ap (.Name x f)) pos.line X.env=eL av:=by rfl)(o:X.fn x=bj\/X.env.scope.names.lookup x=ap .local:=by first|(left;rfl)|(right;rfl)|assumption):SS X c n (.Assign [.Name x f] e pos) (.asg i p):=by refine cU (jX l hi m he.ev hs o) ?_;rintro D σ H⟨F,ρ,z,ρ',g,e,k⟩;rw[_H.X6]at e;obtain⟨r,j,q,e⟩:=aj e;obtain⟨s,t,h,e⟩:=aj e;cases e;have u:=aF h;clear h;obtain⟨h,A⟩:=u;exact⟨F,ρ,r,j,g,q,λv F1 w s1 y=>k F1 _ w (s1.put y h)⟩
end
end _H
namespace _L
open PySem Spec PyProof.Rows
variable{env:Env}{scope:iE}{X:Cx}
noncomputable def rG(X:Cx)(scope:iE)(N':List Str)(cl:List (Str×b_))(C:b_)(s₀:bx)(H₀:Hp)(ex:List b_):Cx:={X with N:=N',s₀:=s₀,H₀:=H₀,env:=compEnvC scope cl C X.env,outer:=X.stack,stack:=X.stack,ex:=ex,fn:=λx=>scope.names.lookup x==ap .cell,pn:=[],xe:=λ_ _=>False}
theorem Dl(l:List (Str×j_)):∀(cs:List (Str×b_)),(∀n,(n,eJ)∈l->∃c,env.cells.lookup n=ap c)->(∀n c,cs.lookup n=ap c->env.cells.lookup n=ap c)->∃ cl,(forIn l cs (λ(x:Str × j_)(r:List (Str × b_))=>(if(x.2==eJ)=bj then(do let a<-cellOf env x.1;eL (hB ((x.1,a)::r)))else eL (hB r):Sem (ForInStep (List (Str × b_))))):Sem (List (Str × b_)))=eL cl/\(∀n c,cl.lookup n=ap c->env.cells.lookup n=ap c)/\(∀n,((n,eJ)∈l\/(cs.lookup n).isSome)->(cl.lookup n).isSome):=by induction l with|nil=>intro cs _ h;exact⟨cs,rfl,h,λn hn=>by rcases hn with hn|hn;cases hn;exact hn⟩|cons y l i=>
   obtain⟨n,k⟩:=y;intro cs b hc;rw[forIn_cons];by_cases f:k=.free
   . subst f;obtain⟨a,j⟩:=b n gX;obtain⟨cl,e,h1,g⟩:=i ((n,a)::cs) (λm hm=>b m (dL _ hm)) λm c hm=>by
      rw[ft]at hm;split at hm;.rename_i q;have q:=eq_of_beq q;subst q;cases hm;exact j
      .exact hc m c hm
     refine⟨cl,?_,h1,λm hm=>g m ?_⟩
     . rw[<-e];have:cellOf env n=eL a:=by unfold cellOf;rw[j]
       simp only[beq_self_eq_true,if_true,this];rfl
     . rcases hm with hm|hm
       . rcases de.mp hm with hm|hm;.cases hm;right;simp[ft]
         .exact .inl hm
       . right;rw[ft];split;.rfl
         .exact hm
   . obtain⟨cl,e,h1,g⟩:=i cs (λm hm=>b m (dL _ hm)) hc;refine⟨cl,?_,h1,λm hm=>g m ?_⟩
     . rw[<-e];have:(k==eJ)=av:=by simpa using f
       simp only[this,gc,if_false];rfl
     . rcases hm with hm|hm
       . rcases de.mp hm with hm|hm;.cases hm;exact absurd rfl f
         .exact .inl hm
       .exact .inr hm
theorem CZ(a:∀n,(n,eJ)∈scope.names->∃c,env.cells.lookup n=ap c):∃cl,closureFor scope env=eL cl/\(∀n c,cl.lookup n=ap c->env.cells.lookup n=ap c)/\∀n,(n,eJ)∈scope.names->(cl.lookup n).isSome:=by obtain⟨cl,e,h1,b⟩:=Dl (env:=env) scope.names [] a (by simp);refine⟨cl,?_,h1,λn f=>b n (.inl f)⟩;unfold closureFor;exact(congrArg (λt=>t>>=λr=>eL r) e).trans rfl
theorem gJ{env:Env}:∀(names:List (Str×j_))(x:Str),(names.map λ(n,k)=>if(k==eJ&&env.scope.kind==.function&&env.kindOf n==ap .cell)then(n,fR)else(n,k)).lookup x=(names.lookup x).map λk=>if(k==eJ&&env.scope.kind==.function&&env.kindOf x==ap .cell)=bj then fR else k
 |[],x=>rfl|(n,k)::r,x=>by
   have a:=gJ (env:=env) r x;show List.lookup x ((if(k==eJ&&env.scope.kind==.function&&env.kindOf n==ap .cell)=bj then(n,fR)else(n,k))::_)=_;by_cases hc:(k==eJ&&env.scope.kind==.function&&env.kindOf n==ap .cell)=bj;.rw[if_pos hc,ft,ft];cases hx:x==n with|true=>have:=eq_of_beq hx;subst this;show ap fR=ap (if _ then _ else _);rw[if_pos hc]|false=>exact a
   .rw[if_neg hc,ft,ft];cases hx:x==n with|true=>have:=eq_of_beq hx;subst this;show ap k=ap (if _ then _ else _);rw[if_neg hc]|false=>exact a
noncomputable def abF(N N':List Str)(a:iE):Bool:=(N.zip N').all λp=>(p.1==p.2&&a.names.lookup p.2==ap .free)||(a.names.lookup p.2!=ap .local&&a.names.lookup p.2!=ap .cell&&a.names.lookup p.2!=ap .free)
structure gC(X:Cx)(scope:iE)(N':List Str)(n:Nat):Prop where
 kind:scope.kind=.function
 cons:∀y∈scope.names,scope.names.lookup y.1=ap y.2
 names:∀y∈scope.names,y.2=.local->scope.names.lookup y.1=ap .local
 cap:∀y∈scope.names,y.2=.free->X.env.scope.names.lookup y.1=ap .cell\/X.env.scope.names.lookup y.1=ap .free
 len:N'.length=X.N.length+n
 same:abF X.N N' scope=bj
theorem gC.get{N':List Str}{n:Nat}(c:gC X scope N' n){i:Nat}{x:Str}(hi:i<X.N.length)(h:N'[i]?=ap x)(a:vR (iP scope X.env) x):X.N[i]?=ap x/\scope.names.lookup x=ap .free:=by
 have hz:(X.N.zip N')[i]?=ap (X.N[i],x):=by rw[hE];exact⟨by simp[hi],h⟩
 have:=(fg.mp c.same) _ (du hz);simp only[me,fb]at this;rcases this with⟨h1,b⟩|⟨⟨h1,b⟩,f⟩;.have h1:=eq_of_beq h1;have b:=eq_of_beq b;exact⟨by simp[hi,h1],b⟩
 . exfalso;have h1:scope.names.lookup x≠ap .local:=by simpa using h1
   have b:scope.names.lookup x≠ap .cell:=by simpa using b
   have f:scope.names.lookup x≠ap .free:=by simpa using f
   have e:=gJ (env:=X.env) scope.names x;have a:(iP scope X.env).names.lookup x=ap .local\/(iP scope X.env).names.lookup x=ap .cell\/(iP scope X.env).names.lookup x=ap .free:=a;rw[show(iP scope X.env).names.lookup x=_ from e]at a;cases q:scope.names.lookup x with|none=>rw[q]at a;simp at a|some k=>
     rw[q]at a h1 b f;have g:(k==eJ)=av:=by cases k<;>first|rfl|exact absurd rfl f
     simp only[ka,g,kL,gc,if_false,Option.some.injEq]at a;rcases a with rfl|rfl|rfl;.exact h1 rfl
     .exact b rfl
     .exact f rfl
structure CI(cl:List (Str×b_))(z:Nat)(h:ef)(acc:List (Str×b_)):Prop where from':∀n c,acc.lookup n=ap c->cl.lookup n=ap c\/(z<=c/\h.IsCell c none)inj:∀n n' c,acc.lookup n=ap c->acc.lookup n'=ap c->n=n'
theorem Jp{cl:List (Str×b_)}{z:Nat}(i:∀n c,cl.lookup n=ap c->c<z):∀(names:List (Str×j_))(h:ef)(f:List (Str×b_)),z<=h.objs.size->CI cl z h f->CI cl z (pushCells h names) (jB h.objs.size names f)/\(∀n,(f.lookup n).isSome->((jB h.objs.size names f).lookup n).isSome)/\(∀n,((∃c,f.lookup n=ap c/\z<=c)\/(n,fR)∈names)->∃c,(jB h.objs.size names f).lookup n=ap c/\z<=c)/\(∀n c,(n,fR)∉names->(jB h.objs.size names f).lookup n=ap c->f.lookup n=ap c)
 |[],h,f,hz,x=>by
   refine⟨x,λ_ q=>q,λn q=>?_,λ_ _ _ q=>q⟩;rcases q with q|q;.exact q
   .cases q|(name,kind)::r,h,f,hz,x=>by
   unfold pushCells jB;by_cases l:kind=.cell
   . subst l;rw[if_pos (by rfl),if_pos (by rfl)];have p:CI cl z (h.push {cls:=.type "cell",data:=.cell none}) ((name,h.objs.size)::f):=by
      have lt:∀n c,f.lookup n=ap c->c<h.objs.size:=λn c e=>by
       rcases x.from' n c e with q|q;.exact dE (i n c q) hz
       .exact q.2.lt
      refine⟨λn c e=>?_,λn m c e j=>?_⟩
      . rw[ft]at e;split at e;.cases e;exact .inr ⟨hz,_,dl _ rfl,rfl⟩
        . rcases x.from' n c e with q|q;.exact .inl q
          .exact .inr ⟨q.1,q.2.keeps λb o e=>iZ e⟩
      . rw[ft]at e j;split at e<;>split at j;.rename_i _ a _ b;rw[eq_of_beq a,eq_of_beq b]
        .cases e;exact absurd (lt m _ j) (g9 _)
        .cases j;exact absurd (lt n _ e) (g9 _)
        .exact x.inj n m c e j
     have g:=Jp i r (h.push {cls:=.type "cell",data:=.cell none}) ((name,h.objs.size)::f) (by rw[h9];lia) p;rw[h9]at g;refine⟨g.1,λn q=>g.2.1 n ?_,λn q=>g.2.2.1 n ?_,λn c q e=>?_⟩
     . rw[ft];split;.rfl
       .exact q
     . rcases q with⟨c,e,hc⟩|q
       . left;rw[ft];split;.exact⟨_,rfl,hz⟩
         .exact⟨c,e,hc⟩
       . rcases de.mp q with q|q;.cases q;left;exact⟨_,by simp[ft],hz⟩
         .exact .inr q
     . have:=g.2.2.2 n c (λz=>q (dL _ z)) e;rw[ft]at this;split at this;.rename_i a;exact absurd (by rw[eq_of_beq a];exact gX) q
       .exact this
   . have k:(kind==fR)=av:=by simpa using l
     rw[if_neg (by rw[k];decide),if_neg (by rw[k];decide)];have g:=Jp i r h f hz x;refine⟨g.1,g.2.1,λn q=>g.2.2.1 n ?_,λn c q e=>g.2.2.2 n c (λz=>q (dL _ z)) e⟩;rcases q with q|q;.exact .inl q
     . rcases de.mp q with q|q;.cases q;exact absurd rfl l
       .exact .inr q
structure Ka(X:Cx)(scope:iE)(z:Nat)(h:ef)(cs:List (Str×b_)):Prop where
 from':∀n c,cs.lookup n=ap c->X.env.cells.lookup n=ap c\/(z<c/\h.IsCell c none)inj:∀n n' c,cs.lookup n=ap c->cs.lookup n'=ap c->n=n'
 has:∀n,(scope.names.lookup n=ap .free\/scope.names.lookup n=ap .cell)->∃c,cs.lookup n=ap c
 fre:∀n c,scope.names.lookup n=ap .free->cs.lookup n=ap c->X.env.cells.lookup n=ap c
 own:∀n c,scope.names.lookup n=ap .cell->cs.lookup n=ap c->z<c
theorem G7{M:nv}{A:et}{E:bd->bx->Prop}{s:bx}{N':List Str}{n:Nat}{cl:List (Str×b_)}{Q:Env->bx->Prop}(ok:gC X scope N' n)(h:∀n c,X.env.cells.lookup n=ap c->c<s.heap.objs.size)(f:∀x y c,X.env.cells.lookup x=ap c->X.env.cells.lookup y=ap c->x=y)(a:∀n c,cl.lookup n=ap c->X.env.cells.lookup n=ap c)(l:∀n,(n,eJ)∈scope.names->(cl.lookup n).isSome)(m:∀ cs h',h'.Ns s.heap.objs.size (λ_=>none)->(∀ b o,s.heap.get? b=ap o->h'.get? b=ap o)->Ka X scope s.heap.objs.size h' cs->Q {scope:=scope,locals:=s.heap.objs.size,globals:=X.env.globals,cells:=cs,qual:=X.env.qual,func:=none,code:=X.env.code,frame:=X.env.frame,builtins:=X.env.builtins} {s with heap:=h'}):cH M A (nS scope X.env.globals cl [] X.env.qual none .none (ap X.env)) Q E s:=by
 simp only[nS,Option.isSome_some,if_true];refine a_ (wpAny_alloc ?_);refine a_ (wpAny_layCells _ (λname kind cells=>by cases i:kind==fR<;>simp[i]) _ _ _ _ ?_);have ck:=Jp (cl:=cl) (z:=s.heap.objs.size+1) (λn c e=>Nat.lt_succ_of_lt (h n c (a n c e))) scope.names (s.heap.push {cls:=.type "dict",data:=.dict #[]}) cl (by rw[h9];exact eU) ⟨λn c e=>.inl e,λn k c e g=>f n k c (a n c e) (a k c g)⟩;obtain⟨c1,c2,c3,c4⟩:=ck;rw[show({s with heap:=s.heap.push {cls:=.type "dict",data:=.dict #[]}}:bx).heap.objs.size=(s.heap.push {cls:=.type "dict",data:=.dict #[]}).objs.size from rfl];refine a_ ?_;rw[forIn_nil];refine cv (cv (m _ _ ((Heap.Ns.new s.heap (.type "dict")).keeps (pushCells_keeps _ _)) (λb o e=>pushCells_keeps _ _ b o (iZ e)) ⟨λn c e=>?_,c1.inj,λn q=>?_,λn c q e=>?_,λn c q e=>?_⟩))
 . rcases c1.from' n c e with z|z;.exact .inl (a n c z)
   .exact .inr ⟨z.1,z.2⟩
 . rcases q with q|q;.exact fV.mp (c2 n (l n (PySem.mem_of_lookup q)))
   .obtain⟨c,e,_⟩:=c3 n (.inr (PySem.mem_of_lookup q));exact⟨c,e⟩
 .refine a n c (c4 n c (λz=>?_) e);have:=ok.cons _ z;rw[q]at this;cases this
 .obtain⟨p,g,j⟩:=c3 n (.inr (PySem.mem_of_lookup q));rw[e]at g;cases g;exact j
section
variable{X:Cx}{pins:List (b_×Obj)}{σ:_L.St}{H:Hp}{s:bx}{scope:iE}{N':List Str}{n:Nat}{fp:List b_}{cl:List (Str×b_)}
theorem K1{h1:ef}{m:Str->Option bd}{t:Nat}{cs:List (Str×b_)}(ok:gC X scope N' n)(I:Inv X pins σ H s)(G:∀b∈fp,qP X pins H b/\b<s.heap.objs.size)(w:Ka X scope s.heap.objs.size h1 cs)(U:h1.Ns s.heap.objs.size m)(j:∀b u,s.heap.get? b=ap u->h1.get? b=ap u):Inv (rG X scope N' cs s.heap.objs.size s H fp) [] (σ++cp n none) H {s with heap:=h1,toks:=t}:=by
 have J:∀x,scope.names.lookup x=ap .free->(iP scope X.env).names.lookup x=ap .cell\/(iP scope X.env).names.lookup x=ap .free:=λx h=>by
  have e:=gJ (env:=X.env) scope.names x;rw[h]at e;have L:(iP scope X.env).names.lookup x=_:=e;rw[L];simp only[ka];split;.exact .inl rfl
  .exact .inr rfl
 refine⟨⟨I.ok.mod,ok.kind,I.ok.glob,I.ok.blt,eU,λx y c h1 W=>w.inj x y c h1 W,λx z=>?_,λx c h e=>lm (w.own x c (eq_of_beq (show(scope.names.lookup x==ap fR)=bj from h)) e),I.ok.hd,I.ok.frames,.inl rfl,λb B=>?_,I.bs,gT I.ok.IK I.sz,λb u e B=>?_,λb B M=>?_,I.stack,I.tE⟩,rfl,I.bare,Un.kept j,⟨m,U,λi x v Y C Z=>?_⟩,λx c e=>?_,I.hok.fresh (eU),λx c e=>?_,λp hp=>(by cases hp),I.hok.kept j,?_⟩;.--a acA name has its cell
   have z:(iP scope X.env).names.lookup x=ap .cell\/(iP scope X.env).names.lookup x=ap .free:=z;have e:=gJ (env:=X.env) scope.names x;have L:(iP scope X.env).names.lookup x=_:=e;rw[L]at z;refine w.has x ?_;cases q:scope.names.lookup x with|none=>rw[q]at z;simp at z|some k=>
     rw[q]at z;by_cases hk:k=.free;.rw[hk];exact .inl rfl
     . have g:(k==eJ)=av:=by simpa using hk
       simp only[ka,g,kL,gc,if_false,Option.some.injEq]at z;rcases z with rfl|rfl;.exact .inr rfl
       .exact absurd rfl hk
 . obtain⟨f,lt⟩:=G b B;refine⟨dP lt,λx c e=>?_⟩;rcases w.from' x c e with e|e;.exact f.2.2.2.2.1 x c e
   .rintro rfl;exact absurd (n4 e.1 lt) (g9 _)
 . obtain⟨f,lt⟩:=G b B;rcases f.2.2.2.1 with h|h;.exact I.ok.yP b u e h
   .have this:b<X.base.objs.size:=df e;exact absurd (dE this (gT I.ok.IK h)) (g9 _)
 . obtain⟨f,lt⟩:=G b B;rcases de.mp (I.uP b M)with h|h;.exact f.2.1 h
   .exact f.2.2.1 h
 .--the names
   have hi:i<σ.length:=by
    by_cases hi:i<σ.length;.exact hi
    .rw[fT (by lia),ih]at C;split at C<;>cases C
   rw[dr hi]at C;obtain⟨N,o⟩:=ok.get (by rw[<-I.len];exact hi) Y Z;have hk:=ok.cap (x,.free) (PySem.mem_of_lookup o) rfl;obtain⟨m0,ac,hl⟩:=I.loc;obtain⟨u,r,l⟩:=hl i x v N C (.inr hk);refine⟨u,r,.inr ⟨J x o,?_⟩⟩;rcases l with⟨g,_⟩|⟨_,c,hc,A⟩;.have g:X.env.scope.names.lookup x=ap .local:=g;rcases hk with hk|hk<;>(rw[g]at hk;cases hk)
   .obtain⟨c',E⟩:=w.has x (.inl o);have:=w.fre x c' o E;rw[hc]at this;cases this;refine⟨c,E,?_⟩;obtain⟨oc,O,Q⟩:=A;exact⟨oc,j c oc O,Q⟩
 . rcases w.from' x c e with e|e;.obtain⟨v,oc,O,Q⟩:=I.cell x c e;exact⟨v,oc,j c oc O,Q⟩
   .exact⟨_,e.2⟩
 . rcases w.from' x c e with e|e;.exact I.iQ x c e
   .exact I.hok.fresh (lm e.1)
 .show(σ++cp n none).length=N'.length;rw[d_,n_,I.len,ok.len]
theorem yM{prog:c_}{w:eh}{A:et}{R:Result->bx->Prop}{p a iter:da}{ifs:List da}{pos:Pos}{it q:bd}(I:Nat->bx->Prop)(t:∀ n s,I n s->cH (cM prog w) A (nM it) (λr b=>match r with|none=>R (.ok .next) b|some v=>cH (cM prog w) A (kX a it v) (λ_ b=>cH (cM prog w) A (ku a env v) (λ_ j=>cH (cM prog w) A (forIn ifs bj λc r=>if r=bj then do let ok<-isTrue c env (eg c env);eL (hB ok)else eL (hB r)) (λok g=>if ok=bj then cH (cM prog w) A (eg p env) (λx k=>cH (cM prog w) A (call (.builtin "list.append") [q,x]) (λ_ l=>∃m,m<n/\I m l) (mr (cM prog w) A env λe i=>R (.error e) i) k) (mr (cM prog w) A env λe i=>R (.error e) i) g else ∃m,m<n/\I m g) (mr (cM prog w) A env λe i=>R (.error e) i) j) (mr (cM prog w) A env λe i=>R (.error e) i) b) (mr (cM prog w) A env λe i=>R (.error e) i) b) (mr (cM prog w) A env λe i=>R (.error e) i) s)(n:Nat){s:bx}(h:I n s):kS (cM prog w) A (.compLoop (.ListComp p [⟨a,iter,ifs,0⟩] scope pos) 0 it q env) R s:=by refine codeAny_loop rfl I (λn s B=>?_) n h;show cH _ A ((compTurn (.ListComp p [⟨a,iter,ifs,0⟩] scope pos) 0 it q env).onRaise (λx=>do mW x env;theTreesLotGoes x)) _ _ s;refine wpAny_noted ?_;rw[compTurn_list];refine a_ (lT (a_ (dS (t n s B) (λr b f=>?_) λ_ _ h'=>h')));cases r with|none=>exact cv f|some v=>refine a_ (dS f (λ_ b f=>?_) λ_ _ h'=>h');refine a_ (dS f (λ_ j u=>a_ (dS u (λok g o=>?_) λ_ _ h'=>h')) λ_ _ h'=>h');cases ok with|false=>exact cv ⟨rfl,o⟩|true=>exact a_ (a_ (dS o (λx k y=>a_ (dS y (λ_ l z=>cv (cv ⟨rfl,z⟩)) λ_ _ h'=>h')) λ_ _ h'=>h'))
noncomputable def V2(X:Cx)(ifs:List da)(t:TT):Prop:=∀(pins:List (b_ × Obj))(s:bx)(σ:_L.St)(H:Hp)(Q:Bool->Hp->Prop),Inv X pins σ H s->t σ H Q->cH (cM X.prog X.w) X.A (forIn ifs bj λc r=>if r=bj then do let ok<-isTrue c X.env (eg c X.env);eL (hB ok)else eL (hB r)) (TP X pins σ Q) X.xe s
theorem Ra:V2 X [] (λ_ H Q=>Q bj H):=λpins s σ H Q I h=>wpAny_tests_nil ⟨H,I,h⟩
theorem O9{c:da}{t:TT}(h:PT X c t):V2 X [c] t:=λpins s σ H Q I q=>wpAny_tests_one (h pins s σ H Q I q)
noncomputable def Tg(J:It)(g:TG)(tt:TT)(te:TE)(D:b_)(Q:Hp->Prop)(W:Nat->Nat->List V->_L.St->Hp->Prop):Prop:=∀ i m ys σ H,W i m ys σ H->H D=ap (.lst ys)/\((J.stop i H/\Q H)\/(J.go i H/\∀ x e,J.Nm i H x e->g x σ e λa j=>tt a j λb f=>if b=bj then te a f λy h=>h D=ap (.lst ys)/\ys.length<sizeLine/\∃c,c<m/\W (i+1) c (ys++[y]) a (upd h D (.lst (ys++[y])))else ∃c,c<m/\W (i+1) c ys a f))
theorem wB{E:bd->bx->Prop}{ae a iter:da}{ifs:List da}{pos:Pos}{it:b_}{tn:Nat->ef->Prop}{J:It}{g:TG}{tt:TT}{te:TE}{Q:b_->Hp->Prop}{RR:bd->b_->Result->bx->Prop}(hc:X.calm=bj)(ok:gC X scope N' n)(I:Inv X pins σ H s)(br:∀n c,cl.lookup n=ap c->X.env.cells.lookup n=ap c)(Ds:∀n,(n,eJ)∈scope.names->(cl.lookup n).isSome)(T:Turn X.prog X.w X.K a J fp it tn)(h0:tn 0 s.heap)(hf:∀b∈fp,qP X pins H b)(hg:∀cl C s₀ H₀ ex,PG (rG X scope N' cl C s₀ H₀ ex) a g)(ht:∀cl C s₀ H₀ ex,V2 (rG X scope N' cl C s₀ H₀ ex) ifs tt)(he:∀cl C s₀ H₀ ex,PE (rG X scope N' cl C s₀ H₀ ex) ae te)(hw:∀D,H D=none->∃W,(∃m,W 0 m [] (σ++cp n none) (upd H D (.lst [])))/\Tg J g tt te D (Q D) W)(bt:∀D C l H',Q D H'->(∃m,l.heap.Ns C m)->qP X pins H' C->Inv X pins σ H' l->RR (.ref D) C (.ok .next) l):cH (cM X.prog X.w) X.A (newList []) (λaw ax=>cH (cM X.prog X.w) X.A (nS scope X.env.globals cl [] X.env.qual none .none (ap X.env)) (λai ay=>kS (cM X.prog X.w) X.A (.compStart (.ListComp ae [⟨a,iter,ifs,0⟩] scope pos) 0 (.ref it) aw {ai with scope:=iP scope X.env}) (RR aw ai.locals) ay) E ax) E s:=by
 refine ew (G7 ok (λx c e=>?lt) I.ok.inj br Ds (λcs G al hold bc=>?_));case lt=>obtain⟨v,z⟩:=I.cell x c e;exact dE z.lt (by show _<=(s.heap.push _).objs.size;rw[h9];exact le_succ _)
 dsimp only at al hold bc ⊢--the new list,tracked
 have I3:Inv X pins σ (upd H s.heap.objs.size (.lst [])) {s with heap:=s.heap.push {cls:=.type "list",data:=.seq ([]:List bd).toArray}}:=I.XH (t':=s.toks) .nil (xu);generalize am:({s with heap:=s.heap.push {cls:=.type "list",data:=.seq ([]:List bd).toArray}}:bx)=s3 at I3;have hsz:s3.heap.objs.size=s.heap.objs.size+1:=by rw[<-am];exact h9 _ _
 have Ub:s3.heap=s.heap.push {cls:=.type "list",data:=.seq ([]:List bd).toArray}:=by rw[<-am]
 obtain⟨W,⟨m0,w0⟩,aE⟩:=hw s.heap.objs.size I.fresh;have aI:∀{h':ef},(∀b o,s.heap.get? b=ap o->h'.get? b=ap o)->tn 0 h':=λk=>T.keep _ _ _ h0 λb j o e=>k b o e;have af:∀b∈fp,qP X pins (upd H s.heap.objs.size (.lst [])) b/\b<s3.heap.objs.size:=λb j=>by obtain⟨o,e,_⟩:=T.obj 0 _ h0 b j;have lt:=df e;obtain⟨f1,f2⟩:=hf b j;exact⟨⟨by rw[aH (dP lt)];exact f1,f2⟩,by rw[hsz];exact Nat.lt_succ_of_lt lt⟩
 rw[<-Ub]at al hold bc ⊢;have I4:=K1 (t:=s3.toks) ok I3 af bc al hold;have aS:∀b o,s.heap.get? b=ap o->G.get? b=ap o:=λb o e=>hold b o (by rw[Ub];exact iZ e);generalize N:rG X scope N' cs s3.heap.objs.size s3 (upd H s.heap.objs.size (.lst [])) fp=B at I4;have hA:B.A=X.A:=by rw[<-N];rfl
 have L:B.prog=X.prog:=by rw[<-N];rfl
 have M:B.w=X.w:=by rw[<-N];rfl
 have aT:B.K=X.K:=by rw[<-N];rfl
 have O:B.calm=bj:=by rw[<-N];exact hc
 have bv:B.xe=λ_ _=>False:=by rw[<-N];rfl
 have bi:B.env=compEnvC scope cs s3.heap.objs.size X.env:=by rw[<-N];rfl
 have bE:PG B a g:=by rw[<-N];exact hg _ _ _ _ _
 have bP:V2 B ifs tt:=by rw[<-N];exact ht _ _ _ _ _
 have bS:PE B ae te:=by rw[<-N];exact he _ _ _ _ _
 have ff:∀{H':Hp}{b:b_},b∈fp->H' b=none->qP B [] H' b:=λ{H' b}j hn=>by
  obtain⟨f,lt⟩:=af b j;rw[<-N];refine⟨hn,dP lt,λbX=>?_,.inl j,λx c e=>?_,λp hp=>by cases hp⟩
  . rcases de.mp (I3.uP b bX)with h|h;.exact f.2.1 h
    .exact f.2.2.1 h
  . rcases bc.from' x c e with e|e;.exact f.2.2.2.2.1 x c e
    .rintro rfl;exact absurd (n4 e.1 lt) (g9 _)--behind the block
 have fin:∀{σ':_L.St}{H':Hp}{l:bx},Inv B [] σ' H' l->Q s.heap.objs.size H'->RR (.ref s.heap.objs.size) s3.heap.objs.size (.ok .next) l:=λ{σ' H' l}U q=>by
  rw[<-N]at U;have hC:H' s3.heap.objs.size=none:=U.free;obtain⟨hh,gg,dd,cb,cf⟩:=l;have ci:cf=s3.os:=U.os;subst ci;refine bt _ _ _ H' q (let⟨m,hm,_⟩:=U.loc;⟨m,hm⟩) ?_ (I3.call (h':=hh) (g':=gg) (d':=dd) (t':=cb) (ch:=fp) U.base U.hok U.bare λb j=>?_);.exact I3.BJ (eU) hC
  .obtain⟨f,lt⟩:=af b j;exact⟨f.2.2.2.1,f.2.1,f.2.2.2.2.1,f.2.2.2.2.2⟩
 have Y:kS (cM X.prog X.w) X.A (.compLoop (.ListComp ae [⟨a,iter,ifs,0⟩] scope pos) 0 (.ref it) (.ref s.heap.objs.size) B.env) (RR (.ref s.heap.objs.size) s3.heap.objs.size) {s3 with heap:=G,toks:=s3.toks}:=by
  refine yM (λk l=>∃i ys σ' H',Inv B [] σ' H' l/\tn i l.heap/\(∀b∈fp,H' b=none)/\W i k ys σ' H') (λk s5 hI=>?_) m0 ⟨0,[],_,_,I4,aI aS,λb j=>(af b j).1.1,w0⟩;obtain⟨i,ys,ag,H5,I5,t5,f5,w5⟩:=hI;obtain⟨hD,ar⟩:=aE i k ys ag H5 w5;have ah:∀{Z:bd->bx->Prop},∀(e:bd)(l:bx),B.xe e l->Z e l:=λe l z=>by rw[bv]at z;exact e_ z
  rcases ar with⟨stop,q⟩|⟨go,step⟩;.have z:=T.done B L M aT O i [] s5 ag H5 (λ_ _=>False) I5 (λb j=>ff j (f5 b j)) t5 stop;rw[hA]at z;refine dS z (?_) λ_ _ z=>e_ z;rintro r s6⟨hr,I6⟩;subst hr;exact fin I6 q
  . have z:=T.item B L M aT O i [] s5 ag H5 (λ_ _=>False) I5 (λb j=>ff j (f5 b j)) t5 go;rw[hA]at z;refine dS z (?_) λ_ _ z=>e_ z;rintro r s6⟨u,hr,z6⟩;subst hr;refine dS z6 (?_) λ_ _ z=>e_ z;rintro _ s7⟨x,H7,I7,r7,y7,t7,f7⟩;have cn:=I7.pinned (λb j=>ff j (f7 b j)) (T.obj _ _ t7)--what the pins keep
    have back:∀{σ':_L.St}{H':Hp}{l:bx},Inv B ([]++uh fp s7.heap) σ' H' l->Inv B [] σ' H' l/\tn (i+1) l.heap/\∀b∈fp,H' b=none:=λ{σ' H' l}U=>by refine⟨U.pF,T.keep _ _ _ t7 λb j o e=>(U.pin (b,o) (eF _ (eF _ (lz j e)))).1,λb j=>?_⟩;obtain⟨o,e,_⟩:=T.obj _ _ t7 b j;exact(U.pin (b,o) (eF _ (eF _ (lz j e)))).2.1
    have z7:=bE _ s7 ag H7 x u _ cn r7 (step x H7 y7);rw[hA,L,M]at z7;refine dS z7 (?_) ah;rintro _ s8⟨ac,H8,I8,q8⟩;have z8:=bP _ s8 ac H8 _ I8 q8;rw[hA,L,M]at z8;refine dS z8 (?_) ah;rintro b s9⟨H9,I9,q9⟩;cases b with|false=>rw[if_neg dc]at q9 ⊢;obtain⟨m',hm,w'⟩:=q9;obtain⟨b1,b2,b3⟩:=back I9;exact⟨m',hm,i+1,ys,ac,H9,b1,b2,b3,w'⟩|true=>rw[if_pos rfl]at q9 ⊢;have z9:=bS _ s9 ac H9 _ I9 q9;rw[hA,L,M]at z9;refine dS z9 (?_) ah;rintro y qI⟨yv,bn,cr,cw,cx,bo,m',hm,w'⟩;have bp:=qM _ qI ac bn (.ref s.heap.objs.size) [yv] (.ref s.heap.objs.size) [y] (λv bq=>bq=upd bn s.heap.objs.size (.lst (ys++[yv]))) cr rfl (.cons cw .nil) ⟨_,ys,yv,rfl,rfl,cx,bo,rfl⟩;rw[hA,L,M]at bp;refine dS bp (?_) ah;rintro _ Oj⟨_,bq,cy,_,cE⟩;subst cE;obtain⟨b1,b2,b3⟩:=back cy;exact⟨m',hm,i+1,ys++[yv],ac,_,b1,b2,b3,w'⟩
 have e3:({s3 with heap:=G,toks:=s3.toks}:bx)={s with heap:=G}:=by rw[<-am]
 rw[bi,e3]at Y;exact codeAny_compStart_list Y (T.self _ 0 _ _ _ (aI aS) Y)
end
section
variable{X:Cx}{elt target iter:da}{ifs:List da}{scope:iE}{pos:Pos}{N':List Str}{n:Nat}{wi:TI}{g:TG}{tt:TT}{te:TE}
noncomputable def wQ(n:Nat)(wi:TI)(g:TG)(tt:TT)(te:TE):TE:=λσ H Q=>wi σ H λJ a=>∀D,a D=none->∃W,(∃m,W 0 m [] (σ++cp n none) (upd a D (.lst [])))/\Tg J g tt te D (λH'=>Q (.ref D) H') W
theorem pY{a:List (b_×Obj)}{σ:_L.St}{H:Hp}{s:bx}(I:Inv X a σ H s)(ok:gC X scope N' n):∃cl,closureFor scope X.env=eL cl/\(∀n c,cl.lookup n=ap c->X.env.cells.lookup n=ap c)/\∀n,(n,eJ)∈scope.names->(cl.lookup n).isSome:=CZ λm b=>I.ok.has m (ok.cap (m,.free) b rfl)
theorem Fy(hc:X.calm=bj)(ok:gC X scope N' n)(hi:PI X target iter wi)(p:∀cl C s₀ H₀ ex,PG (rG X scope N' cl C s₀ H₀ ex) target g)(r:∀cl C s₀ H₀ ex,V2 (rG X scope N' cl C s₀ H₀ ex) ifs tt)(he:∀cl C s₀ H₀ ex,PE (rG X scope N' cl C s₀ H₀ ex) elt te)(hs:∀x,eH iter X.env x=eL x:=by intro _;rfl):PE X (.ListComp elt [⟨target,iter,ifs,0⟩] scope pos) (wQ n wi g tt te):=by intro a s σ H Q I h;obtain⟨cl,c,i,t⟩:=pY I ok;rw[eval_ListComp];refine oo (use:=none) rfl hs c ok.kind ok.names (cN (hi a s σ H _ I h) λv s1 h1=>cN h1 λu s2 y=>?_);obtain⟨it,M,N,J,O,rfl,z,T,t0,f2,B⟩:=y;refine wB (Q:=λD H'=>Q (.ref D) H') (RR:=λj C=>compPost (cM X.prog X.w) X.A X.xe none (EP X a σ Q) j C) hc ok z i t T t0 f2 p r he B λD C E H' q k f G=>?_;obtain⟨m,k⟩:=k;refine⟨m,k,λh' l=>⟨.ref D,H',?_,rfl,q⟩⟩;exact G.turned (t':=E.toks) (λb o L e=>l.extBut b o L e) f.1 f.2.1 f.2.2.2.1 f.2.2.2.2.1 f.2.2.2.2.2
theorem yd{i:Nat}{x:Str}{c j:Pos}(hc:X.calm=bj)(O:X.N.Nodup)(r:X.N[i]?=ap x)(U:Loc X.env.scope x)(ok:gC X scope N' n)(hi:PI X target iter wi)(W:∀cl C s₀ H₀ ex,PG (rG X scope N' cl C s₀ H₀ ex) target g)(Y:∀cl C s₀ H₀ ex,V2 (rG X scope N' cl C s₀ H₀ ex) ifs tt)(he:∀cl C s₀ H₀ ex,PE (rG X scope N' cl C s₀ H₀ ex) elt te)(t:eP (.ListComp elt [⟨target,iter,ifs,0⟩] scope pos) (ap (.Name x c)) j.line X.env=eL bj)(hs:∀x,eH iter X.env x=eL x:=by intro _;rfl)(Z:X.fn x=bj\/X.env.scope.names.lookup x=ap .local:=by first|(left;rfl)|(right;rfl)|assumption):PS X (.Assign [.Name x c] (.ListComp elt [⟨target,iter,ifs,0⟩] scope pos) j) (WW (wQ n wi g tt te) (lZ i)):=by
 intro f s σ H D I h;obtain⟨cl,k,u,Ds⟩:=pY I ok;rw[exec_Assign_Name_used _ _ _ _ t];refine a_ (lT (a_ ?_));show cH _ X.A (do let _<-comprehension (.ListComp elt [⟨target,iter,ifs,0⟩] scope pos) scope X.env _ (newList []) av (eg iter X.env) (ap (ku (.Name x c) X.env))) _ _ s;refine a_ (dS (oo (use:=ap (ku (.Name x c) X.env)) (Q:=λ_ p=>SP X f D .next p) rfl hs k ok.kind ok.names (cN (hi f s σ H _ I h) λv s1 h1=>cN h1 λac s2 h2=>?_)) (λ_ p hq=>cv (cv hq)) λ_ _ e=>e);obtain⟨it,fp,tn,J,H2,rfl,I2,T,t0,f2,hw⟩:=h2;refine wB (Q:=λDa H'=>D.nx (σ.set i (ap (.ref Da))) H') (RR:=λy C=>compPost (cM X.prog X.w) X.A X.xe (ap (ku (.Name x c) X.env)) (λ_ p=>SP X f D .next p) y C) hc ok I2 u Ds T t0 f2 W Y he hw λDa C p H' q B l I'=>?_;obtain⟨m,B⟩:=B;show cH _ X.A (ku (.Name x c) X.env (.ref Da)) _ _ _;refine wpAny_assign_Name (wz I' O r U (show RelV (.ref Da) (.ref Da)from rfl) (?_) Z);rintro E G⟨a,sb,ha⟩;have L:C≠a:=by
  rcases ha with rfl|ha;.exact l.2.1
  .exact λz=>l.2.2.2.2.1 x a ha z.symm
 refine⟨m,B.sameBut sb L,λh' M=>⟨_,H',?_,q⟩⟩;exact G.turned (t':=E.toks) (λb o hb e=>M.extBut b o hb e) l.1 l.2.1 l.2.2.2.1 l.2.2.2.2.1 l.2.2.2.2.2
noncomputable def agJ(K:PySem.W.Frag)(c:TE):TI:=λσ H R=>c σ H λx b=>∃a,x=.ref a/\(((∃xs,gq K b a xs)/\R (Ws K a) b)\/((∃xs,nU K b a xs)/\R (ZF K a) b))
theorem yK{u l:da}{r:TE}(w:PE X l r):PI X u l (agJ X.K r):=by
 intro f s σ H R I h;refine cN (w f s σ H _ I h) ?_;rintro v s1⟨x,t,c,r1,j⟩;obtain⟨a,e,j⟩:=j;subst e;cases r1;rcases j with⟨⟨xs,k⟩,q⟩|⟨⟨xs,k⟩,q⟩
 . obtain⟨i,y,p,hz⟩:=c.list k;refine kc p.isList ?_;refine⟨s1.heap.objs.size,[s1.heap.objs.size],_,_,t,rfl,c.kept (t':=s1.toks) λb o e=>iZ e,Ib a _,⟨_,dl _ rfl,rfl,rfl⟩,λb m=>?_,q⟩;have e:b=s1.heap.objs.size:=by simpa using m
   subst e;exact c.BJ (eU) (c.hok.fresh (eU))
 . obtain⟨i,y,p,hz⟩:=c.tuple k;refine gI (show s1.heap.IsTuple a i.toArray from p) ?_;refine⟨s1.heap.objs.size,[s1.heap.objs.size],_,_,t,rfl,c.kept (t':=s1.toks) λb o e=>iZ e,Cq a _,⟨_,dl _ rfl,rfl,rfl⟩,λb m=>?_,q⟩;have e:b=s1.heap.objs.size:=by simpa using m
   subst e;exact c.BJ (eU) (c.hok.fresh (eU))
end
end _L
namespace _H
open PySem _L Spec PyProof.Rows
variable{v:V}{i m:Nat}{K:PySem.W.Frag}{F H:Hp}{ρ:List Sl}{σ:_L.St}{x:Str}{p':Pos}{is:List Nat}{ds:List D}{s:bx}{A:et}{u':bd}
structure Walk(K:PySem.W.Frag)(F:Hp)(ρ:List Sl)(σ:_L.St)(H:Hp)(ul:List Sl->List Sl)(J:It)(ds:List D)(F1:Hp)(ρ1:List Sl)(H1:Hp):Prop where
 gs:GS K F1 ρ1 σ H1
 src:∀(n k:Nat)(F':Hp)(ρ':List Sl)(σ':_L.St)(H':Hp),aL K F1 (ρ1++cp n .aW) (σ++cp n none) H1 F' ρ' σ' H'->(∀d,ds[k]?=ap d->J.go k H'/\∀x nY,J.Nm k H' x nY->∃F'',Ext F' H' F'' nY/\Rep K F'' x d)/\(ds.length<=k->J.stop k H')fin:∀F2 ρ2 σ2 H2,aL K F1 ρ1 σ H1 F2 ρ2 σ2 H2->aL K F ρ σ H F2 (ul ρ2) σ2 H2/\∀v r,dR K F2 ρ2 σ2 H2 ρ1 σ H1 v r->dR K F2 (ul ρ2) σ2 H2 ρ σ H v r
inductive tIt(K:PySem.W.Frag)(iv:Option Nat)(f:Ev)(σ:_L.St)(H:Hp)(R:It->Hp->Prop):Prop where|mk(F:Hp)(ρ:List Sl)(ds:List D)(ρ1:List Sl)(g:GS K F ρ σ H)(e:srcOf iv f ρ=.ok ds ρ1)(k:∀J F1 H1,Walk K F ρ σ H (bz ρ iv) J ds F1 ρ1 H1->R J H1)
section
variable{K:PySem.W.Frag}{F F1 H H1:Hp}{ρ ρ1:List Sl}{σ:_L.St}{ds:List D}{a:b_}
theorem Ej{xs:List V}{F' H':Hp}(c:nU K H' a xs)(r:aN K F' xs ds)(s:aJ F' H')(k:Nat):(∀d,ds[k]?=ap d->(ZF K a).go k H'/\∀x f,(ZF K a).Nm k H' x f->∃b,Ext F' H' b f/\Rep K b x d)/\(ds.length<=k->(ZF K a).stop k H'):=by refine⟨λd hd=>?_,λh=>⟨xs,c,by rw[r.length];exact h⟩⟩;obtain⟨w,h1,g⟩:=r.get hd;refine⟨⟨xs,w,c,h1⟩,?_⟩;rintro x f⟨e,y⟩;subst e;have:=y xs c;rw[h1]at this;cases this;exact⟨F',.refl s,g⟩
theorem uM{xs:List V}{F' H':Hp}(c:gq K H' a xs)(r:aN K F' xs ds)(s:aJ F' H')(k:Nat):(∀d,ds[k]?=ap d->(Ws K a).go k H'/\∀x f,(Ws K a).Nm k H' x f->∃b,Ext F' H' b f/\Rep K b x d)/\(ds.length<=k->(Ws K a).stop k H'):=by refine⟨λd hd=>?_,λh=>⟨xs,c,by rw[r.length];exact h⟩⟩;obtain⟨w,h1,g⟩:=r.get hd;refine⟨⟨xs,w,c,h1⟩,?_⟩;rintro x f⟨e,y⟩;subst e;have:=y xs c;rw[h1]at this;cases this;exact⟨F',.refl s,g⟩
theorem Ay{ul:List Sl->List Sl}{d:D}(s:aL K F ρ σ H F1 ρ1 σ H1)(r:Rep K F1 v d)(hi:items d=ap ds)(fin:∀f b c g,aL K F1 ρ1 σ H1 f b c g->aL K F ρ σ H f (ul b) c g/\∀v r,dR K f b c g ρ1 σ H1 v r->dR K f (ul b) c g ρ σ H v r):∃a,v=.ref a/\(((∃xs,gq K H1 a xs)/\Walk K F ρ σ H ul (Ws K a) ds F1 ρ1 H1)\/((∃xs,nU K H1 a xs)/\Walk K F ρ σ H ul (ZF K a) ds F1 ρ1 H1)):=by cases d with|tup es=>cases hi;rw[Rep]at r;obtain⟨a,xs,rfl,h1,h⟩:=r;exact⟨a,rfl,.inr ⟨⟨xs,aJ.jq s.gs.sub h1⟩,s.gs,λn k F' j σ' H' e=>Ej (aJ.jq e.gs.sub (aJ.jq e.cG h1)) (h.mono e.cG) e.gs.sub k,fin⟩⟩|lst es=>cases hi;rw[Rep]at r;obtain⟨a,xs,rfl,h1,h⟩:=r;exact⟨a,rfl,.inl ⟨⟨xs,s.gs.sub.seq h1⟩,s.gs,λn k F' j σ' H' e=>uM (e.gs.sub.seq (e.cG.seq h1)) (h.mono e.cG) e.gs.sub k,fin⟩⟩|_=>cases hi
theorem wU{ul:List Sl->List Sl}(g:GS K F ρ1 σ H)(e:ρ1[i]?=ap (.lent ds))(fin:∀f b c h,aL K F ρ1 σ H f b c h->aL K F ρ σ H f (ul b) c h/\∀v r,dR K f b c h ρ1 σ H v r->dR K f (ul b) c h ρ σ H v r):∃a,σ[i]?=ap (ap (.ref a))/\(∃xs,gq K H a xs)/\Walk K F ρ σ H ul (Ws K a) ds F ρ1 H:=by obtain⟨a,xs,h1,p,B,C⟩:=g.pK i _ ds e rfl;have hi:i<ρ1.length:=(gh e).1;refine⟨a,h1,⟨xs,gq.of p⟩,g,λn k F' q σ' H' j=>?_,fin⟩;obtain⟨l,t,u,w⟩:=j.lk i _ (by rw[dr hi];exact e) rfl;cases(show t=.lent ds from w);rw[dr (by rw[<-g.len];exact hi),h1]at l;obtain⟨E,ys,o,y,G,z⟩:=j.gs.pK i _ ds u rfl;rw[l]at o;cases o;exact uM (gq.of y) z j.gs.sub k
end
section
variable{X:Cx}{c:Call}{n:Nat}{e a b d tg:da}{p pa pb pd:P}{pos:Pos}
theorem n6{t t':TI}(h:PI X tg e t)(i:∀σ H R,t' σ H R->t σ H R):PI X tg e t':=λf s σ H R I q=>h f s σ H R I (i σ H R q)
noncomputable def SI(X:Cx)(c:Call)(tg e:da)(p:P):Prop:=PI X tg e (tIt X.K (isVar p) (_H.ev c p))
theorem cJ(h:SX X c e p):SI X c tg e p:=by unfold SI;cases hv:isVar p with|none=>refine n6 (yK h.ev) ?_;rintro σ H R⟨F,ρ,ds,u,g,e,k⟩;obtain⟨r,f,L,t⟩:=aj e;have y:=aF t;clear t;obtain⟨t,B⟩:=y;subst B;refine⟨F,ρ,r,_,g,L,λv F' H' s C=>?_⟩;obtain⟨l,s2,_,M⟩:=s.eN C;obtain⟨a,E,G⟩:=Ay (ul:=bz ρ none) s2 M t λU N O W s3=>⟨s2.trans s3,λv r C=>C.later s2⟩;exact⟨a,E,G.imp (λ⟨z,w⟩=>⟨z,k _ _ _ w⟩) (λ⟨z,w⟩=>⟨z,k _ _ _ w⟩)⟩|some i=>
   refine n6 (yK (h.var i hv)) ?_;rintro σ H R⟨F,ρ,ds,u,g,e,k⟩;unfold srcOf at e;dsimp only at e;split at e
   . rename_i b d q;have y:=aF e;clear e;obtain⟨t,B⟩:=y;subst B;obtain⟨v,h1,Q⟩:=g.val i b d q;have fin:∀l f j o,aL X.K F ρ σ H l f j o->aL X.K F ρ σ H l (bz ρ (ap i) f) j o/\∀v r,dR X.K l f j o ρ σ H v r->dR X.K l (bz ρ (ap i) f) j o ρ σ H v r:=λl f j o s=>by unfold bz;dsimp only;rw[q];exact⟨s,λ_ _ z=>z⟩
     obtain⟨a,E,G⟩:=Ay (ul:=bz ρ (ap i)) (.refl g) Q t fin;exact⟨v,h1,a,E,G.imp (λ⟨z,w⟩=>⟨z,k _ _ _ w⟩) (λ⟨z,w⟩=>⟨z,k _ _ _ w⟩)⟩
   . rename_i b I q;cases e;have hi:i<ρ.length:=(gh q).1;have fin:∀l f j o,aL X.K F (ρ.set i (.lent ds)) σ H l f j o->aL X.K F ρ σ H l (bz ρ (ap i) f) j o/\∀v r,dR X.K l f j o (ρ.set i (.lent ds)) σ H v r->dR X.K l (bz ρ (ap i) f) j o ρ σ H v r:=λl f j o s=>by unfold bz;dsimp only;rw[q];exact aL.bz g q s
     obtain⟨a,h1,J,w⟩:=wU (ul:=bz ρ (ap i)) (g.lend q) (ce hi) fin;exact⟨_,h1,a,rfl,.inl ⟨J,k _ _ _ w⟩⟩
   . rename_i I q;cases e;have fin:∀l f j o,aL X.K F ρ σ H l f j o->aL X.K F ρ σ H l (bz ρ (ap i) f) j o/\∀v r,dR X.K l f j o ρ σ H v r->dR X.K l (bz ρ (ap i) f) j o ρ σ H v r:=λl f j o s=>by unfold bz;dsimp only;rw[q];exact⟨s,λ_ _ z=>z⟩
     obtain⟨a,h1,J,w⟩:=wU (ul:=bz ρ (ap i)) g q fin;exact⟨_,h1,a,rfl,.inl ⟨J,k _ _ _ w⟩⟩
   .cases e
theorem Ar{F1 g:Hp}{f:List Sl}(s:aL K F ρ σ H F1 f σ g)(i j:Int):Walk K F ρ σ H (bz ρ none) (YQ i (j-i).toNat) ((eu (j-i).toNat).map λ(k:Nat)=>D.int (i+(k:Int))) F1 f g:=by
 refine⟨s.gs,λn k F' o σ' H' q=>⟨λd hd=>?_,λh=>?_⟩,λE t u G s3=>⟨s.trans s3,λv r w=>w.later s⟩⟩;.rw[eW]at hd;obtain⟨m,y,z⟩:=map_some hd;obtain⟨h1,l⟩:=gh y;rw[List.getElem_range]at l;subst l;subst z;rw[kR]at h1;refine⟨h1,?_⟩;rintro x I⟨B,C⟩;subst B;subst C;exact⟨F',.refl q.gs.sub,cL _⟩
 .rw[dV,kR]at h;exact h
theorem iy(t:x="range")(u:Gl X x)(w:X.mg x=none)(y:SX X c a pa)(hs:cj [a] X.env=[(av,eg a X.env)]:=by rfl):SI X c tg (.Call (.Name x p') [a] [] pos) (.vD (.con (.int 0)) pa):=by
 subst t;obtain⟨O,h1,z⟩:=y.dG;refine n6 (xj u w (bD h1 dC hs) hs) ?_;rintro σ H R⟨F,ρ,ds,B,g,e,k⟩;obtain⟨r,C,q,h⟩:=aj e;have l:=aF h;clear h;obtain⟨h,E⟩:=l;subst E;rw[_H.E21]at q;obtain⟨Q,G,I,f⟩:=aj q;have l:=aF f;clear f;obtain⟨f,J⟩:=l;subst J;obtain⟨U,L,M,o⟩:=aj I;cases o;obtain⟨i,f1,f⟩:=dj f;obtain⟨j,f2,f⟩:=dj f;obtain⟨⟨b1,b2,b3,b4⟩,f⟩:=bU f;have f1:i=0:=by cases f1;rfl
 subst f1;subst f;cases h;cases dZ f2;refine z g M λv F' H' s N=>⟨j,by rw[N.int],by lia,by lia,?_⟩;have:=Ar s 0 j;rw[qc]at this;refine k _ F' H' ?_;rw[qc];exact this
theorem QV(y:x="range")(z:Gl X x)(B:X.mg x=none)(C:SX X c a pa)(E:SX X c b pb)(hs:cj [a,b] X.env=[(av,eg a X.env),(av,eg b X.env)]:=by rfl)(h:cj [b] X.env=[(av,eg b X.env)]:=by rfl):SI X c tg (.Call (.Name x p') [a,b] [] pos) (.vD pa pb):=by subst y;obtain⟨U,W,h1,G,I⟩:=C.kI E;refine n6 (GR z B (bD h1 (bD G dC h) (by rw[hs,h])) hs h) ?_;rintro σ H R⟨F,ρ,ds,J,g,e,k⟩;obtain⟨r,L,o,l⟩:=aj e;have q:=aF l;clear l;obtain⟨l,M⟩:=q;subst M;rw[_H.E21]at o;obtain⟨Y,N,O,f⟩:=aj o;have q:=aF f;clear f;obtain⟨f,Q⟩:=q;subst Q;obtain⟨i,f1,f⟩:=dj f;obtain⟨j,f2,f⟩:=dj f;obtain⟨⟨b1,b2,b3,b4⟩,f⟩:=bU f;subst f;cases l;refine I g O λv u F' H' s t w=>⟨i,j,?_,by lia,k _ F' H' (Ar s i j)⟩;have o:=dZ f1;have l:=dZ f2;rw[o]at t;rw[l]at w;rw[t.int,w.int]
end
section
variable{X:Cx}{c:Call}{n:Nat}{e a b d tg iter:da}{p pa pb pd:P}{pos:Pos}{body:List ek}{ss:List S}
noncomputable def G5(K:PySem.W.Frag)(h:List Sl->D->Option (List Sl))(g:TG):Prop:=∀(x:V)(d:D)(F:Hp)(ρ f:List Sl)(σ:_L.St)(H:Hp)(Q:_L.St->Hp->Prop),GS K F ρ σ H->Rep K F x d->h ρ d=ap f->(∀σ',aL K F ρ σ H F f σ' H->Q σ' H)->g x σ H Q
theorem xY(i:Nat):G5 K (λρ d=>put ρ i (.val av d)) (lZ i):=λx d F ρ f σ H Q g r h k=>k _ (aL.put (r:=.val d) (.refl g) r h)
theorem bA:∀(is:List Nat)(gs:Iw),(∀(xs:List V)(ds:List D)(F:Hp)(ρ f:List Sl)(σ:_L.St)(H:Hp)(Q:_L.St->Hp->Prop),GS K F ρ σ H->aN K F xs ds->putAll ρ is ds=ap f->(∀σ',aL K F ρ σ H F f σ' H->Q σ' H)->gs xs σ H Q)->∀i,∀(xs:List V)(ds:List D)(F:Hp)(ρ f:List Sl)(σ:_L.St)(H:Hp)(Q:_L.St->Hp->Prop),GS K F ρ σ H->aN K F xs ds->putAll ρ (i::is) ds=ap f->(∀σ',aL K F ρ σ H F f σ' H->Q σ' H)->JF (lZ i) gs xs σ H Q:=by intro is gs l i xs ds F ρ f σ H Q g r h k;cases ds with|nil=>simp[mO,lC,qg,qt]at h|cons d ds=>obtain⟨v,vs,rfl,h1,o⟩:=r.dB;rw[lC]at h;obtain⟨j,q,t⟩:=dj h;have s1:=aL.put (r:=.val d) (.refl g) h1 q;refine⟨v,vs,rfl,l vs ds F j f _ H _ s1.gs o t λσ' s2=>k σ' (s1.trans s2)⟩
theorem fC:∀(xs:List V)(ds:List D)(F:Hp)(ρ f:List Sl)(σ:_L.St)(H:Hp)(Q:_L.St->Hp->Prop),GS K F ρ σ H->aN K F xs ds->putAll ρ [] ds=ap f->(∀σ',aL K F ρ σ H F f σ' H->Q σ' H)->Wm xs σ H Q:=by intro xs ds F ρ f σ H Q g r h k;cases ds with|nil=>rw[mO]at h;cases h;exact⟨r.iY,k σ (.refl g)⟩|cons d ds=>simp[mO,lC,qg,qt]at h
theorem oH:∀{is:List Nat}{ds:List D}{ρ f:List Sl},putAll ρ is ds=ap f->ds.length=is.length|[],[],_,_,_=>rfl|[],_::_,_,_,h=>by simp[mO,lC,qg,qt]at h|_::_,[],_,_,h=>by simp[mO,lC,qg,qt]at h|i::is,d::ds,ρ,f,h=>by rw[lC]at h;obtain⟨g,k,j⟩:=dj h;simp[oH j]
theorem gZ{gs:Iw}(o:m=is.length)(h:∀(xs:List V)(ds:List D)(F:Hp)(ρ f:List Sl)(σ:_L.St)(H:Hp)(Q:_L.St->Hp->Prop),GS K F ρ σ H->aN K F xs ds->putAll ρ is ds=ap f->(∀σ',aL K F ρ σ H F f σ' H->Q σ' H)->gs xs σ H Q):G5 K (λρ d=>cO ρ is av d) (Va K m gs):=by intro x d F ρ f σ H Q g r j k;replace j:cO ρ is av d=ap f:=j;cases d with|tup ds=>replace j:putAll ρ is ds=ap f:=j;rw[Rep]at r;obtain⟨a,xs,rfl,h1,l⟩:=r;exact⟨a,xs,rfl,aJ.jq g.sub h1,by rw[l.length,oH j,o],h xs _ F ρ f σ H Q g l j k⟩|_=>cases j
theorem lu{g:TG}{one:Bool}(hp:gy (cM X.prog X.w) X.A X.env X.xe)(hc:X.calm=bj)(hi:SI X c tg iter p)(hg:PG X tg g)(U:G5 X.K (λρ d=>cO ρ is one d) g)(hb:SB X c n body ss)(hs:∀x,eH iter X.env x=eL x:=by intro _;rfl):SS X c n (.For tg iter body [] pos) (.j6 p is one ss):=by
 refine cU (Bj hp hc hi hg hb hs) ?_;rintro D σ H⟨F,ρ,fl,o,g0,e,k⟩;rw[_H.X14]at e;obtain⟨ds,j,e1,e⟩:=aj e;obtain⟨ac,B,e2,e⟩:=aj e;cases e;refine⟨F,ρ,ds,j,g0,e1,λJ F1 W w=>?_⟩;have src:∀(i:Nat)(F':Hp)(o:List Sl)(σ':_L.St)(H':Hp),aL X.K F1 j σ W F' o σ' H'->(∀d,ds[i]?=ap d->J.go i H'/\∀x nY,J.Nm i H' x nY->∃C,Ext F' H' C nY/\Rep X.K C x d)/\(ds.length<=i->J.stop i H'):=λi F' o σ' H' s=>w.src 0 i F' o σ' H' (by simpa using s);refine⟨λi m l M=>∃u f,aL X.K F1 j σ W u f l M/\m=ds.length-i/\i<=ds.length/\lB is one (fJ c n ss) (ds.drop i) f=.ok fl B,⟨_,F1,j,.refl w.gs,rfl,xu,e2⟩,?_⟩;rintro i m l M⟨u,f,N,rfl,ae,h⟩;obtain⟨s1,s2⟩:=src i u f l M N;by_cases q:i<ds.length
 . right;have hd:ds[i]?=ap ds[i]:=by simp[q]
   obtain⟨go,step⟩:=s1 _ hd;refine⟨go,λσ' H'=>∃m',m'<ds.length-i/\∃u f,aL X.K F1 j σ W u f σ' H'/\m'=ds.length-(i+1)/\i+1<=ds.length/\lB is one (fJ c n ss) (ds.drop (i+1)) f=.ok fl B,λσ' H' z=>z,λx H' y=>?_⟩;obtain⟨F2,ext,rx⟩:=step x H' y;have E:=N.trans (ext.stp N.gs);rw[f_ q,Di]at h;cases hbd:cO f is one ds[i]with|none=>rw[hbd]at h;cases h|some G=>rw[hbd]at h;obtain⟨I,t,eb,h⟩:=aj h;refine U x _ F2 f G l H' _ E.gs rx hbd λaf sb=>?_;have Y:=E.trans sb;refine⟨F2,G,I,t,Y.gs,eb,λO L H4 s4=>?_⟩;have Q:=Y.trans s4;cases I with|next=>exact⟨_,by lia,O,t,Q,rfl,q,h⟩|cont=>exact⟨_,by lia,O,t,Q,rfl,q,h⟩|brk=>cases h;exact k O L H4 (w.fin _ _ _ _ Q).1|ret r=>cases h;intro v rr;obtain⟨z1,z2⟩:=w.fin _ _ _ _ Q;exact k O L H4 z1 v (z2 v r (rr.later Y))
 . left;have Z:ds.drop i=[]:=by rw[i_];lia
   rw[Z,MT]at h;cases h;exact⟨s2 (by lia),k u l M (w.fin _ _ _ _ N).1⟩
theorem qj(i:Nat):(λ(ρ:List Sl)(d:D)=>cO ρ [i] bj d)=λρ d=>put ρ i (.val av d):=by funext ρ d;rfl
theorem yE{f:Pos}(h:gy (cM X.prog X.w) X.A X.env X.xe)(hc:X.calm=bj)(j:X.N.Nodup)(g:X.N[i]?=ap x)(k:Loc X.env.scope x)(hi:SI X c (.Name x f) iter p)(l:SB X c n body ss)(hs:∀x,eH iter X.env x=eL x:=by intro _;rfl)(o:X.fn x=bj\/X.env.scope.names.lookup x=ap .local:=by first|(left;rfl)|(right;rfl)|assumption):SS X c n (.For (.Name x f) iter body [] pos) (.j6 p [i] bj ss):=lu h hc hi (aB j g k o) (by rw[qj];exact xY i) l hs
theorem yg(L:gy (cM X.prog X.w) X.A X.env X.xe)(M:ST X c e p)(O:SB X c n body ss):SS X c n (.While e body [] pos) (.whl p ss):=by refine cU (KY L M O) ?_;rintro D σ H⟨F,ρ,C,o,g,e,k⟩;rw[_H.X15]at e;refine⟨λm j E=>∃q f,aL X.K F ρ σ H q f j E/\uX (jf (_H.ev c p)) (fJ c n ss) m f=.ok C o,⟨n,F,ρ,.refl g,e⟩,?_⟩;rintro m j E⟨q,f,G,h⟩;cases m with|zero=>rw[Xg]at h;cases h|succ m=>rw[Lw]at h;obtain⟨b,t,Q,h⟩:=aj h;refine⟨q,f,b,t,G.gs,Q,λF1 U s1=>?_⟩;have s2:=G.trans s1;cases b with|false=>rw[if_neg dc]at h;cases h;exact k F1 j U s2|true=>rw[if_pos rfl]at h;obtain⟨u,l,W,h⟩:=aj h;refine(show ∃N:_L.St->Hp->Prop,_/\_ from⟨λσ' H'=>∃I,I<m+1/\∃q f,aL X.K F ρ σ H q f σ' H'/\uX (jf (_H.ev c p)) (fJ c n ss) I f=.ok C o,λσ' H' z=>z,F1,t,u,l,s2.gs,W,λB y J s4=>?_⟩);have s5:=s2.trans s4;cases u with|next=>exact⟨m,by lia,B,l,s5,h⟩|cont=>exact⟨m,by lia,B,l,s5,h⟩|brk=>cases h;exact k B y J s5|ret r=>cases h;exact λv Y=>k B y J s5 v (Y.later s2)
end
section
variable{X:Cx}{c:Call}{n:Nat}{e elt tg iter:da}{p ps pe:P}{pos:Pos}{scope:iE}{N':List Str}{ifs:List da}
theorem Kv{t t':TE}(h:PE X e t)(i:∀σ H Q,σ.length=X.N.length->t' σ H Q->t σ H Q):PE X e t':=λa s σ H Q I q=>h a s σ H Q I (i σ H Q I.len q)
theorem JG{st:ek}{t t':TS}(h:PS X st t)(i:∀D σ H,σ.length=X.N.length->t' D σ H->t D σ H):PS X st t':=λa s σ H D I q=>h a s σ H D I (i D σ H I.len q)
noncomputable def ou(K:PySem.W.Frag)(m:Nat)(is:List Nat)(one:Bool)(g:TG):Prop:=∀(x:V)(d:D)(F:Hp)(ρ a:List Sl)(σ:_L.St)(H:Hp)(Q:_L.St->Hp->Prop),GS K F ρ σ H->Rep K F x d->cO ρ is one d=ap a->(∀σ',aL K F ρ σ H F a σ' H->σ'.take m=σ.take m->Q σ' H)->g x σ H Q
theorem take_set{b:Type}{l:List b}{a:b}(h:m<=i):(l.set i a).take m=l.take m:=by rw[List.take_set_of_le h]
theorem cW(h:m<=i):ou K m [i] bj (lZ i):=λx d F ρ a σ H Q g r b k=>k _ (aL.put (r:=.val d) (.refl g) r b) (take_set h)
noncomputable def Rh(K:PySem.W.Frag)(m:Nat)(is:List Nat)(gs:Iw):Prop:=∀(xs:List V)(ds:List D)(F:Hp)(ρ a:List Sl)(σ:_L.St)(H:Hp)(Q:_L.St->Hp->Prop),GS K F ρ σ H->aN K F xs ds->putAll ρ is ds=ap a->(∀σ',aL K F ρ σ H F a σ' H->σ'.take m=σ.take m->Q σ' H)->gs xs σ H Q
theorem bH{gs:Iw}(hi:m<=i)(f:Rh K m is gs):Rh K m (i::is) (JF (lZ i) gs):=by intro xs ds F ρ a σ H Q g r h k;cases ds with|nil=>simp[mO,lC,qg,qt]at h|cons d ds=>obtain⟨v,vs,rfl,h1,j⟩:=r.dB;rw[lC]at h;obtain⟨b,l,o⟩:=dj h;have s1:=aL.put (r:=.val d) (.refl g) h1 l;exact⟨v,vs,rfl,f vs ds F b a _ H _ s1.gs j o λσ' s2 z=>k σ' (s1.trans s2) (z.trans (take_set hi))⟩
theorem gB:Rh K m [] Wm:=by intro xs ds F ρ a σ H Q g r h k;cases ds with|nil=>rw[mO]at h;cases h;exact⟨r.iY,k σ (.refl g) rfl⟩|cons d ds=>simp[mO,lC,qg,qt]at h
theorem gD{gs:Iw}{l:Nat}(o:l=is.length)(h:Rh K m is gs):ou K m is av (Va K l gs):=by intro x d F ρ b σ H Q g r f k;cases d with|tup ds=>replace f:putAll ρ is ds=ap b:=f;rw[Rep]at r;obtain⟨a,xs,rfl,h1,j⟩:=r;exact⟨a,xs,rfl,aJ.jq g.sub h1,by rw[j.length,oH f,o],h xs _ F ρ b σ H Q g j f k⟩|_=>cases f
noncomputable def SQ(X:Cx)(c:Call)(ifs:List da)(t:Option P):Prop:=V2 X ifs (Hk X.K (pq c t))
theorem bO:SQ X c [] none:=λa s σ H Q I⟨F,ρ,k,ρ',g,e,q⟩=>by rw[pq]at e;cases e;exact Ra a s σ H Q I (q F H (.refl g))
theorem Gb(h:ST X c e p):SQ X c [e] (ap p):=λa s σ H Q I⟨F,ρ,k,ρ',g,e,q⟩=>by rw[pq]at e;exact O9 h a s σ H Q I ⟨F,ρ,k,ρ',g,e,q⟩
theorem aL.Mw{F1 j:Hp}{f:List Sl}{g:_L.St}{Da:b_}{o:HO}(s:aL K F ρ σ H F1 f g j)(h:H Da=none)(q:F1 Da=none)(ho:¬ Own f g Da):aL K F ρ σ H F1 f g (upd j Da o):=by
 refine⟨⟨λb u e=>?_,s.gs.len,s.gs.val,λi t ds e k=>?_,s.gs.dis⟩,s.cG,s.yR,λb u e n=>?_,s.yS,s.len,s.lk⟩
 . have:b≠Da:=by rintro rfl;rw[q]at e;cases e
   rw[aH this];exact s.gs.sub b u e
 . obtain⟨a,xs,l,r,w,y⟩:=s.gs.own i t ds e k;have:a≠Da:=by rintro rfl;exact ho ⟨i,⟨t,ds,e,k⟩,l⟩
   exact⟨a,xs,l,by rw[aH this];exact r,w,y⟩
 . have:b≠Da:=by rintro rfl;rw[h]at e;cases e
   rw[aH this];exact s.keep b u e n
theorem vd{b r:List Sl}{ul:List Sl->List Sl}{ti:TI}{one:Bool}{u:List Sl->Res Bool}{el:Ev}{g:TG}{Q:VK}{xs:List D}(hm:σ.length=m)(ah:ou K m is one g)(ai:∀R:It->Hp->Prop,(∀J F1 W,Walk K F ρ σ H ul J ds F1 b W->R J W)->ti σ H R)(ar:ds.length<=lim)(e2:turns is one u el ds [] (b++cp n .aW)=.ok xs r)(k:∀v F' H',aL K F ρ σ H F' (ul (r.take b.length)) σ H'->dR K F' (ul (r.take b.length)) σ H' ρ σ H v (.own xs)->Q v H'):wQ n ti g (Hk K u) (yc K el) σ H Q:=by
 refine ai _ λJ F1 W w Da O=>?_;have al:b.length=σ.length:=w.gs.len;have gm:=w.gs.more (n:=n) (τ:=cp n none) (by simp);have fD:F1 Da=none:=by cases q:F1 Da with|none=>rfl|some o=>rw[w.gs.sub Da o q]at O;cases O
 have nO:¬ Own (b++cp n .aW) (σ++cp n none) Da:=λ⟨i,⟨t,dt,q1,q2⟩,q3⟩=>by obtain⟨a,ys,z1,z2,_⟩:=gm.own i t dt q1 q2;rw[q3]at z1;cases z1;rw[O]at z2;cases z2
 refine⟨λi mm ys f G=>∃E h l,aL K F1 (b++cp n .aW) (σ++cp n none) W E h f G/\f.take m=σ/\G Da=ap (.lst ys)/\E Da=none/\¬ Own h f Da/\aN K E ys l/\l.length<=i/\mm=ds.length-i/\i<=ds.length/\turns is one u el (ds.drop i) l h=.ok xs r,⟨_,F1,_,[],(aL.refl gm).Mw O fD nO,by rw[mi (by lia),iA (by lia)],aP,fD,nO,.nil,xu,rfl,xu,e2⟩,?_⟩;rintro i mm ys f G⟨E,h,l,Y,I,Z,hF,hO,rs,aw,rfl,ax,j⟩;refine⟨Z,?_⟩--what stays of the new list through a step
 have stay:∀{L U:Hp}{M:List Sl}{B:_L.St},aL K E h f G L M B U->U Da=ap (.lst ys)/\L Da=none/\¬ Own M B Da:=λ{L U M B}s=>by
  refine⟨s.keep Da _ Z hO,?_,λo=>?_⟩;.cases q:L Da with|none=>rfl|some o=>
      rcases s.yR Da hF (by rw[q];simp)with z|z;.exact absurd z hO
      .exact(Nb Z z).elim
  . rcases s.yS Da o with z|z;.exact hO z
    .rw[Z]at z;cases z
 obtain⟨s1,s2⟩:=w.src n i E h f G Y;by_cases C:i<ds.length
 . right;have hd:ds[i]?=ap ds[i]:=by simp[C]
   obtain⟨go,step⟩:=s1 _ hd;refine⟨go,λx U y=>?_⟩;obtain⟨L,ext,rx⟩:=step x U y;have t2:=ext.stp Y.gs;rw[f_ C,La]at j;cases hbd:cO h is one ds[i]with|none=>rw[hbd]at j;cases j|some ac=>rw[hbd]at j;obtain⟨bb,N,eb,j⟩:=aj j;refine ah x _ L h ac f U _ t2.gs rx hbd λB sb ae=>?_;have t3:=t2.trans sb;refine⟨L,ac,bb,N,t3.gs,eb,λF4 H4 s4=>?_⟩;have t4:=t3.trans s4;cases bb with|false=>rw[if_neg dc]at j;obtain⟨y1,y2,y3⟩:=stay t4;exact⟨_,by lia,F4,N,l,Y.trans t4,ae.trans I,y1,y2,y3,rs.mono t4.cG,by lia,rfl,C,j⟩|true=>
       rw[if_pos rfl]at j;obtain⟨re,af,ee,j⟩:=aj j;refine(show yc K el B H4 _ from⟨F4,N,re,af,t4.gs,ee,λv F5 H5 s5 rr=>?_⟩);obtain⟨F6,s6,_,rp⟩:=s5.eN rr;have t6:=t4.trans s6;obtain⟨y1,y2,y3⟩:=stay t6;have ag:ys.length<sizeLine:=by have h1:=rs.length;have h2:lim=sizeLine:=rfl;lia
       exact⟨y1,ag,_,by lia,F6,af,l++[re.d],(Y.trans t6).Mw O y2 y3,ae.trans I,aP,y2,y3,(rs.mono t6.cG).append (.cons rp .nil),by simp;lia,rfl,C,j⟩
 . left;have am:ds.drop i=[]:=by rw[i_];lia
   rw[am,K4]at j;cases j;refine⟨s2 (by lia),?_⟩;obtain⟨l1,l2⟩:=aL.less (m:=b.length) rfl w.gs (by simp) Y;have hst:f.take b.length=σ:=by rw[al,hm];exact I
   rw[hst]at l1;have rr:dR K E r f G (b++cp n .aW) (σ++cp n none) W (.ref Da) (.own xs):=⟨Da,ys,rfl,Z,hF,rs,hO,.inr O⟩;have Ud:=l2 _ _ rr;rw[hst]at Ud;obtain⟨z1,z2⟩:=w.fin _ _ _ _ l1;exact k _ E G z1 (z2 _ _ Ud)
theorem Et{iv:Option Nat}{f:Ev}{one:Bool}{b:List Sl->Res Bool}{u:Ev}{g:TG}{Q:VK}{r:R}{j:List Sl}(w:σ.length=m)(q:ou K m is one g)(y:GS K F ρ σ H)(e:((srcOf iv f ρ).bind λds a=>if ds.length<=lim then(turns is one b u ds [] (a++cp n .aW)).bind λxs l=>Res.ok (R.own xs) (bz ρ iv (l.take a.length))else .stuck)=.ok r j)(k:∀v F' H',aL K F ρ σ H F' j σ H'->dR K F' j σ H' ρ σ H v r->Q v H'):wQ n (tIt K iv f) g (Hk K b) (yc K u) σ H Q:=by
 obtain⟨ds,t,z,e⟩:=aj e;split at e;.rename_i o;obtain⟨xs,B,C,e⟩:=aj e;cases e;exact vd w q (λR h=>⟨F,ρ,ds,t,y,z,h⟩) o C k
 .cases e
theorem fG{g:TG}{one:Bool}{t:Option P}(hc:X.calm=bj)(ok:gC X scope N' n)(hi:SI X c tg iter ps)(b:∀cl C s₀ H₀ ex,PG (rG X scope N' cl C s₀ H₀ ex) tg g)(a:ou X.K X.N.length is one g)(f:∀cl C s₀ H₀ ex,SQ (rG X scope N' cl C s₀ H₀ ex) c ifs t)(he:∀cl C s₀ H₀ ex,SX (rG X scope N' cl C s₀ H₀ ex) c elt pe)(hs:∀x,eH iter X.env x=eL x:=by intro _;rfl):SX X c (.ListComp elt [⟨tg,iter,ifs,0⟩] scope pos) (.comp ps n is one t pe):=by refine⟨Kv (Fy (tt:=Hk X.K (pq c t)) (te:=yc X.K (_H.ev c pe)) hc ok hi b f (λcl C s₀ H₀ ex=>(he cl C s₀ H₀ ex).ev) hs) ?_,λi h=>by cases h⟩;rintro σ H Q j⟨F,ρ,r,l,o,e,k⟩;rw[_H.E20]at e;exact Et j a o e k
theorem tD{a b:Pos}{nn:Nat}{g:TG}{one:Bool}{t:Option P}(hc:X.calm=bj)(q:X.N.Nodup)(h:X.N[i]?=ap x)(u:Loc X.env.scope x)(ok:gC X scope N' n)(hi:SI X c tg iter ps)(w:∀cl C s₀ H₀ ex,PG (rG X scope N' cl C s₀ H₀ ex) tg g)(j:ou X.K X.N.length is one g)(y:∀cl C s₀ H₀ ex,SQ (rG X scope N' cl C s₀ H₀ ex) c ifs t)(he:∀cl C s₀ H₀ ex,SX (rG X scope N' cl C s₀ H₀ ex) c elt pe)(l:eP (.ListComp elt [⟨tg,iter,ifs,0⟩] scope pos) (ap (.Name x a)) b.line X.env=eL bj:=by rfl)(hs:∀x,eH iter X.env x=eL x:=by intro _;rfl)(z:X.fn x=bj\/X.env.scope.names.lookup x=ap .local:=by first|(left;rfl)|(right;rfl)|assumption):SS X c nn (.Assign [.Name x a] (.ListComp elt [⟨tg,iter,ifs,0⟩] scope pos) b) (.asg i (.comp ps n is one t pe)):=by refine JG (yd (tt:=Hk X.K (pq c t)) (te:=yc X.K (_H.ev c pe)) hc q h u ok hi w y (λcl C s₀ H₀ ex=>(he cl C s₀ H₀ ex).ev) l hs z) ?_;rintro D σ H B⟨F,ρ,U,E,G,e,k⟩;rw[_H.X6]at e;obtain⟨r,I,o,e⟩:=aj e;obtain⟨J,L,f,e⟩:=aj e;cases e;have M:=aF f;clear f;obtain⟨f,W⟩:=M;rw[_H.E20]at o;exact Et B j G o λv F1 O s1 Q=>k F1 _ O (s1.put Q f)
end
section
variable{X:Cx}{c:Call}{n:Nat}{e a b d:da}{p pa pb pd:P}{pos:Pos}{es:List da}{ps:List P}
noncomputable def tyN:D->String|.non=>"NoneType"|.bl _=>"bool"|.int _=>"int"|.str _=>"str"|.tup _=>"tuple"|.lst _=>"list"|.fZ _=>"dict"|.dv _ _=>"dict"
noncomputable def Cg:Ty->String|.none=>"NoneType"|.bool=>"bool"|.int=>"int"|.str=>"str"|.tuple=>"tuple"|.list=>"list"
theorem Tw(K:PySem.W.Frag)(t:Ty)(d:D):kitOne K (.type (tyN d)) (.type (Cg t))=ap (dw t d):=by cases t<;>cases d<;>rfl
theorem Fb(K:PySem.W.Frag)(d:D):∀f:List Ty,kitAny K (.type (tyN d)) (f.map λt=>eZ (Cg t))=ap (f.any λt=>dw t d)|[]=>rfl|t::f=>by rw[dQ,kitAny,Tw,mB];cases dw t d with|true=>rfl|false=>rw[Bool.false_or];exact Fb K d f
theorem R6{k:List (b_×Obj)}{x:V}{u:bd}{r:D}(I:_L.Inv X k σ H s)(l:aJ F H)(g:fB X.K F H x r)(f:RelV x u):(∃z,KitX X.K u (.type (tyN r)) z/\z s.heap)/\u≠.builtin "__main__.__loader__#opaque":=by cases r with|non=>rw[g.non]at f;cases f;exact⟨⟨_,PySem.W.kitx_none,trivial⟩,nofun⟩|bl y=>rw[g.bl]at f;cases f;exact⟨⟨_,PySem.W.kitx_bool,trivial⟩,nofun⟩|int i=>rw[g.int]at f;obtain⟨t,rfl⟩:=f;exact⟨⟨_,PySem.W.kitx_int,trivial⟩,nofun⟩|str y=>rw[g.str]at f;obtain⟨t,rfl⟩:=f;exact⟨⟨_,PySem.W.kitx_str,trivial⟩,nofun⟩|tup ds=>obtain⟨q,xs,rfl,h,_⟩:=g.tup l;cases f;obtain⟨w,_,⟨o,h1,j,_⟩,_⟩:=I.tuple h;exact⟨⟨_,PySem.W.kitx_tuple,⟨o,h1,j⟩⟩,nofun⟩|lst ds=>obtain⟨q,xs,rfl,h,_⟩:=g.lst l;cases f;obtain⟨w,_,B,_⟩:=I.list h;obtain⟨o,h1,j,_⟩:=B.isList;exact⟨⟨_,PySem.W.kitx_list,⟨o,h1,j⟩⟩,nofun⟩|fZ m=>obtain⟨q,_,rfl,h⟩:=g.fZ l;cases f;obtain⟨o,h1,j⟩:=MN I h;exact⟨⟨_,kitx_dict,⟨o,h1,j⟩⟩,nofun⟩|dv ks ds=>obtain⟨q,_,vs,rfl,h,_⟩:=g.dv l;cases f;obtain⟨o,h1,j⟩:=Jt I h;exact⟨⟨_,kitx_dict,⟨o,h1,j⟩⟩,nofun⟩
theorem Xq(t:Ty):eX X (.builtin "isinstance") (λxs H Q=>∃x F f,xs=[x,.ty (Cg t)]/\aJ F H/\fB X.K F H x f/\Q (.bl (dw t f)) H):=by rintro h s σ H xs z Q I r⟨x,F,f,j,k,l,q⟩;subst j;obtain⟨u,o,rfl,w,rt⟩:=r.two;cases(show o=eZ (Cg t)from rt);obtain⟨⟨B,Z,hz⟩,g⟩:=R6 I k l w;exact kia_one Z I.Pz hz (Tw _ t f) g λy=>⟨.bl _,H,I.tok y,rfl,q⟩
theorem Ge:∀{g:List Ty}{f:List bd},Vals (g.map λt=>V.ty (Cg t)) f->f=g.map λt=>eZ (Cg t)|[],_,h=>h.zero|t::g,_,.cons r1 j=>by rw[dQ,<-Ge j,show _=_ from r1]
theorem PN(g:List Ty):eX X (.builtin "isinstance") (λxs H Q=>∃x F h q,xs=[x,.ref q]/\H q=ap (.tup (g.map λt=>V.ty (Cg t)))/\aJ F H/\fB X.K F H x h/\Q (.bl (g.any λt=>dw t h)) H):=by rintro o s σ H xs M Q I r⟨x,F,h,q,y,z,B,C,k⟩;subst y;obtain⟨u,E,rfl,G,rt⟩:=r.two;cases(show E=dq q from rt);obtain⟨⟨N,Z,hz⟩,j⟩:=R6 I B C G;obtain⟨_,l,J,⟨⟨cls,dd,data,sl⟩,ho,hc,n,hd⟩⟩:=(show bT X.prog X.w H s.heap q (.tup _)from I.hok q _ z);simp only at hc hd;subst hc hd;have f:l=g.map λt=>eZ (Cg t):=Ge J;subst f;exact PySem.W.kia_tup Z I.Pz hz ho (Fb _ h g) j λL=>⟨.bl _,H,I.tok L,rfl,k⟩
theorem um:ez "isinstance"=ap (.builtin "isinstance"):=by decide+kernel
theorem Ad{y:Str}{p2:Pos}(t:Ty)(q:x="isinstance")(u:Gl X x)(w:X.mg x=none)(z:SX X c a pa)(f:Gl X y)(j:X.mg y=none)(B:ez y=ap (.type (Cg t)))(l:y≠"__name__":=by decide)(o:(y==("__debug__":Str))=av:=by decide)(hs:cj [a,.Name y p2] X.env=(av,eg a X.env)::cj [.Name y p2] X.env:=by rfl):SX X c (.Call (.Name x p') [a,.Name y p2] [] pos) (.inst [t] pa):=by subst q;obtain⟨M,h1,C⟩:=z.dG;refine⟨dh (eY (Xq t) u w um (bD h1 (bD (sI (v:=.ty (Cg t)) f j B rfl l o) dC) hs) (he:=hs)) ?_,λi h=>by cases h⟩;rintro σ H Q⟨F,ρ,r,E,g,e,k⟩;rw[_H.E19]at e;obtain⟨G,I,J,e⟩:=aj e;cases e;refine C g J λv F' H' s L=>⟨v,F',G,rfl,s.gs.sub,L,k _ F' H' s ?_⟩;show Rep X.K F' _ _;rw[mB,List.any_nil,Bool.or_false];exact gW _
noncomputable def Rg(X:Cx)(f:List Ty)(es:List da):Prop:=PA X es (λ_ H Q=>Q (f.map λt=>V.ty (Cg t)) H)
theorem Ri:Rg X [] []:=lU dC λ_ _ _ h=>h
theorem An{y:Str}{p2:Pos}{l:List Ty}(t:Ty)(f:Gl X y)(g:X.mg y=none)(o:ez y=ap (.type (Cg t)))(h:Rg X l es)(j:y≠"__name__":=by decide)(k:(y==("__debug__":Str))=av:=by decide)(hs:cj (.Name y p2::es) X.env=(av,eg (.Name y p2) X.env)::cj es X.env:=by rfl):Rg X (t::l) (.Name y p2::es):=lU (bD (sI (v:=.ty (Cg t)) f g o rfl j k) h hs) λ_ _ _ h=>h
theorem JL{p2:Pos}{k2}{f:List Ty}(u:x="isinstance")(w:Gl X x)(B:X.mg x=none)(C:SX X c a pa)(E:Rg X f es)(hz:f.length<=sizeLine:=by decide)(hs:cj [a,.Tuple es k2 p2] X.env=(av,eg a X.env)::cj [.Tuple es k2 p2] X.env:=by rfl):SX X c (.Call (.Name x p') [a,.Tuple es k2 p2] [] pos) (.inst f pa):=by
 subst u;obtain⟨O,h1,G⟩:=C.dG;refine⟨dh (eY (PN f) w B um (bD h1 (bD (JX E) dC) hs) (he:=hs)) ?_,λi h=>by cases h⟩;rintro σ H Q⟨F,ρ,r,I,g,e,k⟩;rw[_H.E19]at e;obtain⟨J,L,M,e⟩:=aj e;cases e;refine G g M λv F' H' s N=>⟨by rw[dV];exact hz,λq l=>?_⟩;have U:F' q=none:=by cases z:F' q with|none=>rfl|some o=>rw[s.gs.sub q o z]at l;cases l
 have j:aJ H' (upd H' q (.tup (f.map λt=>V.ty (Cg t)))):=aJ.cY l;have ext:Ext F' H' F' (upd H' q (.tup (f.map λt=>V.ty (Cg t)))):=⟨j,.refl _,s.gs.sub.trans j,λ_ x y=>absurd x y⟩;refine⟨v,F',J,q,rfl,aP,s.gs.sub.trans j,N.mono (.refl _) (λa xs _ z=>j a _ z),k _ F' _ (s.trans (ext.stp s.gs)) (show Rep X.K F' _ _ from gW _)⟩
inductive rBn(K:PySem.W.Frag)(f:List D->Option R)(xs:List V)(H:Hp)(Q:VK):Prop where|mk(F:Hp)(ds:List D)(r:R)(sm:aJ F H)(rs:aN K F xs ds)(he:f ds=ap r)(k:∀v F' H',Ext F H F' H'->dg K F' H' H v r->Q v H')
theorem R4{E:da}{f:List D->Option R}{q:P}(o:∀{t},PA X es t->PE X E (tCB (rBn X.K f) t))(u:SA X c es ps)(y:∀ρ,_H.ev c q ρ=(evs c ps ρ).bind λds ρ=>lift (f ds) ρ)(z:isVar q=none):SX X c E q:=by refine⟨dh (o u.1) ?_,λi h=>by rw[z]at h;cases h⟩;rintro σ H Q⟨F,ρ,r,B,g,e,k⟩;rw[y]at e;obtain⟨ds,l,C,j⟩:=aj e;have G:=aF j;clear j;obtain⟨j,I⟩:=G;subst I;exact⟨F,ρ,ds,l,g,C,λvs F' H' s J=>⟨F',ds,r,s.gs.sub,J,j,λw L M x N=>k w L M (s.trans (x.stp s.gs)) (.later s (N.qF s.gs))⟩⟩
theorem S7{xs:List V}{i j:Int}(h:aN K F xs [.int i,.int j]):xs=[.int i,.int j]:=by obtain⟨v,r,rfl,h1,g⟩:=h.dB;obtain⟨u,l,rfl,f,k⟩:=g.dB;rw[Rep]at h1 f;rw[h1,f,k.iY]
theorem inv2{f:Blt}{g:Int->Int->Int}{r:R}(h0:blt f []=none)(h1:∀a,blt f [a]=none)(o:∀a b c l,blt f (a::b::c::l)=none)(q:∀a b,gk a=av->blt f [a,b]=none)(t:∀i b,gk b=av->blt f [.int i,b]=none)(hi:∀i j,blt f [.int i,.int j]=ap (.val (.int (g i j))))(he:blt f ds=ap r):∃i j,ds=[.int i,.int j]/\r=.val (.int (g i j)):=by
 rcases ds with _|⟨a,_|⟨b,_|⟨c,l⟩⟩⟩;.rw[h0]at he;cases he
 .rw[h1]at he;cases he
 . by_cases h:gk a=bj
   . obtain⟨i,rfl⟩:∃i,a=.int i:=by cases a<;>first|exact⟨_,rfl⟩|cases h
     by_cases k:gk b=bj
     . obtain⟨j,rfl⟩:∃j,b=.int j:=by cases b<;>first|exact⟨_,rfl⟩|cases k
       rw[hi]at he;cases he;exact⟨i,j,rfl,rfl⟩
     .rw[t i b (by simpa using k)]at he;cases he
   .rw[q a b (by simpa using h)]at he;cases he
 .rw[o]at he;cases he
theorem U7(hc:X.calm=bj):eX X (.builtin "min") (rBn X.K (blt .min2)):=by rintro f s σ H xs o Q I r⟨F,ds,u,q,t,he,k⟩;obtain⟨i,j,rfl,rfl⟩:=inv2 (g:=λi j=>if j<i then j else i) rfl (λa=>by cases a<;>rfl) (λa b c l=>by cases a<;>first|rfl|(cases b<;>rfl)) (λa b h=>by cases a<;>first|rfl|cases h) (λi b h=>by cases b<;>first|rfl|cases h) (λ_ _=>rfl) he;rw[S7 t]at r;exact Hl hc f s σ H _ o Q I r ⟨_,_,rfl,dg.fK q (cL _) k⟩
theorem Vl(hc:X.calm=bj):eX X (.builtin "max") (rBn X.K (blt .max2)):=by rintro f s σ H xs o Q I r⟨F,ds,u,q,t,he,k⟩;obtain⟨i,j,rfl,rfl⟩:=inv2 (g:=λi j=>if i<j then j else i) rfl (λa=>by cases a<;>rfl) (λa b c l=>by cases a<;>first|rfl|(cases b<;>rfl)) (λa b h=>by cases a<;>first|rfl|cases h) (λi b h=>by cases b<;>first|rfl|cases h) (λ_ _=>rfl) he;rw[S7 t]at r;exact GP hc f s σ H _ o Q I r ⟨_,_,rfl,dg.fK q (cL _) k⟩
theorem boot_min:ez "min"=ap (.builtin "min"):=by decide+kernel
theorem boot_max:ez "max"=ap (.builtin "max"):=by decide+kernel
theorem pI(f:x="min")(hc:X.calm=bj)(g:Gl X x)(j:X.mg x=none)(k:SA X c [a,b] [pa,pb])(hs:cj [a,b] X.env=(av,eg a X.env)::cj [b] X.env:=by rfl)(hpl:(fS pos (cj [b] X.env)).any (·.1)=av:=by rfl):SX X c (.Call (.Name x p') [a,b] [] pos) (.blt .min2 [pa,pb]):=by subst f;exact R4 (λh=>eY (U7 hc) g j boot_min h (he:=hs) (hpl:=hpl)) k (λρ=>rfl) rfl
theorem QB(f:x="max")(hc:X.calm=bj)(g:Gl X x)(j:X.mg x=none)(k:SA X c [a,b] [pa,pb])(hs:cj [a,b] X.env=(av,eg a X.env)::cj [b] X.env:=by rfl)(hpl:(fS pos (cj [b] X.env)).any (·.1)=av:=by rfl):SX X c (.Call (.Name x p') [a,b] [] pos) (.blt .max2 [pa,pb]):=by subst f;exact R4 (λh=>eY (Vl hc) g j boot_max h (he:=hs) (hpl:=hpl)) k (λρ=>rfl) rfl
end
section
variable{X:Cx}{c:Call}{n:Nat}{e a b d:da}{p pa pb pd:P}{pos:Pos}{es:List da}{ps:List P}
theorem Gx(g:GS K F ρ σ H)(h:Iu ρ i=ap ds):∃a xs,σ[i]?=ap (ap (V.ref a))/\gq K H a xs:=by
 unfold Iu at h;split at h;.rename_i q;cases h;obtain⟨v,h1,f⟩:=g.pk q;obtain⟨a,xs,rfl,j,_⟩:=f.lst g.sub;exact⟨a,xs,h1,j⟩
 .cases h
theorem Qa{k:Nat}{h f:Pos}(I:X.N[k]?=ap x)(J:vR X.env.scope x)(hi:SX X c b pb)(he:SX X c e p)(L:∀ v,ku (.Subscript (.Name x h) b f) X.env v=(do
  let l<-jp [v] (eg (.Name x h) X.env)let iv<-jp [v,l] (eg b X.env)pp f
  jp [v,l,iv] (nB l iv v)release [v,l,iv] []):=by intro _;rfl)(hs:ko [.Subscript (.Name x h) b f] e pos.line X.env=eL av:=by rfl)(M:kq [.Subscript (.Name x h) b f] e X.env=eL none:=by rfl)(h1:(iO [.Subscript (.Name x h) b f] X.env).map (·.2)=[ku (.Subscript (.Name x h) b f) X.env]:=by rfl)(hd:(x==("__debug__":Str))=av:=by decide)(u:(x==("__classdict__":Str))=av:=by decide):SS X c n (.Assign [.Subscript (.Name x h) b f] e pos) (.RK k pb p):=by
 obtain⟨ti,w,y⟩:=hi.dG;refine cU (Ko he.ev (XX (gb I J hd u) w set_list L) hs M h1) ?_;rintro D σ H⟨F,ρ,fl,O,g,e,kk⟩;rw[_H.X9]at e;obtain⟨r,z,Q,e⟩:=aj e;obtain⟨x0,C,t,e⟩:=aj e;have U:=aF t;clear t;obtain⟨t,W⟩:=U;subst W;obtain⟨dk,Y,Z,e⟩:=aj e;refine⟨F,ρ,r,z,g,Q,λv F1 H1 s1 rr=>?_⟩;obtain⟨F2,s2,_,rp⟩:=s1.eN rr;obtain⟨o,ho,_⟩:=s2.gs.pk t;refine⟨o,ho,y s2.gs Z λvi F3 H3 s3 pi=>?_⟩;split at e
 . rename_i bb ds B q;split at e;.rename_i j hj;cases e;obtain⟨ad,xs,E,q2,q3,G⟩:=s3.gs.pK k _ ds q rfl;rw[ho]at E;cases E;refine⟨ad,xs,B,j,rfl,pi.int,q2,by rw[G.length];exact hj,?_⟩;exact kk F3 σ _ ((s2.trans s3).trans (s3.gs.mut q ho (G.set (rp.mono s3.cG) j)))
   .cases e
 .cases e
theorem bZ{k:Nat}{l f cpos:Pos}(E:X.N[k]?=ap x)(G:vR X.env.scope x)(he:SX X c e p)(h:(f.endLine==cpos.line)=bj:=by rfl)(hs:cj [e] X.env=(av,eg e X.env)::cj [] X.env:=by rfl)(j:g_ (.Name x l) "append" X.env (eg (.Name x l) X.env)=eg (.Name x l) X.env:=by rfl)(o:((fS cpos (cj [e] X.env)).all (λx=>!x.1)&&(mA cpos (kf [] X.env)).all (λx=>x.1.isSome)&&decide ([e].length+([]:List iX).length+(if([]:List iX).isEmpty then 0 else 1)<30))=bj:=by rfl)(u:eP (.Call (.Attribute (.Name x l) "append" f) [e] [] cpos) none pos.line X.env=eL av:=by rfl)(hd:(x==("__debug__":Str))=av:=by decide)(w:(x==("__classdict__":Str))=av:=by decide):SS X c n (.Expr (.Call (.Attribute (.Name x l) "append" f) [e] [] cpos) pos) (.app k p):=by
 refine cU (tG (Ga plainAttrs_list PySem.F.slot_list_append PySem.F.type_list_append qM (gb E G hd w) (bD he.ev dC hs) j o h hs) u) ?_;rintro D σ H⟨F,ρ,fl,I,g,e,kk⟩;rw[_H.X10]at e;obtain⟨d0,J,t,e⟩:=aj e;have L:=aF t;clear t;obtain⟨t,M⟩:=L;subst M;obtain⟨r,y,O,e⟩:=aj e;obtain⟨a,xs,h1,Q⟩:=Gx g t;refine⟨.ref a,h1,.inl ⟨rfl,xs,Q⟩,F,ρ,r,y,g,O,λv F1 H1 s1 U=>?_⟩;obtain⟨W,s2,_,Y⟩:=s1.eN U;split at e
 . rename_i bb ds q;split at e;.rename_i z;cases e;obtain⟨ad,ys,B,Z,q3,C⟩:=s2.gs.pK k _ ds q rfl;rw[h1]at B;cases B;exact⟨_,ys,v,rfl,rfl,Z,by rw[C.length];exact z,kk W σ _ (s2.trans (s2.gs.mut q h1 (C.append (.cons Y .nil))))⟩
   .cases e
 .cases e
theorem Uk{j:Nat}{y:Str}{l o pt:Pos}{kt k2 Yj}(hc:X.calm=bj)(C:X.N.Nodup)(hi:X.N[i]?=ap x)(E:X.N[j]?=ap y)(q:i≠j)(G:X.env.scope.names.lookup x=ap .local)(I:X.env.scope.names.lookup y=ap .local)(J:SX X c a pa)(L:SX X c b pb)(M:kq [.Tuple [.Name x l,.Name y o] kt pt] (.Tuple [a,b] k2 Yj) X.env=eL (ap [x,y]):=by rfl)(hs:ko [.Tuple [.Name x l,.Name y o] kt pt] (.Tuple [a,b] k2 Yj) pos.line X.env=eL av:=by rfl)(h1:cj [a,b] X.env=(av,eg a X.env)::cj [b] X.env:=by rfl)(O:cj [b] X.env=(av,eg b X.env)::cj [] X.env:=by rfl):SS X c n (.Assign [.Tuple [.Name x l,.Name y o] kt pt] (.Tuple [a,b] k2 Yj) pos) (.par i j pa pb):=by refine cU (_L.W5 hc C hi E q G I (bD J.ev (bD L.ev dC O) h1) M hs) ?_;rintro D σ H⟨F,ρ,fl,Q,g,e,k⟩;rw[_H.X7]at e;obtain⟨r,f,U,e⟩:=aj e;obtain⟨B,t,W,e⟩:=aj e;obtain⟨Y,Z,h,e⟩:=aj e;cases e;have zz:=aF h;clear h;obtain⟨h,e4⟩:=zz;obtain⟨ac,e5,e6⟩:=dj h;refine⟨F,ρ,r,f,g,U,λv F1 H1 s1 rr=>?_⟩;obtain⟨F2,s2,_,rp⟩:=s1.eN rr;refine⟨F2,f,B,t,s2.gs,W,λu F3 H3 s3 w=>?_⟩;obtain⟨F4,s4,_,z⟩:=s3.eN w;refine⟨v,u,rfl,?_⟩;have t4:=s2.trans s4;have t5:=t4.put (r:=.val r.d) (v:=v) (rp.mono s4.cG) e5;exact k F4 _ H3 (t5.put (r:=.val B.d) (v:=u) z e6)
theorem Jy{bs:List Bool}(h:ds.mapM Bx=ap bs):ds=bs.map D.bl:=by induction ds generalizing bs with|nil=>simp at h;subst h;rfl|cons d ds f=>rw[List.mapM_cons]at h;cases hd:Bx d with|none=>rw[hd]at h;cases h|some k=>rw[hd]at h;cases hr:ds.mapM Bx with|none=>rw[hr]at h;cases h|some r=>rw[hr]at h;cases h;rw[dQ,<-f hr,u0 hd]
theorem Er{K:PySem.W.Frag}{F:Hp}:∀{bs:List Bool}{xs:List V},aN K F xs (bs.map D.bl)->xs=bs.map V.bl|[],_,h=>h.iY|k::bs,_,h=>by obtain⟨v,r,rfl,h1,f⟩:=h.dB;rw[Rep]at h1;rw[h1,Er f];rfl
theorem Fq:∀{bs:List Bool}{f:List bd},Vals (bs.map V.bl) f->f=bs.map i5|[],_,h=>h.zero|k::bs,_,.cons r t=>by rw[dQ,<-Fq t,show _=_ from r]
theorem Qs{id:String}{f:List Bool->Bool}(hc:X.calm=bj)(rule:∀{x:bd}{Q:bd->bx->Prop}{s:bx},cH (cM X.prog X.w) X.A.in1 (nN x) (λit g=>∃ I G t n P St y,it=.ref I/\Walks X.prog X.w X.A.in1 I G t n P St/\St 0 g.heap/\TruthOf X.prog X.w X.A.in1 P y/\∀h' B,(∀b o,b∉t->g.heap.get? b=ap o->h'.get? b=ap o)->Q (.bool (f ((eu n).map y))) {g with heap:=h',toks:=B}) X.xe s->cH (cM X.prog X.w) X.A (call (.builtin id) [x]) Q X.xe s):eX X (.builtin id) (λxs H Q=>∃p ys bs,xs=[.ref p]/\gq X.K H p ys/\ys=bs.map V.bl/\Q (.bl (f bs)) H):=by
 rintro C s σ H xs us Q I r⟨p,ys,bs,J,L,M,k⟩;subst J;subst M;obtain⟨u,rfl,N⟩:=r.one;cases N;obtain⟨O,U,l,hz⟩:=I.list L;have h:=Fq U;subst h;refine rule (kc l.isList ?_);have q:p≠s.heap.objs.size:=by obtain⟨o,h1,_⟩:=l.isList;exact dP (df h1)
 refine⟨s.heap.objs.size,_,_,_,_,_,λi=>bs.getD i av,rfl,Walks.list (prog:=X.prog) (w:=X.w) (A:=X.A.in1) (show X.A.in1.handled=none from I.ok.hd hc) s.heap.objs.size p q (bs.map i5).toArray,⟨⟨_,dl _ rfl,rfl,rfl⟩,?_⟩,?_,λh' B kp=>?_⟩;.obtain⟨o,h1,E⟩:=l.isList;exact⟨o,iZ h1,E⟩
 . intro i v s' Q' E' j W;have Y:v=.bool (bs.getD i av):=by
    have j:(bs.map i5)[i]?=ap v:=by simpa using j
    rw[eW]at j;obtain⟨k',Z,e2⟩:=map_some j;rw[<-e2,mS,Z];rfl
   subst Y;exact fY W
 . have e:f ((eu (bs.map i5).toArray.size).map λi=>bs.getD i av)=f bs:=by
    congr 1;apply ln;.simp
    .intro i h1 E;simp at h1;simp[h1]
   rw[e];exact⟨.bl _,H,I.kept (λb o z=>kp b o (by simp;exact dP (df z)) (iZ z)),rfl,k⟩
theorem aaU(hc:X.calm=bj):eX X (.builtin "all") (Qf X.K λx=>blt .all [x]):=by rintro g s σ H xs t Q I r⟨x,u,F,d,w,j,y,he,k⟩;obtain⟨bs,B,he⟩:=map_some (show((Dg d).bind λds=>ds.mapM Bx).map _=ap w from he);subst he;obtain⟨ds,l,C⟩:=dj B;have E:=Jy C;cases d with|lst es=>cases l;obtain⟨p,ys,rfl,G,o⟩:=y.lst j;rw[E]at o;refine Qs (f:=λbs=>bs.all id) hc (λh=>call_all_walk (dS h (λit q⟨I,fp,wr,n,P,Sx,tr,h1,h2,h3,h4,h5⟩=>⟨I,fp,wr,n,P,Sx,tr,h1,h2,h3,h4,λh' J kp=>?_⟩) λ_ _ z=>z)) g s σ H xs t Q I r ⟨p,ys,bs,u,G,Er o,dg.fK j (gW _) k⟩;have z:=h5 h' J kp;rw[List.all_map]at z;exact z|_=>cases l
theorem boot_all:ez "all"=ap (.builtin "all"):=by decide+kernel
theorem Wu(f:x="all")(hc:X.calm=bj)(g:Gl X x)(j:X.mg x=none)(k:SX X c a pa)(hs:cj [a] X.env=(av,eg a X.env)::cj [] X.env:=by rfl):SX X c (.Call (.Name x p') [a] [] pos) (.blt .all [pa]):=by subst f;exact qY (λh=>eY (aaU hc) g j boot_all h (he:=hs)) k (λρ=>rfl) rfl hs
end
section
variable{K:PySem.W.Frag}
theorem mq:∀{xs ys:List D},xs.length≠ys.length->lg xs ys=av|[],[],h=>absurd rfl h|[],_::_,_=>by simp[oG,lE,uY,ug]|_::_,[],_=>by simp[oG,lE,uY,ug]|x::xs,y::ys,h=>by rw[lE,mq (xs:=xs) (ys:=ys) (by simpa using h),kM]
theorem jz:∀{xs ys:List D},xs.length=ys.length->lg xs ys=(eu xs.length).all λj=>nZ (xs.getD j .non) (ys.getD j .non)|[],[],_=>by rw[oG];rfl|[],_::_,h=>by simp at h|_::_,[],h=>by simp at h|x::xs,y::ys,h=>by rw[lE,jz (xs:=xs) (ys:=ys) (by simpa using h),eS,List.range_succ_eq_map,mE,List.all_map];rfl
mutual
theorem yZ:∀d:D,nZ d d=bj|.non=>rfl|.bl _=>by exact beq_self_eq_true _|.int _=>by exact beq_self_eq_true _|.str _=>by exact beq_self_eq_true _|.tup ds=>by exact nD ds|.lst ds=>by exact nD ds|.fZ _=>by exact decide_eq_true rfl|.dv ks ds=>by show(decide (ks=ks)&&lg ds ds)=bj;rw[nD ds];simp
theorem nD:∀ds:List D,lg ds ds=bj|[]=>by rw[oG]|d::ds=>by rw[lE,yZ d,nD ds];rfl
end
theorem iH{d e:D}(b:flat d=bj)(h1:Rep K F v d)(a:Rep K F v e):d=e:=by cases d with
 |tup _=>cases b|lst _=>cases b|fZ _=>cases b|dv _ _=>cases b|non=>rw[Rep]at h1;subst h1;cases e with|non=>rfl|tup _=>rw[Rep]at a;obtain⟨_,_,q,_⟩:=a;cases q|lst _=>rw[Rep]at a;obtain⟨_,_,q,_⟩:=a;cases q|fZ _=>rw[Rep]at a;obtain⟨_,_,q,_⟩:=a;cases q|dv _ _=>rw[Rep]at a;obtain⟨_,_,_,q,_⟩:=a;cases q|_=>rw[Rep]at a;cases a
 |bl k=>rw[Rep]at h1;subst h1;cases e with|bl _=>rw[Rep]at a;cases a;rfl|tup _=>rw[Rep]at a;obtain⟨_,_,q,_⟩:=a;cases q|lst _=>rw[Rep]at a;obtain⟨_,_,q,_⟩:=a;cases q|fZ _=>rw[Rep]at a;obtain⟨_,_,q,_⟩:=a;cases q|dv _ _=>rw[Rep]at a;obtain⟨_,_,_,q,_⟩:=a;cases q|_=>rw[Rep]at a;cases a
 |int k=>rw[Rep]at h1;subst h1;cases e with|int _=>rw[Rep]at a;cases a;rfl|tup _=>rw[Rep]at a;obtain⟨_,_,q,_⟩:=a;cases q|lst _=>rw[Rep]at a;obtain⟨_,_,q,_⟩:=a;cases q|fZ _=>rw[Rep]at a;obtain⟨_,_,q,_⟩:=a;cases q|dv _ _=>rw[Rep]at a;obtain⟨_,_,_,q,_⟩:=a;cases q|_=>rw[Rep]at a;cases a
 |str k=>rw[Rep]at h1;subst h1;cases e with|str _=>rw[Rep]at a;cases a;rfl|tup _=>rw[Rep]at a;obtain⟨_,_,q,_⟩:=a;cases q|lst _=>rw[Rep]at a;obtain⟨_,_,q,_⟩:=a;cases q|fZ _=>rw[Rep]at a;obtain⟨_,_,q,_⟩:=a;cases q|dv _ _=>rw[Rep]at a;obtain⟨_,_,_,q,_⟩:=a;cases q|_=>rw[Rep]at a;cases a
theorem Qk{X:Cx}{w:List (b_×Obj)}(I:_L.Inv X w σ H s)(g:aJ F H):∀n:Nat,(∀d:D,j8 n d=bj->∀(v:V)(e:D),Rep X.K F v d->Rep X.K F v e->d=e):=by
 have O:∀{a:b_}{xs ys:List V},nU X.K F a xs->gq X.K F a ys->False:=λ{a xs ys}h1 b=>by obtain⟨_,_,⟨o,j,l,_⟩,_⟩:=I.tuple (aJ.jq g h1);obtain⟨_,_,y,_⟩:=I.list (g.seq b);obtain⟨E,c,f,_⟩:=y.isList;rw[j]at c;cases c;rw[l]at f;exact absurd f (by decide)
 have dd:∀{a:b_}{kvs:Dc},Rep X.K F (.ref a) (.fZ kvs)->∃o,s.heap.get? a=ap o/\o.cls=.type "dict":=λ{a kvs}h=>by rw[Rep]at h;obtain⟨z,_,q,G⟩:=h;cases q;exact MN I (g _ _ G)
 have Q:∀{a:b_}{xs:List V}{kvs:Dc},nU X.K F a xs->Rep X.K F (.ref a) (.fZ kvs)->False:=λ{a xs kvs}h1 b=>by obtain⟨_,_,⟨o,j,l,_⟩,_⟩:=I.tuple (aJ.jq g h1);obtain⟨E,c,f⟩:=dd b;rw[j]at c;cases c;rw[l]at f;exact absurd f (by decide)
 have ld:∀{a:b_}{xs:List V}{kvs:Dc},gq X.K F a xs->Rep X.K F (.ref a) (.fZ kvs)->False:=λ{a xs kvs}h1 b=>by obtain⟨_,_,y,_⟩:=I.list (g.seq h1);obtain⟨o,j,l,_⟩:=y.isList;obtain⟨E,c,f⟩:=dd b;rw[j]at c;cases c;rw[l]at f;exact absurd f (by decide)
 have B:∀{a:b_}{ks:List Int}{es:List D},Rep X.K F (.ref a) (.dv ks es)->∃o,s.heap.get? a=ap o/\o.cls=.type "dict":=λ{a ks es}h=>by rw[Rep]at h;obtain⟨z,_,_,q,G,_⟩:=h;cases q;exact Jt I (g _ _ G)
 have J:∀{a:b_}{xs:List V}{ks:List Int}{es:List D},nU X.K F a xs->Rep X.K F (.ref a) (.dv ks es)->False:=λ{a xs ks es}h1 b=>by obtain⟨_,_,⟨o,j,l,_⟩,_⟩:=I.tuple (aJ.jq g h1);obtain⟨E,c,f⟩:=B b;rw[j]at c;cases c;rw[l]at f;exact absurd f (by decide)
 have L:∀{a:b_}{xs:List V}{ks:List Int}{es:List D},gq X.K F a xs->Rep X.K F (.ref a) (.dv ks es)->False:=λ{a xs ks es}h1 b=>by obtain⟨_,_,y,_⟩:=I.list (g.seq h1);obtain⟨o,j,l,_⟩:=y.isList;obtain⟨E,c,f⟩:=B b;rw[j]at c;cases c;rw[l]at f;exact absurd f (by decide)
 intro n;induction n with
 |zero=>intro d hd v e h1 b;cases d with|tup _=>simp[cF,cg,cz,cB,cA,cC]at hd|lst _=>simp[cF,cg,cz,cB,cA,cC]at hd|fZ _=>simp[cF,cg,cz,cB,cA,cC]at hd|dv _ _=>simp[cF,cg,cz,cB,cA,cC]at hd|non=>exact iH rfl h1 b|bl k=>exact iH rfl h1 b|int k=>exact iH rfl h1 b|str k=>exact iH rfl h1 b
 |succ n U=>
   have all:∀{xs:List V}{ds es:List D},ds.all (j8 n)=bj->aN X.K F xs ds->aN X.K F xs es->ds=es:=λ{xs ds}=>by induction ds generalizing xs with|nil=>intro es _ h1 b;rw[h1.iY]at b;have:=b.length;exact(iF this.symm).symm|cons d ds M=>intro es t h1 b;rw[mE,fb]at t;obtain⟨v,r,rfl,j,l⟩:=h1.dB;cases es with|nil=>cases b.iY|cons e es=>obtain⟨Y,Z,W,c,f⟩:=b.dB;cases W;rw[U d t.1 v e j c,M t.2 l f]
   intro d hd v e h1 b;cases d with
   |fZ _=>simp[cF,cg,cz,cB,cA,cC]at hd|dv _ _=>simp[cF,cg,cz,cB,cA,cC]at hd|tup ds=>
     have t:ds.all (j8 n)=bj:=by simpa[cF,cg,cz,cB,cA,cC]using hd
     rw[Rep]at h1;obtain⟨a,xs,rfl,p,N⟩:=h1;cases e with|tup es=>rw[Rep]at b;obtain⟨z,ys,q,u,C⟩:=b;cases q;have:=I.qw (aJ.jq g p) (aJ.jq g u);subst this;rw[all t N C]|lst es=>rw[Rep]at b;obtain⟨z,ys,q,u,C⟩:=b;cases q;exact(O p u).elim|fZ _=>exact(Q p b).elim|dv _ _=>exact(J p b).elim|_=>rw[Rep]at b;cases b
   |lst ds=>
     have t:ds.all (j8 n)=bj:=by simpa[cF,cg,cz,cB,cA,cC]using hd
     rw[Rep]at h1;obtain⟨a,xs,rfl,p,N⟩:=h1;cases e with|lst es=>rw[Rep]at b;obtain⟨z,ys,q,u,C⟩:=b;cases q;have:=I.vm (g.seq p) (g.seq u);subst this;rw[all t N C]|tup es=>rw[Rep]at b;obtain⟨z,ys,q,u,C⟩:=b;cases q;exact(O u p).elim|fZ _=>exact(ld p b).elim|dv _ _=>exact(L p b).elim|_=>rw[Rep]at b;cases b
   |non=>exact iH rfl h1 b|bl k=>exact iH rfl h1 b|int k=>exact iH rfl h1 b|str k=>exact iH rfl h1 b
theorem Fg{d e:D}{u:V}{c:bd}(hd:flat d=bj)(he:flat e=bj)(h1:Rep K F v d)(a:Rep K F u e)(r1:RelV v c)(b:RelV u u'):gd A s c u' (nZ d e):=by cases d with
 |tup _=>cases hd|lst _=>cases hd|fZ _=>cases hd|dv _ _=>cases hd|non=>rw[Rep]at h1;subst h1;cases(show c=.none from r1);cases e with|tup _=>cases he|lst _=>cases he|fZ _=>cases he|dv _ _=>cases he|non=>rw[Rep]at a;subst a;cases(show u'=.none from b);exact lb _|bl _=>rw[Rep]at a;subst a;cases(show u'=.bool _ from b);exact none_bool _|int _=>rw[Rep]at a;subst a;obtain⟨t,rfl⟩:=b;exact none_int _ _|str _=>rw[Rep]at a;subst a;obtain⟨t,rfl⟩:=b;exact none_str _ _
 |bl _=>rw[Rep]at h1;subst h1;cases(show c=.bool _ from r1);cases e with|tup _=>cases he|lst _=>cases he|fZ _=>cases he|dv _ _=>cases he|non=>rw[Rep]at a;subst a;cases(show u'=.none from b);exact bool_none _|bl _=>rw[Rep]at a;subst a;cases(show u'=.bool _ from b);exact bool_bool _ _|int _=>rw[Rep]at a;subst a;obtain⟨t,rfl⟩:=b;exact bool_int _ _ _|str _=>rw[Rep]at a;subst a;obtain⟨t,rfl⟩:=b;exact bool_str _ _ _
 |int _=>rw[Rep]at h1;subst h1;obtain⟨t0,rfl⟩:=r1;cases e with|tup _=>cases he|lst _=>cases he|fZ _=>cases he|dv _ _=>cases he|non=>rw[Rep]at a;subst a;cases(show u'=.none from b);exact int_none _ _|bl _=>rw[Rep]at a;subst a;cases(show u'=.bool _ from b);exact int_bool _ _ _|int _=>rw[Rep]at a;subst a;obtain⟨t,rfl⟩:=b;exact int_int _ _ _ _|str _=>rw[Rep]at a;subst a;obtain⟨t,rfl⟩:=b;exact int_str _ _ _ _
 |str _=>rw[Rep]at h1;subst h1;obtain⟨t0,rfl⟩:=r1;cases e with|tup _=>cases he|lst _=>cases he|fZ _=>cases he|dv _ _=>cases he|non=>rw[Rep]at a;subst a;cases(show u'=.none from b);exact str_none _ _|bl _=>rw[Rep]at a;subst a;cases(show u'=.bool _ from b);exact str_bool _ _ _|int _=>rw[Rep]at a;subst a;obtain⟨t,rfl⟩:=b;exact str_int _ _ _ _|str _=>rw[Rep]at a;subst a;obtain⟨t,rfl⟩:=b;exact str_str _ _ _ _
theorem pU{e:D}{u:V}{a:b_}{h:Array bd}(b:s.heap.IsTuple a h)(c:A.units<fy)(he:flat e=bj)(f:Rep K F u e)(g:RelV u u'):gd A s (.ref a) u' (nZ (.tup ds) e)/\gd A s u' (.ref a) (nZ e (.tup ds)):=by cases e with|tup _=>cases he|lst _=>cases he|fZ _=>cases he|dv _ _=>cases he|non=>rw[Rep]at f;subst f;cases(show u'=.none from g);exact⟨SeqAt.EqAt.tuple_none b c,SeqAt.EqAt.none_tuple b c⟩|bl _=>rw[Rep]at f;subst f;cases(show u'=.bool _ from g);exact⟨SeqAt.EqAt.tuple_bool _ b c,SeqAt.EqAt.bool_tuple _ b c⟩|int _=>rw[Rep]at f;subst f;obtain⟨t,rfl⟩:=g;exact⟨SeqAt.EqAt.tuple_int _ _ b c,SeqAt.EqAt.int_tuple _ _ b c⟩|str _=>rw[Rep]at f;subst f;obtain⟨t,rfl⟩:=g;exact⟨SeqAt.EqAt.tuple_str _ _ b c,SeqAt.EqAt.str_tuple _ _ b c⟩
theorem pW{e:D}{u:V}{a:b_}{h:Array bd}(b:s.heap.IsList a h)(c:A.units<fy)(he:flat e=bj)(f:Rep K F u e)(g:RelV u u'):gd A s (.ref a) u' (nZ (.lst ds) e)/\gd A s u' (.ref a) (nZ e (.lst ds)):=by cases e with|tup _=>cases he|lst _=>cases he|fZ _=>cases he|dv _ _=>cases he|non=>rw[Rep]at f;subst f;cases(show u'=.none from g);exact⟨SeqAt.EqAt.list_none b c,SeqAt.EqAt.none_list b c⟩|bl _=>rw[Rep]at f;subst f;cases(show u'=.bool _ from g);exact⟨SeqAt.EqAt.list_bool _ b c,SeqAt.EqAt.bool_list _ b c⟩|int _=>rw[Rep]at f;subst f;obtain⟨t,rfl⟩:=g;exact⟨SeqAt.EqAt.list_int _ _ b c,SeqAt.EqAt.int_list _ _ b c⟩|str _=>rw[Rep]at f;subst f;obtain⟨t,rfl⟩:=g;exact⟨SeqAt.EqAt.list_str _ _ b c,SeqAt.EqAt.str_list _ _ b c⟩
theorem zX{n:Nat}{d:D}(h:j8 n d=bj)(h0:n=0):flat d=bj:=by subst h0;cases d<;>first|rfl|simp[cF,cg,cz,cB,cA,cC]at h
theorem afM{X:Cx}{E:List (b_×Obj)}(I:_L.Inv X E σ H s)(r:aJ F H):∀(n:Nat)(A:et),A.units+n<fy->∀(d e:D),j8 n d=bj->j8 n e=bj->∀(v u:V)(G u':bd),Rep X.K F v d->Rep X.K F u e->RelV v G->RelV u u'->gd A s G u' (nZ d e):=by intro n;induction n with|zero=>intro A W d e hd he v u G u' h1 f r1 g;exact Fg (zX hd rfl) (zX he rfl) h1 f r1 g|succ n Y=>
   intro A W d e hd he v u G u' h1 f r1 g;have c:A.units<fy:=by lia
   have L:A.in1.units+n<fy:=by show A.units+1+n<fy;lia--items by place
   have at_:∀{xs ys:List V}{q ws:List bd}{ds es:List D}{j:Nat}(k1:j<q.toArray.size)(k2:j<ws.toArray.size),ds.all (j8 n)=bj->es.all (j8 n)=bj->Vals xs q->Vals ys ws->aN X.K F xs ds->aN X.K F ys es->gd A.in1 s q.toArray[j] ws.toArray[j] (nZ (ds.getD j .non) (es.getD j .non)):=λ{xs ys q ws ds es j}k1 k2 Z a2 C h p1 p2=>by
    have k1:j<q.length:=by simpa using k1
    have k2:j<ws.length:=by simpa using k2
    have t:j<ds.length:=by rw[<-p1.length,C.length];exact k1
    have l2:j<es.length:=by rw[<-p2.length,h.length];exact k2
    obtain⟨x,g1,g2⟩:=p1.get (show ds[j]?=ap ds[j]by simp[t]);obtain⟨y,g3,g4⟩:=p2.get (show es[j]?=ap es[j]by simp[l2]);obtain⟨Q,g5,g6⟩:=C.get g1;obtain⟨U,g7,g8⟩:=h.get g3;have e1:q.toArray[j]=Q:=by have:=(gh g5).2;simpa using this
    have e2:ws.toArray[j]=U:=by have:=(gh g7).2;simpa using this
    have e3:ds.getD j .non=ds[j]:=by simp[i6,t]
    have e4:es.getD j .non=es[j]:=by simp[i6,l2]
    rw[e1,e2,e3,e4];exact Y A.in1 L _ _ (fg.mp Z _ (kg t)) (fg.mp a2 _ (kg l2)) x y Q U g2 g4 g6 g8--the same object
   have same:∀{a:b_},v=.ref a->u=.ref a->gd A s G u' (nZ d e):=λ{a}q1 q2=>by subst q1;subst q2;have:=Qk I r (n+1) d hd _ e h1 f;subst this;rw[yZ];cases r1;cases g;exact lb _
   cases d with
   |fZ _=>simp[cF,cg,cz,cB,cA,cC]at hd|dv _ _=>simp[cF,cg,cz,cB,cA,cC]at hd|tup ds=>
     have M:ds.all (j8 n)=bj:=by simpa[cF,cg,cz,cB,cA,cC]using hd
     have k:=h1;rw[Rep]at k;obtain⟨a,xs,rfl,N,J⟩:=k;cases r1;obtain⟨q,C,p1,_⟩:=I.tuple (aJ.jq r N)
     cases e with|fZ _=>simp[cF,cg,cz,cB,cA,cC]at he|dv _ _=>simp[cF,cg,cz,cB,cA,cC]at he|tup es=>
       have O:es.all (j8 n)=bj:=by simpa[cF,cg,cz,cB,cA,cC]using he
       have l:=f;rw[Rep]at l;obtain⟨b,ys,rfl,o,w⟩:=l;by_cases p:a=b;.subst p;exact same rfl rfl
       . cases g;obtain⟨ws,h,p2,_⟩:=I.tuple (aJ.jq r o);refine .of_refs p ?_;have z:=SeqAt.RcAt.tuples (A:=A) (e:=λj=>nZ (ds.getD j .non) (es.getD j .non)) p1 p2 c λj k1 k2=>at_ k1 k2 M O C h J w;have t:q.toArray.size=ds.length:=by rw[cS,<-C.length,J.length]
         have l2:ws.toArray.size=es.length:=by rw[cS,<-h.length,w.length]
         rw[t,l2]at z;have e0:nZ (.tup ds) (.tup es)=((eu (min ds.length es.length)).all (λj=>nZ (ds.getD j .non) (es.getD j .non))&&ds.length==es.length):=by
          rw[pqt];by_cases B:ds.length=es.length;.rw[jz B,B];simp
          . rw[mq B];have:(ds.length==es.length)=av:=by simpa using B
            rw[this,kM]
         rw[e0];exact z|lst es=>rw[Rep]at f;obtain⟨b,ys,rfl,o,w⟩:=f;cases g;obtain⟨ws,h,p2,_⟩:=I.list (r.seq o);exact SeqAt.EqAt.tuple_list p1 p2.isList c|non=>exact(pU p1 c rfl f g).1|bl _=>exact(pU p1 c rfl f g).1|int _=>exact(pU p1 c rfl f g).1|str _=>exact(pU p1 c rfl f g).1
   |lst ds=>
     have M:ds.all (j8 n)=bj:=by simpa[cF,cg,cz,cB,cA,cC]using hd
     have k:=h1;rw[Rep]at k
     obtain⟨a,xs,rfl,N,J⟩:=k;cases r1;obtain⟨q,C,p1,_⟩:=I.list (r.seq N);cases e with|fZ _=>simp[cF,cg,cz,cB,cA,cC]at he|dv _ _=>simp[cF,cg,cz,cB,cA,cC]at he|lst es=>
       have O:es.all (j8 n)=bj:=by simpa[cF,cg,cz,cB,cA,cC]using he
       have l:=f;rw[Rep]at l;obtain⟨b,ys,rfl,o,w⟩:=l;by_cases p:a=b;.subst p;exact same rfl rfl
       . cases g;obtain⟨ws,h,p2,_⟩:=I.list (r.seq o);refine .of_refs p ?_;have t:q.toArray.size=ds.length:=by rw[cS,<-C.length,J.length]
         have l2:ws.toArray.size=es.length:=by rw[cS,<-h.length,w.length]
         rw[pql];by_cases B:ds.length=es.length;.have z:=SeqAt.RcAt.lists (A:=A) (e:=λj=>nZ (ds.getD j .non) (es.getD j .non)) p1.isList p2.isList (by rw[t,l2,B]) c λj k1 k2=>at_ k1 k2 M O C h J w;rw[t]at z;rw[jz B];exact z
         .rw[mq B];exact lists_lengths p1.isList p2.isList (by rw[t,l2];simpa using B) c|tup es=>rw[Rep]at f;obtain⟨b,ys,rfl,o,w⟩:=f;cases g;obtain⟨ws,h,p2,_⟩:=I.tuple (aJ.jq r o);exact SeqAt.EqAt.list_tuple p1.isList p2 c|non=>exact(pW p1.isList c rfl f g).1|bl _=>exact(pW p1.isList c rfl f g).1|int _=>exact(pW p1.isList c rfl f g).1|str _=>exact(pW p1.isList c rfl f g).1
   |non|bl _|int _|str _=>cases e with|fZ _=>simp[cF,cg,cz,cB,cA,cC]at he|dv _ _=>simp[cF,cg,cz,cB,cA,cC]at he|tup es=>rw[Rep]at f;obtain⟨b,ys,rfl,o,w⟩:=f;cases g;obtain⟨ws,h,p2,_⟩:=I.tuple (aJ.jq r o);exact(pU p2 c rfl h1 r1).2|lst es=>rw[Rep]at f;obtain⟨b,ys,rfl,o,w⟩:=f;cases g;obtain⟨ws,h,p2,_⟩:=I.list (r.seq o);exact(pW p2.isList c rfl h1 r1).2|_=>exact Fg rfl rfl h1 f r1 g
end
section
variable{X:Cx}{pins:List (b_×Obj)}{σ:_L.St}{H F:Hp}{s:bx}{A:et}
noncomputable abbrev RC(A:et)(s:bx)(v u:bd)(k:Bool):Prop:=SeqAt.RcAt A s v u k/\SeqAt.RcNeAt A s v u (!k)
inductive Top(X:Cx)(F H:Hp)(s:bx):bd->D->Prop where|non:Top X F H s .none .non|bl(b:Bool):Top X F H s (.bool b) (.bl b)|int(i:Int)(t:Tok):Top X F H s (.int i t) (.int i)|str(x:Str)(t:Tok):Top X F H s (.str x t) (.str x)|tup{a:b_}{us:List bd}{xs:List V}{ds:List D}(ht:s.heap.IsTuple a us.toArray)(hv:Vals xs us)(hr:aN X.K F xs ds):Top X F H s (.ref a) (.tup ds)|lst{a:b_}{us:List bd}{xs:List V}{ds:List D}(ht:s.heap.IsList a us.toArray)(hv:Vals xs us)(hr:aN X.K F xs ds):Top X F H s (.ref a) (.lst ds)
theorem yJ(I:_L.Inv X pins σ H s)(f:aJ F H){g:bd}{d:D}(hd:j8 8 d=bj)(h:fB X.K F H v d)(r:RelV v g):Top X F H s g d:=by cases d with|fZ _=>simp[cF,cg,cz,cB,cA,cC]at hd|dv _ _=>simp[cF,cg,cz,cB,cA,cC]at hd|non=>rw[h.non]at r;cases r;exact .non|bl b=>rw[h.bl]at r;cases r;exact .bl b|int i=>rw[h.int]at r;obtain⟨t,rfl⟩:=r;exact .int i t|str x=>rw[h.str]at r;obtain⟨t,rfl⟩:=r;exact .str x t|tup ds=>obtain⟨a,xs,rfl,h1,c,_⟩:=h.tup f;cases r;obtain⟨j,e,p1,_⟩:=I.tuple h1;exact .tup p1 e c|lst ds=>obtain⟨a,xs,rfl,h1,c⟩:=h.lst f;cases r;obtain⟨j,e,p1,_⟩:=I.list h1;exact .lst p1.isList e c
theorem abZ(I:_L.Inv X pins σ H s)(N:aJ F H){n:Nat}(hu:A.units+(n+1)<fy){d e:D}(hd:j8 (n+1) d=bj)(he:j8 (n+1) e=bj){E:bd}(h1:Top X F H s E d)(r:Top X F H s u' e):RC A s E u' (nZ d e):=by
 have c:A.units<fy:=by lia
 have C:A.in1.units+n<fy:=by show A.units+1+n<fy;lia
 have at_:∀{xs ys:List V}{p ws:List bd}{ds es:List D}{j:Nat}(k1:j<p.toArray.size)(k2:j<ws.toArray.size),ds.all (j8 n)=bj->es.all (j8 n)=bj->Vals xs p->Vals ys ws->aN X.K F xs ds->aN X.K F ys es->gd A.in1 s p.toArray[j] ws.toArray[j] (nZ (ds.getD j .non) (es.getD j .non)):=λ{xs ys p ws ds es j}k1 k2 O Q G J p1 p2=>by
  have k1:j<p.length:=by simpa using k1
  have k2:j<ws.length:=by simpa using k2
  have l:j<ds.length:=by rw[<-p1.length,G.length];exact k1
  have l2:j<es.length:=by rw[<-p2.length,J.length];exact k2
  obtain⟨x,U,W⟩:=p1.get (show ds[j]?=ap ds[j]by simp[l]);obtain⟨y,Y,Z⟩:=p2.get (show es[j]?=ap es[j]by simp[l2]);obtain⟨L,g5,g6⟩:=G.get U;obtain⟨M,g7,g8⟩:=J.get Y;have e1:p.toArray[j]=L:=by have:=(gh g5).2;simpa using this
  have e2:ws.toArray[j]=M:=by have:=(gh g7).2;simpa using this
  have e3:ds.getD j .non=ds[j]:=by simp[i6,l]
  have e4:es.getD j .non=es[j]:=by simp[i6,l2]
  rw[e1,e2,e3,e4];exact afM I N n A.in1 C _ _ (fg.mp O _ (kg l)) (fg.mp Q _ (kg l2)) x y L M W Z g6 g8
 cases h1 with
 |non=>cases r with|non=>exact⟨SeqAt.RcAt.none_none,SeqAt.RcNeAt.none_none⟩|bl b=>exact⟨SeqAt.RcAt.none_bool _,SeqAt.RcNeAt.none_bool _⟩|int i t=>exact⟨SeqAt.RcAt.none_int _ _,SeqAt.RcNeAt.none_int _ _⟩|str i t=>exact⟨SeqAt.RcAt.none_str _ _,SeqAt.RcNeAt.none_str _ _⟩|tup f _ _=>exact⟨SeqAt.RcAt.none_tuple f c,SeqAt.RcNeAt.none_tuple f c⟩|lst f _ _=>exact⟨SeqAt.RcAt.none_list f c,SeqAt.RcNeAt.none_list f c⟩
 |bl b0=>cases r with|non=>exact⟨SeqAt.RcAt.bool_none _,SeqAt.RcNeAt.bool_none _⟩|bl b=>exact⟨SeqAt.RcAt.bool_bool _ _,SeqAt.RcNeAt.bool_bool _ _⟩|int i t=>exact⟨SeqAt.RcAt.bool_int _ _ _,SeqAt.RcNeAt.bool_int _ _ _⟩|str i t=>exact⟨SeqAt.RcAt.bool_str _ _ _,SeqAt.RcNeAt.bool_str _ _ _⟩|tup f _ _=>exact⟨SeqAt.RcAt.bool_tuple _ f c,SeqAt.RcNeAt.bool_tuple _ f c⟩|lst f _ _=>exact⟨SeqAt.RcAt.bool_list _ f c,SeqAt.RcNeAt.bool_list _ f c⟩
 |int i0 t0=>cases r with|non=>exact⟨SeqAt.RcAt.int_none _ _,SeqAt.RcNeAt.int_none _ _⟩|bl b=>exact⟨SeqAt.RcAt.int_bool _ _ _,SeqAt.RcNeAt.int_bool _ _ _⟩|int i t=>exact⟨SeqAt.RcAt.int_int _ _ _ _,SeqAt.RcNeAt.int_int _ _ _ _⟩|str i t=>exact⟨SeqAt.RcAt.int_str _ _ _ _,SeqAt.RcNeAt.int_str _ _ _ _⟩|tup f _ _=>exact⟨SeqAt.RcAt.int_tuple _ _ f c,SeqAt.RcNeAt.int_tuple _ _ f c⟩|lst f _ _=>exact⟨SeqAt.RcAt.int_list _ _ f c,int_list _ _ f c⟩
 |str i0 t0=>cases r with|non=>exact⟨SeqAt.RcAt.str_none _ _,SeqAt.RcNeAt.str_none _ _⟩|bl b=>exact⟨SeqAt.RcAt.str_bool _ _ _,SeqAt.RcNeAt.str_bool _ _ _⟩|int i t=>exact⟨SeqAt.RcAt.str_int _ _ _ _,SeqAt.RcNeAt.str_int _ _ _ _⟩|str i t=>exact⟨SeqAt.RcAt.str_str _ _ _ _,SeqAt.RcNeAt.str_str _ _ _ _⟩|tup f _ _=>exact⟨SeqAt.RcAt.str_tuple _ _ f c,SeqAt.RcNeAt.str_tuple _ _ f c⟩|lst f _ _=>exact⟨SeqAt.RcAt.str_list _ _ f c,str_list _ _ f c⟩
 |@tup a p xs ds f q hr=>
   have u:ds.all (j8 n)=bj:=by simpa[cF,cg,cz,cB,cA,cC]using hd
   cases r with|non=>exact⟨SeqAt.RcAt.tuple_none f c,SeqAt.RcNeAt.tuple_none f c⟩|bl b=>exact⟨SeqAt.RcAt.tuple_bool _ f c,SeqAt.RcNeAt.tuple_bool _ f c⟩|int i t=>exact⟨SeqAt.RcAt.tuple_int _ _ f c,SeqAt.RcNeAt.tuple_int _ _ f c⟩|str i t=>exact⟨SeqAt.RcAt.tuple_str _ _ f c,SeqAt.RcNeAt.tuple_str _ _ f c⟩|lst k _ _=>exact⟨SeqAt.RcAt.tuple_list f k c,SeqAt.RcNeAt.tuple_list f k c⟩|@tup b ws ys es k g h=>
     have w:es.all (j8 n)=bj:=by simpa[cF,cg,cz,cB,cA,cC]using he
     have l:p.toArray.size=ds.length:=by rw[cS,<-q.length,hr.length]
     have l2:ws.toArray.size=es.length:=by rw[cS,<-g.length,h.length]
     have z:=SeqAt.RcAt.tuples (A:=A) (e:=λj=>nZ (ds.getD j .non) (es.getD j .non)) f k c λj k1 k2=>at_ k1 k2 u w q g hr h;have B:=SeqAt.RcNeAt.tuples (A:=A) (e:=λj=>nZ (ds.getD j .non) (es.getD j .non)) f k c λj k1 k2=>at_ k1 k2 u w q g hr h;rw[l,l2]at z B;have e0:nZ (.tup ds) (.tup es)=((eu (min ds.length es.length)).all (λj=>nZ (ds.getD j .non) (es.getD j .non))&&ds.length==es.length):=by
      rw[pqt];by_cases o:ds.length=es.length;.rw[jz o,o];simp
      . rw[mq o];have:(ds.length==es.length)=av:=by simpa using o
        rw[this,kM]
     rw[e0];exact⟨z,B⟩
 |@lst a p xs ds f q hr=>
   have u:ds.all (j8 n)=bj:=by simpa[cF,cg,cz,cB,cA,cC]using hd
   cases r with|non=>exact⟨SeqAt.RcAt.list_none f c,SeqAt.RcNeAt.list_none f c⟩|bl b=>exact⟨SeqAt.RcAt.list_bool _ f c,SeqAt.RcNeAt.list_bool _ f c⟩|int i t=>exact⟨SeqAt.RcAt.list_int _ _ f c,list_int _ _ f c⟩|str i t=>exact⟨SeqAt.RcAt.list_str _ _ f c,list_str _ _ f c⟩|tup k _ _=>exact⟨SeqAt.RcAt.list_tuple f k c,SeqAt.RcNeAt.list_tuple f k c⟩|@lst b ws ys es k g h=>
     have w:es.all (j8 n)=bj:=by simpa[cF,cg,cz,cB,cA,cC]using he
     have l:p.toArray.size=ds.length:=by rw[cS,<-q.length,hr.length]
     have l2:ws.toArray.size=es.length:=by rw[cS,<-g.length,h.length]
     rw[pql];by_cases o:ds.length=es.length;.have z:=SeqAt.RcAt.lists (A:=A) (e:=λj=>nZ (ds.getD j .non) (es.getD j .non)) f k (by rw[l,l2,o]) c λj k1 k2=>at_ k1 k2 u w q g hr h;have B:=SeqAt.RcNeAt.lists (A:=A) (e:=λj=>nZ (ds.getD j .non) (es.getD j .non)) f k (by rw[l,l2,o]) c λj k1 k2=>at_ k1 k2 u w q g hr h;rw[l]at z B;rw[jz o];exact⟨z,B⟩
     .rw[mq o];exact⟨lists_lengths f k (by rw[l,l2];simpa using o) c,SeqAt.RcNeAt.lists_lengths f k (by rw[l,l2];simpa using o) c⟩
theorem dz(c:X.A.units+8<fy):jc X (ec .Eq) (rD X.K (uA .eq)):=by rintro pins s σ H x y v u Q I f g⟨F,d,e,r,a,h,j,he,k⟩;obtain⟨t,b,l⟩:=map_some (show(Mf d e).map _=ap r from he);subst l;unfold Mf at b;obtain⟨hd,b⟩:=bU b;rw[fb]at hd;subst b;exact(abZ I a (n:=7) c hd.1 hd.2 (yJ I a hd.1 h f) (yJ I a hd.2 j g)).1 _ _ _ _ ⟨.bl _,H,I,rfl,dg.fK a (gW _) k⟩
theorem uQ(c:X.A.units+8<fy):jc X (ec .NotEq) (rD X.K (uA .ne)):=by rintro pins s σ H x y v u Q I f g⟨F,d,e,r,a,h,j,he,k⟩;obtain⟨t,b,l⟩:=map_some (show(BZ d e).map _=ap r from he);subst l;unfold BZ at b;obtain⟨hd,b⟩:=bU b;rw[fb]at hd;subst b;exact(abZ I a (n:=7) c hd.1 hd.2 (yJ I a hd.1 h f) (yJ I a hd.2 j g)).2 _ _ _ _ ⟨.bl _,H,I,rfl,dg.fK a (gW _) k⟩
end
section
variable{Pg:c_}{w:eh}{K:PySem.W.Frag}{mg:Str->Option bd}{base:ef}
theorem abx{qual:Str}{st:ek}{f:b_}{fd:gz}{N ps:List Str}{k n:Nat}{c:Call}{d:Fd}(y:gn K x qual st f fd)(S:aO N ps (aA st))(h1:d.np=ps.length)(o:d.nn=N.length)(B:∀(cdv:bd)(A:et)(outer:List Env)(s:bx)(H:Hp)(E:XK),jo k (A.deeper (jO qual (aA st) s.heap.objs.size f cdv))->SB (jG Jc Pg w K mg base N qual (aA st) f cdv A outer s H E).nox c n (fX st) d.body):iJ Pg w K mg base Jc (k+1) f fd ps (PB K ps.length (λargs=>enter c n d args)):=by
 refine y.ok S (λvs H Q E h=>h.1) λcdv A outer s H vs Q E hr h=>?_;obtain⟨p,F,args,r,b,g,e,q⟩:=h;refine⟨_,B cdv A outer s H E hr,?_⟩;replace e:enter c n d args=.ok r b:=e;unfold enter at e;split at e
 . rename_i hc;obtain⟨c1,c2⟩:=hc;have C:=g.more (n:=d.nn-d.np) (τ:=cp (N.length-vs.length) none) (by simp[h1,o,p]);have j:args.length=d.np:=c1;have go:∀{l:Fl}{a:List Sl},fJ c n d.body (args++cp (d.nn-d.np) .aW)=.ok l a->(∀F' σ' H',aL K F (args++cp (d.nn-d.np) .aW) (start N vs) H F' a σ' H'->(match l with|.next=>Q .non H'|.brk=>False|.cont=>False|.ret r=>∀v,dR K F' a σ' H' (args++cp (d.nn-d.np) .aW) (start N vs) H v r->Q v H'))->tEx K (fJ c n d.body) {nx:=λ_ H'=>Q .non H',rt:=Q} (start N vs) H:=λ{l a}z k=>⟨F,_,l,a,C,z,λF' σ' H' s=>by have:=k F' σ' H' s;cases l<;>exact this⟩;split at e;.rename_i a z;cases e;refine go z λF' σ' H' s=>?_;obtain⟨t,u⟩:=aL.less (m:=d.np) j.symm g (by simp[h1,o,p]) s;exact q .non F' _ H' t (show Rep K F' _ _ from WQ)
   .rename_i I a z;cases e;refine go z λF' σ' H' s v G=>?_;obtain⟨t,u⟩:=aL.less (m:=d.np) j.symm g (by simp[h1,o,p]) s;exact q v F' _ H' t (u v r G)
   .split at e<;>cases e
 .cases e
structure aY(Pg:c_)(w:eh)(K:PySem.W.Frag)(mg:Str->Option bd)(base:ef)(k:Nat)(c:Call)(i:Nat)(x:Str)(np:Nat):Prop where ex:∃fa fd qs,iJ Pg w K mg base Jc k fa fd qs (PB K qs.length (c i))/\mg x=ap (.ref fa)/\keepIn K (.ref fa)=bj/\Binds K fd qs []/\qs.length=np
end
section
variable{X:Cx}{c:Call}{n k:Nat}{e a b:da}{es:List da}{p pa pb:P}{ps:List P}{pos:Pos}
theorem sv(i:Nat)(g:X.N[i]?=ap x:=by rfl)(h:vR X.env.scope x:=by first|exact dy rfl|exact ei (dy rfl)|exact ei (ei rfl))(hd:(x==("__debug__":Str))=av:=by rfl)(f:(x==("__classdict__":Str))=av:=by rfl):SX X c (.Name x pos) (.var i):=Uv g h hd f
theorem bW{np:Nat}(C:aY X.prog X.w X.K X.mg X.base k c i x np)(hr:jo k X.A)(h:SG X c (e::es) ps)(j:Gl X x:=by rfl)(l:(e::es).length=np:=by rfl)(f:(x==("__debug__":Str))=av:=by rfl)(he:cj (e::es) X.env=(av,eg e X.env)::cj es X.env:=by rfl)(hpl:(fS pos (cj es X.env)).any (·.1)=av:=by rfl)(g:ps.length=(e::es).length:=by rfl):SX X c (.Call (.Name x p') (e::es) [] pos) (.call i ps):=by obtain⟨u,fd,y,h1,o,q,r,t⟩:=C.ex;exact Qw h1 hr j o q r h (l.trans t.symm) f he hpl g
noncomputable def Tu(names outer:List (Str×j_))(N N':List Str)(n:Nat):Bool:=(names.all λy=>names.lookup y.1==ap y.2)&&(names.all λy=>y.2!=.local||names.lookup y.1==ap .local)&&(names.all λy=>y.2!=.free||outer.lookup y.1==ap .cell||outer.lookup y.1==ap .free)&&N'.length==N.length+n&&((N.zip N').all λp=>(p.1==p.2&&names.lookup p.2==ap .free)||(names.lookup p.2!=ap .local&&names.lookup p.2!=ap .cell&&names.lookup p.2!=ap .free))
theorem qU{scope:iE}{N':List Str}(g:scope.kind=.function)(h:Tu scope.names X.env.scope.names X.N N' n=bj):gC X scope N' n:=by
 unfold Tu at h;simp only[fb]at h;obtain⟨⟨⟨⟨h1,j⟩,l⟩,o⟩,q⟩:=h;refine⟨g,λy f=>eq_of_beq (fg.mp h1 y f),λy f e=>?_,λy f e=>?_,by simpa using o,q⟩;.have:=fg.mp j y f;rw[e]at this;simpa using this
 . have:=fg.mp l y f;rw[e]at this;simp only[me]at this;rcases this with(z|z)|z;.cases z
   .exact .inl (eq_of_beq z)
   .exact .inr (eq_of_beq z)
theorem bh(h:jo k A):A.units+8<fy:=by have:=h.un;lia
end
end _H
namespace PySem
section
variable{prog:c_}{w:eh}{A:et}{E:bd->bx->Prop}{s:bx}
theorem jK{it l:b_}{i:Nat}{items:Array bd}{x:bd}{Q:bd->bx->Prop}(a:s.heap.IsTupleIter it l i)(e:s.heap.IsTuple l items)(f:items[i]?=ap x)(g:∀h',h'.IsTupleIter it l (i+1)->p5 it s.heap h'->Q x {s with heap:=h'}):cH (cM prog w) A (lj (.ref it)) Q E s:=by obtain⟨o,ho,hc,hd⟩:=id a;obtain⟨h,b,_,nl,c⟩:=e;unfold lj;refine a_ (fv (name:=ii "__next__") a.typeIs F.slot_tuple_iterator_next (gx F.slot_tuple_iterator_next a.typeIs F.entry_tuple_iterator_next ?_ (F.args_tuple_iterator_next_1 _)));show cH _ _ (oB (.ref it) 0>>=_) _ _ s;refine a_ (eK ho hd (x:=.ref l) rfl ?_);show cH _ _ (if(dq l==dD)=bj then _ else _) _ _ s;rw[if_neg (show ¬((dq l==dD)=bj)from dc)];show cH _ _ (oB (.ref it) 1>>=_) _ _ s;refine a_ (eK ho hd (x:=.int i 0) rfl ?_);show cH _ _ (seqItems? (.ref l)>>=_) _ _ s;refine a_ (gu b c ?_);simp only[lP,f];refine a_ (ix ho hd (by simp) (cv ⟨x,rfl,cv (g _ ?_ (mI ..))⟩));exact⟨_,h_ _ ho (kC (ja hd _)),(Obj.cls_mapFields ..).trans hc,by rw[ja hd];simp[hQ]⟩
theorem ie{it l:b_}{i:Nat}{items:Array bd}{Q:bd->bx->Prop}(g:A.handled=none)(b:s.heap.IsTupleIter it l i)(h:s.heap.IsTuple l items)(j:items[i]?=none)(k:∀h' e,Heap.ExtBut it s.heap h'->(∃o,h'.get? e=ap o/\o.cls=.type "StopIteration")->E (.ref e) {s with heap:=h'}):cH (cM prog w) A (lj (.ref it)) Q E s:=by
 obtain⟨o,ho,hc,hd⟩:=id b;obtain⟨n,c,_,nl,f⟩:=h;unfold lj;refine a_ (fv (name:=ii "__next__") b.typeIs F.slot_tuple_iterator_next (gx F.slot_tuple_iterator_next b.typeIs F.entry_tuple_iterator_next ?_ (F.args_tuple_iterator_next_1 _)));show cH _ _ (oB (.ref it) 0>>=_) _ _ s;refine a_ (eK ho hd (x:=.ref l) rfl ?_);show cH _ _ (if(dq l==dD)=bj then _ else _) _ _ s;rw[if_neg (show ¬((dq l==dD)=bj)from dc)];show cH _ _ (oB (.ref it) 1>>=_) _ _ s;refine a_ (eK ho hd (x:=.int i 0) rfl ?_);show cH _ _ (seqItems? (.ref l)>>=_) _ _ s;refine a_ (gu c f ?_);simp only[lP,j];refine a_ (jD (a_ (ix ho hd (by simp) ?_)));show cH _ _ (newExc (.type "StopIteration") []>>=_) _ _ _;refine a_ ?_;simp only[newExc,newTuple];refine a_ (ew ?_ (by size_fits));refine a_ (m:=firstArgMember _ _) (wpAny_of_eq (a:=dD) (by first|rfl|(simp only[firstArgMember];rfl)) ?_);refine ew ?_ (by size_fits);simp only[raiseNew];refine a_ (wpAny_handled ?_);first|rw[show A.in1.handled=none from g]|rw[g]
 refine a_ (cv (wpAny_throw ?_));exact k _ _ (((mI ..).extBut.push _).push _) ⟨_,dl _ rfl,rfl⟩
end
theorem mC(l:b_)(items:Array bd)(n:Nat)(b:Option b_)(sl:Array (Option bd)):oI (i3.«enumerate.__new__» ⟨[.type "enumerate",.ref l],[]⟩) (λ_ R s=>s.heap.get? l=ap {cls:=.type "tuple",dict:=b,data:=.seq items n,slots:=sl}/\R (.ok (.ret (.ref (s.heap.push {cls:=.type "tuple_iterator",data:=.fields #[.ref l,.int 0 0]}).objs.size))) {s with heap:=(s.heap.push {cls:=.type "tuple_iterator",data:=.fields #[.ref l,.int 0 0]}).push {cls:=.type "enumerate",data:=.fields #[.none,.bool av,.ref s.heap.objs.size,hQ 0,.none,.none]}}):=.of_wp λprog w A R s h=>by
  obtain⟨i,g,d,j,os⟩:=s;obtain⟨a,h⟩:=h;have f:=sub_enumerate;have e:Heap.IsTuple (nE ⟨i,g,d,j,os⟩) l items:=⟨_,a,rfl,n,rfl⟩;wp_walk using fw a;refine wpAny_stack_any λst=>cv ?_;split
  . rename_i c _ _ _ _ _;cases(c==eZ "enumerate");.wp_walk using fw a,gI e;exact⟨_,rfl,h⟩
    .wp_walk using fw a,gI e;exact⟨_,rfl,h⟩
  .wp_walk using fw a,gI e;exact⟨_,rfl,h⟩
section
variable{prog:c_}{w:eh}{A:et}{E:bd->bx->Prop}{s:bx}
theorem mQ{l:b_}{items:Array bd}{Q:bd->bx->Prop}(e:s.heap.IsTuple l items)(h:∀ h',IsEnum h' (s.heap.objs.size+1) s.heap.objs.size 0 .none->h'.IsTupleIter s.heap.objs.size l 0->h'.objs.size=s.heap.objs.size+2->(∀b o,s.heap.get? b=ap o->h'.get? b=ap o)->Q (.ref (s.heap.objs.size+1)) {s with heap:=h'}):cH (cM prog w) A (call (.type "enumerate") [.ref l]) Q E s:=by
 obtain⟨⟨c,a,f,sl⟩,g,hc,n,hd⟩:=e;replace hc:c=.type "tuple":=hc;replace hd:f=.seq items n:=hd;subst hc hd;refine p4 F.called_enumerate (by decide) (F.typeCall_enumerate_1 _) (F.newCall_enumerate_1 _) (λobj=>F.args_object_init_2 obj _) F.entry_enumerate_new (mC l items n a sl) ⟨g,?_⟩;have hz:(s.heap.push {cls:=.type "tuple_iterator",data:=.fields #[.ref l,.int 0 0]}).objs.size=s.heap.objs.size+1:=h9 ..;show _/\_;rw[hz];have he:IsEnum ((s.heap.push {cls:=.type "tuple_iterator",data:=.fields #[.ref l,.int 0 0]}).push {cls:=.type "enumerate",data:=.fields #[.none,.bool av,.ref s.heap.objs.size,hQ 0,.none,.none]}) (s.heap.objs.size+1) s.heap.objs.size 0 .none:=by have:=dl (s.heap.push {cls:=.type "tuple_iterator",data:=.fields #[.ref l,.int 0 0]}) (o:={cls:=.type "enumerate",data:=.fields #[.none,.bool av,.ref s.heap.objs.size,hQ 0,.none,.none]}) rfl;rw[hz]at this;exact this
 refine⟨⟨_,he,rfl⟩,h _ he ⟨_,iZ (dl _ rfl),rfl,rfl⟩ (by rw[h9,hz]) λb o x=>iZ (iZ x)⟩
end
end PySem
namespace _L
open PySem Spec PyProof.Rows
variable{t:Bool}{a:b_}{h:ef}
section
variable{X:Cx}{pins:List (b_×Obj)}{σ:_L.St}{H:Hp}{s:bx}
theorem Inv.J9{ch:List b_}{h':ef}{o:HO}{t':Nat}(I:Inv X pins σ H s)(k:∀b u,b∉ch->s.heap.get? b=ap u->h'.get? b=ap u)(m:∀b∈ch,∃u,h'.get? b=ap u)(i:∀b∈ch,qP X pins H b)(new:bT X.prog X.w (upd H s.heap.objs.size o) h' s.heap.objs.size o):Inv X pins σ (upd H s.heap.objs.size o) {s with heap:=h',toks:=t'}:=by
 have fr:H s.heap.objs.size=none:=I.hok.fresh (eU);have l:∀b u,H b=ap u->b∉ch:=λb u e f=>by rw[(i b f).1]at e;cases e
 have j:∀b u,H b=ap u->upd H s.heap.objs.size o b=ap u:=λb u e=>by
  have:b≠s.heap.objs.size:=by rintro rfl;rw[fr]at e;cases e
  rw[aH this];exact e
 refine I.call (g':=s.gens) (d':=s.drawn) (ch:=ch) ⟨λb u e n _ g=>k b u g e,λb u e n _ g=>⟨u.slots,k b u g e⟩,λb u e n g=>?_,λb u e g=>⟨u,k b u g e⟩,λb xs e=>j b _ e,λb p u e=>j b _ e,λb ps e=>⟨#[],by rw[j b _ e];simp⟩⟩ ?_ I.bare λb f=>⟨(i b f).2.2.2.1,(i b f).2.1,(i b f).2.2.2.2.1,(i b f).2.2.2.2.2⟩;.have:b≠s.heap.objs.size:=dP (df e);rw[aH this];exact n
 . intro b u e;by_cases f:b=s.heap.objs.size;.subst f;rw[aP]at e;cases e;exact new
   . rw[aH f]at e;refine(I.hok b u e).stay (λc v hc q=>k c v ?_ q) (λc q=>j c _ q) λc xs q=>j c _ q;rcases hc with rfl|hc;.exact l _ _ e
     .exact l _ _ hc
end
noncomputable def Sq(t:Bool)(K:PySem.W.Frag)(H:Hp)(a:b_)(xs:List V):Prop:=if t then nU K H a xs else gq K H a xs
noncomputable def vO(t:Bool)(h:ef)(a:b_)(xs:Array bd):Prop:=if t then h.IsTuple a xs else h.IsList a xs
noncomputable def yC(t:Bool)(h:ef)(i a:b_)(k:Nat):Prop:=if t then h.IsTupleIter i a k else h.IsListIter i a k
section
variable{X:Cx}{pins:List (b_×Obj)}{σ:_L.St}{H:Hp}{s:bx}
theorem Inv.sq{xs:List V}(I:Inv X pins σ H s)(h:Sq t X.K H a xs):∃b:List bd,Vals xs b/\vO t s.heap a b.toArray:=by cases t with|true=>obtain⟨b,c,e,_⟩:=I.tuple h;exact⟨b,c,e⟩|false=>obtain⟨b,c,e,_⟩:=I.list h;exact⟨b,c,e.isList⟩
theorem Inv.Bo{xs ys:List V}(I:Inv X pins σ H s)(h:Sq t X.K H a xs)(h':Sq t X.K H a ys):xs=ys:=by cases t with|true=>exact I.qw h h'|false=>exact I.vm h h'
theorem vO.lt{xs:Array bd}(q:vO t h a xs):a<h.objs.size:=by cases t with|true=>obtain⟨o,e,_⟩:=id q;exact df e|false=>obtain⟨o,e,_⟩:=id q;exact df e
theorem yC.obj{i:b_}{k:Nat}(q:yC t h i a k):∃o,h.get? i=ap o/\∀v,o.data≠.cell v:=by cases t with|true=>obtain⟨o,b,e,c⟩:=id q;exact⟨o,b,λv z=>by rw[c]at z;cases z⟩|false=>obtain⟨o,b,e,c⟩:=id q;exact⟨o,b,λv z=>by rw[c]at z;cases z⟩
theorem yC.keep{h':ef}{i:b_}{k:Nat}(q:yC t h i a k)(e:∀o,h.get? i=ap o->h'.get? i=ap o):yC t h' i a k:=by cases t with|true=>obtain⟨o,b,r⟩:=id q;exact⟨o,e o b,r⟩|false=>obtain⟨o,b,r⟩:=id q;exact⟨o,e o b,r⟩
theorem vO.cls{t:Bool}{h:ef}{a:b_}{xs:Array bd}(q:vO t h a xs):∃o,h.get? a=ap o/\o.cls=.type (if t then"tuple"else"list"):=by cases t<;>(obtain⟨o,e,c,_⟩:=id q;exact⟨o,e,c⟩)
theorem yC.cls{t:Bool}{h:ef}{i a:b_}{k:Nat}(q:yC t h i a k):∃o,h.get? i=ap o/\o.cls=.type (if t then"tuple_iterator"else"list_iterator"):=by cases t<;>(obtain⟨o,e,c,_⟩:=id q;exact⟨o,e,c⟩)
theorem vO.keep{h':ef}{xs:Array bd}(q:vO t h a xs)(e:∀o,h.get? a=ap o->h'.get? a=ap o):vO t h' a xs:=by cases t<;>(obtain⟨o,b,r⟩:=id q;exact⟨o,e o b,r⟩)
end
noncomputable def CP(t:Bool)(K:PySem.W.Frag)(a:b_):It:=⟨λi H=>∃xs x,Sq t K H a xs/\xs[i]?=ap x,λi H x H'=>∃T v,H T=none/\x=.ref T/\H'=upd H T (.tup [.int (i:Int),v])/\∀xs,Sq t K H a xs->xs[i]?=ap v,λi H=>∃xs,Sq t K H a xs/\xs.length<=i⟩
theorem Wc(t:Bool){prog:c_}{w:eh}{A:et}(f:A.handled=none)(it l:b_)(e:l≠it)(items:Array bd):Draws prog w A it [it,l] items.size (λi v=>items[i]?=ap v) (λi h=>yC t h it l i/\vO t h l items)where
 live:=λ_ _ st=>let⟨o,ho,_⟩:=st.1.obj;⟨o,ho⟩;frame:=λ_ _ _ st g=>⟨st.1.keep (g it (by simp)),st.2.keep (g l (by simp))⟩;item:=λi s Q E hi st j=>by cases t with|false=>exact oZ st.1 st.2 (x:=items[i]) (by simp[hi]) λh' b c=>j _ h' s.toks (by simp[hi]) ⟨b,st.2.keep λo ho=>c.extBut l o e ho⟩ c|true=>exact jK st.1 st.2 (x:=items[i]) (by simp[hi]) λh' b c=>j _ h' s.toks (by simp[hi]) ⟨b,st.2.keep λo ho=>c.extBut l o e ho⟩ c
 done:=λs Q E st k=>by cases t with|false=>exact k_ f st.1 st.2 (by simp) k|true=>exact ie f st.1 st.2 (by simp) k
theorem Jl(t:Bool){prog:c_}{w:eh}{A:et}(b:A.handled=none)(it l:b_)(items:Array bd)(n:Nat)(c:items.size<=n):Draws prog w A it [it,l] n (λ_ _=>True) (λi h=>i=n/\yC t h it l i/\vO t h l items)where live:=λ_ _ st=>let⟨o,ho,_⟩:=st.2.1.obj;⟨o,ho⟩;frame:=λ_ _ _ st e=>⟨st.1,st.2.1.keep (e it (by simp)),st.2.2.keep (e l (by simp))⟩;item:=λi s Q E hi st g=>absurd st.1 (dP hi);done:=λs Q E st f=>by cases t with|false=>exact k_ b st.2.1 st.2.2 (by simp;exact c) f|true=>exact ie b st.2.1 st.2.2 (by simp;exact c) f
theorem K5(t:Bool){P:c_}{w:eh}{K:PySem.W.Frag}{elts:List da}{x1}{tp:Pos}(a it e:b_)(m:e≠it):Turn P w K (.Tuple elts x1 tp) (CP t K a) [e,it] e (λi h=>(∃c,IsEnum h e it (i:Int) c)/\yC t h it a i)where
 mem:=by simp
 obj:=λi h st b hb=>by
  obtain⟨⟨c,h1⟩,g⟩:=st;rcases de.mp hb with rfl|hb;.exact⟨_,h1,λv z=>by cases z⟩
  . have:b=it:=by simpa using hb
    subst this;exact g.obj
 keep:=λi h h' st k=>by obtain⟨⟨c,h1⟩,g⟩:=st;exact⟨⟨c,k e (by simp) _ h1⟩,g.keep (k it (by simp))⟩
 item:=λX Y Z hK hc i p s σ H E I G st go=>by
  subst Y Z hK;obtain⟨⟨c,he⟩,j⟩:=st;obtain⟨xs,x,J,r⟩:=go;obtain⟨l,L,M⟩:=I.sq J;obtain⟨oa,N,n⟩:=M.cls;have ac:e≠a:=by rintro rfl;rw[he]at N;cases N;cases t<;>exact absurd (show eZ "enumerate"=eZ _ from n) (by decide)
  have ae:a≠it:=by rintro rfl;obtain⟨o,g,h3⟩:=j.cls;rw[g]at N;cases N;rw[h3]at n;cases t<;>exact absurd n (by decide)
  have af:i<l.toArray.size:=by rw[cS,<-L.length];exact(gh r).1
  refine wpAny_pyNext_enum_itemD (Wc t (show X.A.in1.handled=none from I.ok.hd hc) it a ae l.toArray) he ⟨j,M⟩ af m (by simp[m,ac]) λy h' tk O ag hst ht hsz kp=>?_;refine⟨_,rfl,wpAny_letOwnedTupleGo_enum ag λB C U=>?_⟩;obtain⟨u,ah,ai⟩:=L.get r;have al:y=u:=by
   have O:l[i]?=ap y:=by simpa using O
   rw[ah]at O;cases O;rfl
  subst al;have hT:∀b∈[e,it],b≠s.heap.objs.size:=λb hb=>by
   rcases de.mp hb with rfl|hb;.exact dP (df he)
   . have:b=it:=by simpa using hb
     subst this;obtain⟨o,g,_⟩:=j.obj;exact dP (df g)
  have am:s.heap.objs.size≠e:=(hT e (by simp)).symm;have ar:∀b o,b∉[e,it]->s.heap.get? b=ap o->B.get? b=ap o:=λb o hb q=>by have h1:b≠e:=λz=>hb (by simp[z]);have g:b≠it:=λz=>hb (by simp[z]);exact U.extBut b o h1 (kp b o h1 g q)
  have Dt:B.get? s.heap.objs.size=ap {cls:=.type "tuple",data:=.seq #[.int i tk,y]}:=U.extBut _ _ am ht;refine⟨.ref s.heap.objs.size,upd H s.heap.objs.size (.tup [.int (i:Int),x]),?_,rfl,⟨_,x,I.fresh,rfl,rfl,λys aw=>?_⟩,⟨⟨_,C⟩,?_⟩,λb hb=>?_⟩
  . refine I.J9 (ch:=[e,it]) (t':=tk+1) ar (λb hb=>?_) (λb hb=>(G b hb)) ⟨(by show 2<=sizeLine;decide),[.int i tk,y],.cons ⟨_,rfl⟩ (.cons ai .nil),⟨_,Dt,rfl,_,rfl⟩⟩;rcases de.mp hb with rfl|hb;.exact⟨_,C⟩
    . have:b=it:=by simpa using hb
      subst this;obtain⟨o,g,_⟩:=hst.1.obj;exact⟨o,U.extBut _ _ (fk m) g⟩
  .rw[I.Bo aw J];exact r
  .exact hst.1.keep λo=>U.extBut _ o (fk m)
  .rw[aH (hT b hb)];exact(G b hb).1
 done:=λX Y Z hK hc i p s σ H E I G st stop=>by subst Y Z hK;obtain⟨⟨c,he⟩,j⟩:=st;obtain⟨xs,J,r⟩:=stop;obtain⟨l,L,M⟩:=I.sq J;refine wpAny_pyNext_enum_endD (Jl t (show X.A.in1.handled=none from I.ok.hd hc) it a l.toArray i (by rw[cS,<-L.length];exact r)) he ⟨rfl,j,M⟩ λh' hs=>⟨rfl,?_⟩;have f:=G it (by simp);exact I.turned (t':=s.toks) (λb o hb q=>hs b o hb q) f.1 f.2.1 f.2.2.2.1 f.2.2.2.2.1 f.2.2.2.2.2
 self:=λA i s Q E st q=>wpAny_pyIter_enum st.1.choose_spec q
section
variable{X:Cx}{elts:List da}{x1:Nat}{tp:Pos}
noncomputable def afU(K:PySem.W.Frag)(c:TE):TI:=λσ H R=>c σ H λx b=>∃a,x=.ref a/\(∃t,(∃xs,Sq t K b a xs)/\R (CP t K a) b)
theorem boot_enumerate:ez "enumerate"=ap (.type "enumerate"):=by decide+kernel
theorem V1{a:da}{l:TE}{p pos:Pos}(n:Gl X "enumerate")(v:X.mg "enumerate"=none)(y:PE X a l)(hs:cj [a] X.env=[(av,eg a X.env)]:=by rfl):PI X (.Tuple elts x1 tp) (.Call (.Name "enumerate" p) [a] [] pos) (afU X.K l):=by
 intro c s σ H R I h;refine Call_ (lq I n v boot_enumerate (eI (cN ((bD y dC hs) pos c s σ H (λvs e=>match vs with|[x]=>∃a,x=.ref a/\(∃t,(∃xs,Sq t X.K e a xs)/\R (CP t X.K a) e)|_=>False) I h) ?_) hs rfl));rintro E s1⟨vs,e,g,r1,j⟩
 . obtain⟨ad,q,k⟩:∃ad,(∃t,(∃xs,Sq t X.K e ad xs)/\R (CP t X.K ad) e)/\vs=[.ref ad]:=by cases vs with|nil=>cases j|cons x r=>cases r with|nil=>obtain⟨ad,rfl,q⟩:=j;exact⟨ad,q,rfl⟩|cons _ _=>cases j
   subst k;obtain⟨u,rfl,z⟩:=r1.one;cases z;have fin:∀(h':ef)(i:Nat->ef->Prop)(J:It),Turn X.prog X.w X.K (.Tuple elts x1 tp) J [s1.heap.objs.size+1,s1.heap.objs.size] (s1.heap.objs.size+1) i->i 0 h'->IsEnum h' (s1.heap.objs.size+1) s1.heap.objs.size 0 .none->(∀b o,s1.heap.get? b=ap o->h'.get? b=ap o)->R J e->cH (cM X.prog X.w) X.A (nN (.ref (s1.heap.objs.size+1))) (PIE X c σ (.Tuple elts x1 tp) R) X.xe {s1 with heap:=h'}:=λh' i J T t0 he kp q=>by
    refine wpAny_pyIter_enum he ⟨_,_,i,J,e,rfl,g.kept (t':=s1.toks) kp,T,t0,λb hb=>?_,q⟩;have f:s1.heap.objs.size<=b:=by
     rcases de.mp hb with rfl|hb;.exact le_succ _
     . have:b=s1.heap.objs.size:=by simpa using hb
       rw[this];exact eU
    exact g.BJ f (g.hok.fresh f)
   obtain⟨t,⟨xs,B⟩,q⟩:=q;obtain⟨C,G,m⟩:=g.sq B;have T:=K5 (P:=X.prog) (w:=X.w) (K:=X.K) (elts:=elts) (x1:=x1) (tp:=tp) t ad s1.heap.objs.size (s1.heap.objs.size+1) (Nat.succ_ne_self _);cases t with|false=>exact call_enumerate_list m λh' he hi hsz kp=>fin h' _ _ T ⟨⟨_,he⟩,hi⟩ he kp q|true=>exact mQ m λh' he hi hsz kp=>fin h' _ _ T ⟨⟨_,he⟩,hi⟩ he kp q
end
end _L
namespace _H
open PySem _L Spec PyProof.Rows
section
variable{K:PySem.W.Frag}{F F1 H H1:Hp}{ρ ρ1:List Sl}{σ:_L.St}{ds:List D}{a:b_}
theorem zN{F' H':Hp}{T:b_}{v w:V}{d1 d2:D}(e:aJ F' H')(f:H' T=none)(r1:Rep K F' v d1)(g:Rep K F' w d2):∃b,Ext F' H' b (upd H' T (.tup [v,w]))/\Rep K b (.ref T) (.tup [d1,d2]):=Dh (Q:=λv c=>∃b,Ext F' H' b c/\Rep K b v (.tup [d1,d2])) e (.cons r1 (.cons g .nil)) f λv b c x h=>⟨b,x,h⟩
theorem Ek{t:Bool}{xs:List V}{F' H':Hp}(c:Sq t K H' a xs)(r:aN K F' xs ds)(s:aJ F' H')(k:Nat):(∀d,(ds.mapIdx λi d=>D.tup [.int (i:Int),d])[k]?=ap d->(CP t K a).go k H'/\∀x e,(CP t K a).Nm k H' x e->∃b,Ext F' H' b e/\Rep K b x d)/\((ds.mapIdx λi d=>D.tup [.int (i:Int),d]).length<=k->(CP t K a).stop k H'):=by refine⟨λd hd=>?_,λh=>⟨xs,c,by rw[r.length];simpa using h⟩⟩;rw[List.getElem?_mapIdx]at hd;obtain⟨d0,f,g⟩:=map_some hd;subst g;obtain⟨w,h1,j⟩:=r.get f;refine⟨⟨xs,w,c,h1⟩,?_⟩;rintro x e⟨T,v,l,m,n,y⟩;subst m;subst n;have:=y xs c;rw[h1]at this;cases this;exact zN s l (cL _) j
end
section
variable{X:Cx}{c:Call}{e a:da}{pa:P}{pos:Pos}{elts:List da}{x1:Nat}{tp:Pos}
theorem U8{x:Str}{p':Pos}(y:x="enumerate")(z:Gl X x)(A:X.mg x=none)(B:SX X c a pa)(hs:cj [a] X.env=[(av,eg a X.env)]:=by rfl):SI X c (.Tuple elts x1 tp) (.Call (.Name x p') [a] [] pos) (.enm pa):=by subst y;refine n6 (V1 z A B.ev hs) ?_;rintro σ H R⟨F,ρ,N,C,g,e,k⟩;obtain⟨r,E,w,j⟩:=aj e;have m:=aF j;clear j;obtain⟨j,G⟩:=m;subst G;rw[_H.E22]at w;obtain⟨r0,h,I,l⟩:=aj w;have m:=aF l;clear l;obtain⟨l,J⟩:=m;subst J;obtain⟨es,f1,f2⟩:=map_some l;subst f2;cases j;refine⟨F,ρ,r0,_,g,I,λv F' H' s i=>?_⟩;obtain⟨O,s2,_,f⟩:=s.eN i;cases hd:r0.d with|tup o=>rw[hd]at f1 f;cases f1;rw[Rep]at f;obtain⟨ad,xs,rfl,h1,p⟩:=f;exact⟨ad,rfl,bj,⟨xs,aJ.jq s2.gs.sub h1⟩,k _ _ _ ⟨s2.gs,λn k F' q σ' H' b=>Ek (t:=bj) (aJ.jq b.gs.sub (aJ.jq b.cG h1)) (p.mono b.cG) b.gs.sub k,λL h u M s3=>⟨s2.trans s3,λv r i=>i.later s2⟩⟩⟩|lst o=>rw[hd]at f1 f;cases f1;rw[Rep]at f;obtain⟨ad,xs,rfl,h1,p⟩:=f;exact⟨ad,rfl,av,⟨xs,s2.gs.sub.seq h1⟩,k _ _ _ ⟨s2.gs,λn k F' q σ' H' b=>Ek (t:=av) (b.gs.sub.seq (b.cG.seq h1)) (p.mono b.cG) b.gs.sub k,λL h u M s3=>⟨s2.trans s3,λv r i=>i.later s2⟩⟩⟩|_=>rw[hd]at f1;cases f1
end
end _H
namespace PySem
structure Nx(prog:c_)(w:eh)(A:et)(it src:b_)(Sx:Nat->ef->Prop)(get:Nat->Option bd):Prop where
 obj:∀k h,Sx k h->∃o,h.get? it=ap o/\∀v,o.data≠.cell v
 keep:∀k h h',Sx k h->(∀o,h.get? it=ap o->h'.get? it=ap o)->(∀o,h.get? src=ap o->h'.get? src=ap o)->Sx k h'
 item:∀k(s:bx)(Q:bd->bx->Prop)(E:bd->bx->Prop)x,Sx k s.heap->get k=ap x->(∀h',Sx (k+1) h'->p5 it s.heap h'->Q x {s with heap:=h'})->cH (cM prog w) A (lj (.ref it)) Q E s
 fin:∀k(s:bx)(Q:bd->bx->Prop)(E:bd->bx->Prop),Sx k s.heap->get k=none->(∀h' e,Heap.ExtBut it s.heap h'->(∃o,h'.get? e=ap o/\o.cls=.type "StopIteration")->E (.ref e) {s with heap:=h'})->cH (cM prog w) A (lj (.ref it)) Q E s
section
variable{prog:c_}{w:eh}{A:et}{E:bd->bx->Prop}{s:bx}
theorem Nx.list(g:A.handled=none)(it l:b_)(c:l≠it)(items:Array bd):Nx prog w A it l (λk h=>h.IsListIter it l k/\h.IsList l items) (λk=>items[k]?)where obj:=λk h st=>let⟨o,h1,_,h3⟩:=st.1;⟨o,h1,λv z=>by rw[h3]at z;cases z⟩;keep:=λk h h' st a b=>⟨(let⟨o,ho,r⟩:=st.1;⟨o,a o ho,r⟩),(let⟨o,ho,r⟩:=st.2;⟨o,b o ho,r⟩)⟩;item:=λk s Q E x st e i=>oZ st.1 st.2 e λh' f hs=>i h' ⟨f,(let⟨o,ho,r⟩:=st.2;⟨o,hs.extBut l o c ho,r⟩)⟩ hs;fin:=λk s Q E st e j=>k_ g st.1 st.2 e j
theorem Nx.tuple(g:A.handled=none)(it l:b_)(c:l≠it)(items:Array bd):Nx prog w A it l (λk h=>h.IsTupleIter it l k/\h.IsTuple l items) (λk=>items[k]?)where obj:=λk h st=>let⟨o,h1,_,h3⟩:=st.1;⟨o,h1,λv z=>by rw[h3]at z;cases z⟩;keep:=λk h h' st a b=>⟨(let⟨o,ho,r⟩:=st.1;⟨o,a o ho,r⟩),(let⟨o,ho,r⟩:=st.2;⟨o,b o ho,r⟩)⟩;item:=λk s Q E x st e i=>jK st.1 st.2 e λh' f hs=>i h' ⟨f,(let⟨o,ho,r⟩:=st.2;⟨o,hs.extBut l o c ho,r⟩)⟩ hs;fin:=λk s Q E st e j=>ie g st.1 st.2 e j
variable{z TI TO i1 i2 l1 l2:b_}{k:Nat}{S1 S2:Nat->ef->Prop}{g1 g2:Nat->Option bd}{a b:bd}
theorem Hg{x y:bd}{Q:bd->bx->Prop}(D:lw z TI TO i1 i2 l1 l2)(t:Nx prog w A i1 l1 S1 g1)(u:Nx prog w A i2 l2 S2 g2)(hz:kl s.heap z TI TO .none)(G:fW s.heap TI (.ref i1) (.ref i2))(H:fW s.heap TO a b)(h1:S1 k s.heap)(W:S2 k s.heap)(X:g1 k=ap x)(Y:g2 k=ap y)(Z:∀ h',kl h' z TI TO (hQ s.heap.objs.size)->fW h' TO x y->S1 (k+1) h'->S2 (k+1) h'->fW h' s.heap.objs.size x y->h'.objs.size=s.heap.objs.size+1->(∀c o,c≠z->c≠TO->c≠i1->c≠i2->s.heap.get? c=ap o->h'.get? c=ap o)->Q (.ref s.heap.objs.size) {s with heap:=h'}):cH (cM prog w) A (i3.«zip.__next__» ⟨[.ref z],[]⟩) (λfin s'=>∃v,fin=.done (.ret v)/\Q v s') E s:=by
 show cH _ _ (oB (.ref z) 2>>=_) _ _ _;refine a_ (eK hz rfl (x:=.bool av) rfl ?_);show cH _ _ (oB (.ref z) 3>>=_) _ _ _;refine a_ (eK hz rfl (x:=.ref TI) rfl (a_ (gu G rfl ?_)));show cH _ _ (kA (.ref z)>>=_) _ _ _;refine a_ ?_;unfold kA;refine a_ (eK hz rfl (x:=.none) rfl (cv ?_));simp only[if_true];refine a_ (jD (a_ (eK hz rfl (x:=.ref TO) rfl (a_ (gE hz (by simp) λt1 I g=>?_)))));have I:kl t1 z TI TO .ellipsis:=I;refine a_ ?_;simp only[List.zipIdx_cons,List.zipIdx_nil,forIn_cons,forIn_nil];refine a_ (a_ (l6 ?_));show cH _ _ (lj (.ref i1)>>=_) _ _ _;have q1:S1 k t1:=t.keep _ _ _ h1 (λo e=>g.extBut _ _ D.i1z e) λo e=>g.extBut _ _ D.l1z e;refine a_ (t.item k _ _ _ x q1 X λt2 q2 m=>cv ?_);have p2:fW t2 TO a b:=m.extBut _ _ D.TOi1 (g.extBut _ _ D.TOz H);refine a_ (gu p2 rfl (a_ (li p2 λL p3 h=>?_)));have p3:fW L TO x b:=p3;refine a_ (qa (cv (a_ (a_ (l6 ?_)))));show cH _ _ (lj (.ref i2)>>=_) _ _ _;have w3:S2 k L:=u.keep _ _ _ W (λo e=>h.extBut _ _ D.TOi2.symm (m.extBut _ _ D.i12.symm (g.extBut _ _ D.i2z e))) λo e=>h.extBut _ _ D.l2TO (m.extBut _ _ D.l2i1 (g.extBut _ _ D.l2z e));refine a_ (u.item k _ _ _ y w3 Y λt4 w4 n=>cv ?_);have M:fW t4 TO x b:=n.extBut _ _ D.TOi2 p3;refine a_ (gu M rfl (a_ (li M λf B i=>?_)));have B:fW f TO x y:=B;refine a_ (qa (cv (cv (a_ (gu B rfl (a_ (wpAny_newTuple ?_)))))));have hsz:f.objs.size=s.heap.objs.size:=by rw[i.1,n.1,h.1,m.1,g.1]
 have N:kl f z TI TO .ellipsis:=i.extBut _ _ D.TOz.symm (n.extBut _ _ D.i2z.symm (h.extBut _ _ D.TOz.symm (m.extBut _ _ D.i1z.symm I)));have kp:∀c o,c≠z->c≠TO->c≠i1->c≠i2->s.heap.get? c=ap o->f.get? c=ap o:=λc o c1 c2 c3 c4 e=>i.extBut _ _ c2 (n.extBut _ _ c4 (h.extBut _ _ c2 (m.extBut _ _ c3 (g.extBut _ _ c1 e))));have q5:S1 (k+1) f:=t.keep _ _ _ q2 (λo e=>i.extBut _ _ D.TOi1.symm (n.extBut _ _ D.i12 (h.extBut _ _ D.TOi1.symm e))) λo e=>i.extBut _ _ D.l1TO (n.extBut _ _ D.l1i2 (h.extBut _ _ D.l1TO e));have w5:S2 (k+1) f:=u.keep _ _ _ w4 (λo e=>i.extBut _ _ D.TOi2.symm e) λo e=>i.extBut _ _ D.l2TO e;have q:z<f.objs.size:=df N;show cH _ _ (ownedTupleHandOut (.ref z) (.ref f.objs.size)>>=_) _ _ _;refine a_ ?_;unfold ownedTupleHandOut;have z6:kl (f.push {cls:=.type "tuple",data:=.seq #[x,y]}) z TI TO .ellipsis:=iZ N;refine a_ (gE z6 (by simp) λt7 J j=>?_);have J:kl t7 z TI TO (hQ f.objs.size):=J;refine gE J (by simp) λr C l=>?_;have C:kl r z TI TO (hQ f.objs.size):=C;have p:∀c o,c≠z->f.get? c=ap o->r.get? c=ap o:=λc o c1 e=>l.extBut _ _ c1 (j.extBut _ _ c1 (iZ e));have O:fW r f.objs.size x y:=l.extBut _ _ (nV q) (j.extBut _ _ (nV q) (dl _ rfl));have U:r.objs.size=f.objs.size+1:=by rw[l.1,j.1,h9]
 rw[hsz]at C O U;refine cv ⟨_,rfl,?_⟩;show Q (.ref f.objs.size) _;rw[hsz];exact Z r C (p _ _ D.TOz B) (t.keep _ _ _ q5 (λo e=>p _ o D.i1z e) λo e=>p _ o D.l1z e) (u.keep _ _ _ w5 (λo e=>p _ o D.i2z e) λo e=>p _ o D.l2z e) O U λc o c1 c2 c3 c4 e=>p c o c1 (kp c o c1 c2 c3 c4 e)
theorem Nj{Q:Fin->bx->Prop}(D:lw z TI TO i1 i2 l1 l2)(q:Nx prog w A i1 l1 S1 g1)(y:Nx prog w A i2 l2 S2 g2)(hz:kl s.heap z TI TO .none)(r:fW s.heap TI (.ref i1) (.ref i2))(t:fW s.heap TO a b)(h1:S1 k s.heap)(L:S2 k s.heap)(n:g1 k=none\/g2 k=none)(B:∀h' e,(∀c o,c≠z->c≠TO->c≠i1->c≠i2->s.heap.get? c=ap o->h'.get? c=ap o)->(∃o,h'.get? e=ap o/\o.cls=.type "StopIteration")->E (.ref e) {s with heap:=h'}):cH (cM prog w) A (i3.«zip.__next__» ⟨[.ref z],[]⟩) Q E s:=by
 show cH _ _ (oB (.ref z) 2>>=_) _ _ _;refine a_ (eK hz rfl (x:=.bool av) rfl ?_);show cH _ _ (oB (.ref z) 3>>=_) _ _ _;refine a_ (eK hz rfl (x:=.ref TI) rfl (a_ (gu r rfl ?_)));show cH _ _ (kA (.ref z)>>=_) _ _ _;refine a_ ?_;unfold kA;refine a_ (eK hz rfl (x:=.none) rfl (cv ?_));simp only[if_true];refine a_ (jD (a_ (eK hz rfl (x:=.ref TO) rfl (a_ (gE hz (by simp) λt1 p j=>?_)))));have p:kl t1 z TI TO .ellipsis:=p;refine a_ ?_;simp only[List.zipIdx_cons,List.zipIdx_nil,forIn_cons,forIn_nil];refine a_ (a_ (l6 ?_));show cH _ _ (lj (.ref i1)>>=_) _ _ _
 have C:S1 k t1:=q.keep _ _ _ h1 (λo e=>j.extBut _ _ D.i1z e) λo e=>j.extBut _ _ D.l1z e;cases hx:g1 k with|none=>
   refine a_ (q.fin k _ _ _ C hx λt2 e i he=>?_);obtain⟨u,f,g⟩:=he;have G:kl t2 z TI TO .ellipsis:=i _ _ D.i1z.symm p;have l:e≠z:=λx=>by subst x;rw[G]at f;cases f;simp at g
   exact gE G (by simp) λv _ m=>B v e (λc o c1 _ c3 _ x=>m.extBut _ _ c1 (i _ _ c3 (j.extBut _ _ c1 x))) ⟨u,m.extBut _ _ l f,g⟩|some x=>
   have M:g2 k=none:=by rcases n with h|h;rw[hx]at h;cases h;exact h
   refine a_ (q.item k _ _ _ x C hx λt2 W i=>cv ?_);have p2:fW t2 TO a b:=i.extBut _ _ D.TOi1 (j.extBut _ _ D.TOz t);refine a_ (gu p2 rfl (a_ (li p2 λv p3 m=>?_)));refine a_ (qa (cv (a_ (a_ (l6 ?_)))));show cH _ _ (lj (.ref i2)>>=_) _ _ _;have N:S2 k v:=y.keep _ _ _ L (λo e=>m.extBut _ _ D.TOi2.symm (i.extBut _ _ D.i12.symm (j.extBut _ _ D.i2z e))) λo e=>m.extBut _ _ D.l2TO (i.extBut _ _ D.l2i1 (j.extBut _ _ D.l2z e));refine a_ (y.fin k _ _ _ N M λO e H he=>?_);obtain⟨u,f,g⟩:=he;have I:kl O z TI TO .ellipsis:=H _ _ D.i2z.symm (m.extBut _ _ D.TOz.symm (i.extBut _ _ D.i1z.symm p));have l:e≠z:=λx=>by subst x;rw[I]at f;cases f;simp at g
   exact gE I (by simp) λU _ J=>B U e (λc o c1 c2 c3 c4 x=>J.extBut _ _ c1 (H _ _ c4 (m.extBut _ _ c2 (i.extBut _ _ c3 (j.extBut _ _ c1 x))))) ⟨u,J.extBut _ _ l f,g⟩
theorem qQ{x y:bd}{Q:Option bd->bx->Prop}(D:lw z TI TO i1 i2 l1 l2)(h:Nx prog w A.in1 i1 l1 S1 g1)(i:Nx prog w A.in1 i2 l2 S2 g2)(hz:kl s.heap z TI TO .none)(e:fW s.heap TI (.ref i1) (.ref i2))(f:fW s.heap TO a b)(h1:S1 k s.heap)(j:S2 k s.heap)(l:g1 k=ap x)(m:g2 k=ap y)(n:∀ h',kl h' z TI TO (hQ s.heap.objs.size)->fW h' TO x y->S1 (k+1) h'->S2 (k+1) h'->fW h' s.heap.objs.size x y->h'.objs.size=s.heap.objs.size+1->(∀c o,c≠z->c≠TO->c≠i1->c≠i2->s.heap.get? c=ap o->h'.get? c=ap o)->Q (ap (.ref s.heap.objs.size)) {s with heap:=h'}):cH (cM prog w) A (nM (.ref z)) Q E s:=by have g:s.TypeIs (.ref z) "zip":=⟨_,hz,rfl⟩;unfold nM;exact a_ (kn (fv (name:=ii "__next__") g F.slot_zip_next (gx F.slot_zip_next g F.entry_zip_next (Hg D h i hz e f h1 j l m λh' p q r t u v B=>cv (n h' p q r t u v B)) (F.args_zip_next_1 _))))
theorem rW{Q:Option bd->bx->Prop}(D:lw z TI TO i1 i2 l1 l2)(j:Nx prog w A.in1 i1 l1 S1 g1)(l:Nx prog w A.in1 i2 l2 S2 g2)(hz:kl s.heap z TI TO .none)(g:fW s.heap TI (.ref i1) (.ref i2))(h:fW s.heap TO a b)(h1:S1 k s.heap)(m:S2 k s.heap)(f:g1 k=none\/g2 k=none)(n:∀h',(∀c o,c≠z->c≠TO->c≠i1->c≠i2->s.heap.get? c=ap o->h'.get? c=ap o)->Q none {s with heap:=h'}):cH (cM prog w) A (nM (.ref z)) Q E s:=by have i:s.TypeIs (.ref z) "zip":=⟨_,hz,rfl⟩;unfold nM;refine a_ (kn (fv (name:=ii "__next__") i F.slot_zip_next (gx F.slot_zip_next i F.entry_zip_next (Nj D j l hz g h h1 m f λh' e p he=>?_) (F.args_zip_next_1 _))));obtain⟨o,ho,hc⟩:=he;exact a_ (wpAny_isInstance (T:="StopIteration") (b:=bj) ⟨o,ho,hc⟩ isSubtype_stop (cv (n _ p)))
end
end PySem
namespace _L
open PySem Spec PyProof.Rows
section
variable{X:Cx}{pins:List (b_×Obj)}{σ:_L.St}{H:Hp}{s:bx}
theorem Px(t:Bool){prog:c_}{w:eh}{A:et}(b:A.handled=none)(it l:b_)(a:l≠it)(items:Array bd):Nx prog w A it l (λk h=>yC t h it l k/\vO t h l items) (λk=>items[k]?):=by cases t with|true=>exact Nx.tuple b it l a items|false=>exact Nx.list b it l a items
theorem Inv.LQ{ch:List b_}{h':ef}(I:Inv X pins σ H s)(k:∀b u,b∉ch->s.heap.get? b=ap u->h'.get? b=ap u)(g:∀b∈ch,qP X pins H b):Inv X pins σ H {s with heap:=h'}:=by
 have h:∀b u,H b=ap u->b∉ch:=λb u e a=>by rw[(g b a).1]at e;cases e
 refine I.call (g':=s.gens) (d':=s.drawn) (t':=s.toks) (ch:=ch) ⟨λb u e n _ f=>k b u f e,λb u e n _ f=>⟨u.slots,k b u f e⟩,λb u e n f=>n,λb u e f=>⟨u,k b u f e⟩,λb xs e=>e,λb i u e=>e,λb ps e=>⟨#[],by rw[e];simp⟩⟩ ?_ I.bare λb a=>⟨(g b a).2.2.2.1,(g b a).2.1,(g b a).2.2.2.2.1,(g b a).2.2.2.2.2⟩;intro b u e;refine(I.hok b u e).stay (λc v hc q=>k c v ?_ q) (λc q=>q) λc xs q=>q;rcases hc with rfl|hc;.exact h _ _ e
 .exact h _ _ hc
end
noncomputable def Itz(t1 t2:Bool)(K:PySem.W.Frag)(a b:b_):It:=⟨λi H=>∃ xs ys x y,Sq t1 K H a xs/\Sq t2 K H b ys/\xs[i]?=ap x/\ys[i]?=ap y,λi H x H'=>∃T v w,H T=none/\x=.ref T/\H'=upd H T (.tup [v,w])/\(∀xs,Sq t1 K H a xs->xs[i]?=ap v)/\∀ys,Sq t2 K H b ys->ys[i]?=ap w,λi H=>∃xs ys,Sq t1 K H a xs/\Sq t2 K H b ys/\(xs.length<=i\/ys.length<=i)⟩
theorem Lp{P:c_}{w:eh}{K:PySem.W.Frag}{elts:List da}{x1}{tp:Pos}(t1 t2:Bool){z TI TO f g G l2:b_}(D:lw z TI TO f g G l2):Turn P w K (.Tuple elts x1 tp) (Itz t1 t2 K G l2) [z,TI,TO,f,g] z (λi h=>kl h z TI TO .none/\fW h TI (.ref f) (.ref g)/\(∃a b,fW h TO a b)/\yC t1 h f G i/\yC t2 h g l2 i)where
 mem:=by simp
 obj:=λi h st b c=>by
  obtain⟨h1,m,⟨u,v,r⟩,t,B⟩:=st;simp only[de,io,or_false]at c;rcases c with rfl|rfl|rfl|rfl|rfl;.exact⟨_,h1,λv z=>by cases z⟩
  .exact⟨_,m,λv z=>by cases z⟩
  .exact⟨_,r,λv z=>by cases z⟩
  .exact t.obj
  .exact B.obj
 keep:=λi h h' st k=>by obtain⟨h1,m,⟨u,v,r⟩,t,B⟩:=st;exact⟨k z (by simp) _ h1,k TI (by simp) _ m,⟨u,v,k TO (by simp) _ r⟩,t.keep (k f (by simp)),B.keep (k g (by simp))⟩
 item:=λX hP hw hK hc i J s σ H E I U st go=>by
  subst hP hw hK;obtain⟨h1,m,⟨u,v,r⟩,t,B⟩:=st;obtain⟨xs,ys,x,y,n,p,hx,hy⟩:=go;obtain⟨RT,C,Z5⟩:=I.sq n;obtain⟨j,Yn,Ua⟩:=I.sq p;obtain⟨Y,ac,ae⟩:=C.get hx;obtain⟨Z,af,ag⟩:=Yn.get hy;have L:X.A.in1.handled=none:=I.ok.hd hc;refine qQ D (Px t1 L f G D.l1i1 RT.toArray) (Px t2 L g l2 D.l2i2 j.toArray) h1 m r (k:=i) ⟨t,Z5⟩ ⟨B,Ua⟩ (x:=Y) (y:=Z) (by simpa using ac) (by simpa using af) λh' z1 p1 s1 s2 pT hsz kp=>?_;refine⟨_,rfl,wpAny_letOwnedTupleGo_zip z1 λl z2 M=>?_⟩;have N:∀b∈[z,TI,TO,f,g],b≠s.heap.objs.size:=λb c=>by
   simp only[de,io,or_false]at c;rcases c with rfl|rfl|rfl|rfl|rfl;.exact dP (df h1)
   .exact dP (df m)
   .exact dP (df r)
   .exact dP (df t.obj.choose_spec.1)
   .exact dP (df B.obj.choose_spec.1)
  have O:∀b o,b∉[z,TO,f,g]->s.heap.get? b=ap o->l.get? b=ap o:=λb o c q=>by simp only[de,io,or_false,not_or]at c;exact M.extBut b o c.1 (kp b o c.1 c.2.1 c.2.2.1 c.2.2.2 q)
  have ah:fW l s.heap.objs.size Y Z:=M.extBut _ _ (N z (by simp)).symm pT;have p2:fW l TO Y Z:=M.extBut _ _ D.TOz p1;have j1:yC t1 l f G (i+1):=s1.1.keep λo e=>M.extBut _ _ D.i1z e;have j2:yC t2 l g l2 (i+1):=s2.1.keep λo e=>M.extBut _ _ D.i2z e;refine⟨.ref s.heap.objs.size,upd H s.heap.objs.size (.tup [x,y]),?_,rfl,⟨_,x,y,I.fresh,rfl,rfl,λzs hz=>?_,λzs hz=>?_⟩,⟨z2,O TI _ ?_ m,⟨_,_,p2⟩,j1,j2⟩,λb c=>?_⟩
  . refine I.J9 (ch:=[z,TO,f,g]) (t':=s.toks) O (λb c=>?_) (λb c=>U b ?_) ⟨(by show 2<=sizeLine;decide),[Y,Z],.cons ae (.cons ag .nil),⟨_,ah,rfl,_,rfl⟩⟩
    . simp only[de,io,or_false]at c;rcases c with rfl|rfl|rfl|rfl;.exact⟨_,z2⟩
      .exact⟨_,p2⟩
      .exact⟨_,j1.obj.choose_spec.1⟩
      .exact⟨_,j2.obj.choose_spec.1⟩
    .simp only[de,io,or_false]at c ⊢;rcases c with h|h|h|h<;>simp[h]
  .rw[I.Bo hz n];exact hx
  .rw[I.Bo hz p];exact hy
  .simp[D.TIz,D.TITO,D.TIi1,D.TIi2]
  .rw[aH (N b c)];exact(U b c).1
 done:=λX hP hw hK hc i J s σ H E I U st stop=>by
  subst hP hw hK;obtain⟨h1,m,⟨u,v,r⟩,t,B⟩:=st;obtain⟨xs,ys,n,p,hx⟩:=stop;obtain⟨RT,C,Z5⟩:=I.sq n;obtain⟨j,Yn,Ua⟩:=I.sq p;have L:X.A.in1.handled=none:=I.ok.hd hc;refine rW D (Px t1 L f G D.l1i1 RT.toArray) (Px t2 L g l2 D.l2i2 j.toArray) h1 m r (k:=i) ⟨t,Z5⟩ ⟨B,Ua⟩ ?_ λh' kp=>⟨rfl,?_⟩
  . rcases hx with hx|hx;.left;rw[C.length]at hx;simpa using hx
    .right;rw[Yn.length]at hx;simpa using hx
  .exact I.LQ (ch:=[z,TO,f,g]) (λb u c q=>by simp only[de,io,or_false,not_or]at c;exact kp b u c.1 c.2.1 c.2.2.1 c.2.2.2 q) λb c=>U b (by simp only[de,io,or_false]at c ⊢;rcases c with h|h|h|h<;>simp[h])
 self:=λA i s Q E st q=>wpAny_pyIter_zip st.1 q
noncomputable def Vj(t:Bool)(l:b_):Obj:={cls:=.type (if t then"tuple_iterator"else"list_iterator"),data:=.fields #[.ref l,.int 0 0]}
section
variable{prog:c_}{w:eh}{A:et}{E:bd->bx->Prop}{s:bx}{t t1 t2:Bool}{l1 l2:b_}{xs ys:Array bd}{Q:bd->bx->Prop}
theorem Jk(a:vO t s.heap l1 xs)(b:Q (.ref s.heap.objs.size) {s with heap:=s.heap.push (Vj t l1)}):cH (cM prog w) A (nN (.ref l1)) Q E s:=by
 cases t;.exact kc a b
 .exact gI a b
theorem vO.push{h:ef}(o:Obj)(q:vO t h l1 xs):vO t (h.push o) l1 xs:=by
 cases t;.exact Heap.IsList.push q _
 .exact Heap.IsTuple.push q _
theorem yC.new{h:ef}(e:h.get? l2=ap (Vj t l1)):yC t h l2 l1 0:=by cases t<;>exact⟨_,e,rfl,rfl⟩
noncomputable def abL(l1 l2:b_):Obj:={cls:=.type "zip",data:=.fields #[.none,.bool av,.bool av,.ref l1,.ref l2]}
noncomputable def Qt(u v:bd):Obj:={cls:=.type "tuple",data:=.seq #[u,v]}
theorem Hn(t1 t2:Bool)(l1 l2:b_)(xs ys:Array bd):oI (i3.«zip.__new__» ⟨[.type "zip",.ref l1,.ref l2],[]⟩) (λ_ R s=>vO t1 s.heap l1 xs/\vO t2 s.heap l2 ys/\R (.ok (.ret (.ref (s.heap.objs.size+4)))) {s with heap:=((((s.heap.push (Vj t1 l1)).push (Vj t2 l2)).push (Qt (.ref s.heap.objs.size) (.ref (s.heap.objs.size+1)))).push (Qt .none .none)).push (abL (s.heap.objs.size+2) (s.heap.objs.size+3))}):=.of_wp λprog w A R s h=>by obtain⟨f,g,d,i,os⟩:=s;obtain⟨a,b,h⟩:=h;have j:=sub_zip;have c:vO t1 (nE ⟨f,g,d,i,os⟩) l1 xs:=a;have e:vO t2 (nE ⟨f.push (Vj t1 l1),g,d,i,os⟩) l2 ys:=b.push _;wp_walk using Jk c,Jk e;simp only[h9]at*;exact⟨_,rfl,h⟩
theorem pG{h h':ef}{o:Obj}{n:Nat}(e:h.push o=h')(a:h.objs.size=n)(f:o.isFreed=av):h'.objs.size=n+1/\h'.get? n=ap o/\∀c u,h.get? c=ap u->h'.get? c=ap u:=by subst e a;exact⟨h9 _ _,dl _ f,λ_ _=>get?_push_of_some _⟩
theorem GX(b:vO t1 s.heap l1 xs)(f:vO t2 s.heap l2 ys)(h:∀ h',kl h' (s.heap.objs.size+4) (s.heap.objs.size+2) (s.heap.objs.size+3) .none->fW h' (s.heap.objs.size+2) (.ref s.heap.objs.size) (.ref (s.heap.objs.size+1))->fW h' (s.heap.objs.size+3) .none .none->yC t1 h' s.heap.objs.size l1 0->yC t2 h' (s.heap.objs.size+1) l2 0->(∀c o,s.heap.get? c=ap o->h'.get? c=ap o)->Q (.ref (s.heap.objs.size+4)) {s with heap:=h'}):cH (cM prog w) A (call (.type "zip") [.ref l1,.ref l2]) Q E s:=by refine p4 F.called_zip (by decide) (F.typeCall_zip_2 _ _) (F.newCall_zip_2 _ _) (λobj=>F.args_object_init_3 obj _ _) F.entry_zip_new (Hn t1 t2 l1 l2 xs ys) ⟨b,f,?_⟩;generalize i:s.heap.push (Vj t1 l1)=h1;obtain⟨j,k,k1⟩:=pG i rfl rfl;generalize l:h1.push (Vj t2 l2)=m;obtain⟨n,p,k2⟩:=pG l j rfl;generalize q:m.push (Qt _ _)=r;obtain⟨u,v,k3⟩:=pG q n rfl;generalize x:r.push (Qt _ _)=y;obtain⟨z,B,a⟩:=pG x u rfl;generalize C:y.push (abL _ _)=G;obtain⟨_,g,k5⟩:=pG C z rfl;exact⟨⟨_,g,rfl⟩,h G g (k5 _ _ (a _ _ v)) (k5 _ _ B) (.new (k5 _ _ (a _ _ (k3 _ _ (k2 _ _ k))))) (.new (k5 _ _ (a _ _ (k3 _ _ p)))) λc o e=>k5 _ _ (a _ _ (k3 _ _ (k2 _ _ (k1 _ _ e))))⟩
end
section
variable{X:Cx}{elts:List da}{x1:Nat}{tp:Pos}
theorem Yb{n l m:Nat}(h1:l<n)(a:m<n):lw (n+4) (n+2) (n+3) n (n+1) l m:=by constructor<;>exact λh=>absurd (show(_:Nat)=_ from h) (by lia)
noncomputable def afT(K:PySem.W.Frag)(R:It->Hp->Prop)(vs:List V)(c:Hp):Prop:=∃t1 t2 a b,vs=[.ref a,.ref b]/\(∃xs,Sq t1 K c a xs)/\(∃ys,Sq t2 K c b ys)/\R (Itz t1 t2 K a b) c
noncomputable def afW(K:PySem.W.Frag)(a:TA):TI:=λσ H R=>a σ H (afT K R)
theorem boot_zip:ez "zip"=ap (.type "zip"):=by decide+kernel
theorem Jj{a b:da}{k:TA}{p pos:Pos}(t:Gl X "zip")(w:X.mg "zip"=none)(x:PA X [a,b] k)(hs:cj [a,b] X.env=[(av,eg a X.env),(av,eg b X.env)]:=by rfl)(c:cj [b] X.env=[(av,eg b X.env)]:=by rfl):PI X (.Tuple elts x1 tp) (.Call (.Name "zip" p) [a,b] [] pos) (afW X.K k):=by
 intro e s σ H R I h;refine Call_ (lq I t w boot_zip (eI (cN (x pos e s σ H _ I h) ?_) (by rw[hs,c]) (by rw[c];rfl)));rintro N s1⟨vs,y,f,r1,z⟩;obtain⟨t1,t2,A,l2,rfl,⟨xs,i⟩,⟨ys,j⟩,q⟩:=z;obtain⟨u,v,rfl,B,C⟩:=r1.two;cases B;cases C;obtain⟨O,E,l⟩:=f.sq i;obtain⟨m,Q,n⟩:=f.sq j;have b1:=l.lt;have b2:=n.lt;refine GX l n λh' o G J L M kp=>?_;have D:lw (s1.heap.objs.size+4) (s1.heap.objs.size+2) (s1.heap.objs.size+3) s1.heap.objs.size (s1.heap.objs.size+1) A l2:=Yb b1 b2;refine wpAny_pyIter_zip o ⟨_,_,_,_,y,rfl,f.kept (t':=s1.toks) kp,Lp t1 t2 D,⟨o,G,⟨_,_,J⟩,L,M⟩,λb r=>?_,q⟩;have g:s1.heap.objs.size<=b:=by simp only[de,io,or_false]at r;rcases r with rfl|rfl|rfl|rfl|rfl<;>first|exact Nat.le_add_right _ _|exact eU
 exact f.BJ g (f.hok.fresh g)
end
end _L
namespace _H
open PySem _L Spec PyProof.Rows
variable{x:Str}
section
variable{K:PySem.W.Frag}{F F1 H H1:Hp}{ρ ρ1:List Sl}{σ:_L.St}{ds es:List D}{a b:b_}
theorem aJ.sq{t:Bool}{xs:List V}(e:aJ F H)(h:Sq t K F a xs):Sq t K H a xs:=by cases t with|true=>exact aJ.jq e h|false=>exact e.seq h
theorem sZ{t1 t2:Bool}{xs ys:List V}{F' H':Hp}(c:Sq t1 K H' a xs)(e:Sq t2 K H' b ys)(r1:aN K F' xs ds)(l:aN K F' ys es)(s:aJ F' H')(k:Nat):(∀d,((ds.zip es).map λp=>D.tup [p.1,p.2])[k]?=ap d->(Itz t1 t2 K a b).go k H'/\∀x i,(Itz t1 t2 K a b).Nm k H' x i->∃f,Ext F' H' f i/\Rep K f x d)/\(((ds.zip es).map λp=>D.tup [p.1,p.2]).length<=k->(Itz t1 t2 K a b).stop k H'):=by refine⟨λd hd=>?_,λh=>⟨xs,ys,c,e,by rw[r1.length,l.length];rw[dV,List.length_zip]at h;lia⟩⟩;rw[eW]at hd;obtain⟨⟨d0,d1⟩,m,n⟩:=map_some hd;subst n;obtain⟨f1,f2⟩:=hE.mp m;obtain⟨w,h1,o⟩:=r1.get f1;obtain⟨q,g,j⟩:=l.get f2;refine⟨⟨xs,ys,w,q,c,e,h1,g⟩,?_⟩;rintro x i⟨T,v,A,r,t,u,y,z⟩;subst t;subst u;have:=y xs c;rw[h1]at this;cases this;have:=z ys e;rw[g]at this;cases this;exact zN s r o j
theorem yx{v:V}{d:D}{ds:List D}(h:Rep K F v d)(e:items d=ap ds):∃t a xs,v=.ref a/\Sq t K F a xs/\aN K F xs ds:=by cases d with|tup es=>cases e;rw[Rep]at h;obtain⟨a,xs,rfl,h1,c⟩:=h;exact⟨bj,a,xs,rfl,h1,c⟩|lst es=>cases e;rw[Rep]at h;obtain⟨a,xs,rfl,h1,c⟩:=h;exact⟨av,a,xs,rfl,h1,c⟩|_=>cases e
end
section
variable{X:Cx}{c:Call}{e a b:da}{pa pb:P}{pos:Pos}{elts:List da}{x1:Nat}{tp:Pos}
theorem VB{p':Pos}(w:x="zip")(y:Gl X x)(z:X.mg x=none)(A:SX X c a pa)(B:SX X c b pb)(hs:cj [a,b] X.env=[(av,eg a X.env),(av,eg b X.env)]:=by rfl)(f:cj [b] X.env=[(av,eg b X.env)]:=by rfl):SI X c (.Tuple elts x1 tp) (.Call (.Name x p') [a,b] [] pos) (.zip pa pb):=by subst w;refine n6 (Jj y z (tH A (tH B aM f) (by rw[hs,f])).1 hs f) ?_;rintro σ H R⟨F,ρ,ds,C,g,e,k⟩;obtain⟨r,E,p,l⟩:=aj e;have o:=aF l;clear l;obtain⟨l,G⟩:=o;subst G;rw[_H.E23]at p;obtain⟨x0,j,I,J⟩:=aj p;obtain⟨L,M,N,m⟩:=aj J;have o:=aF m;clear m;obtain⟨m,O⟩:=o;subst O;obtain⟨us,f1,Q⟩:=dj m;obtain⟨ws,f2,f3⟩:=map_some Q;subst f3;cases l;refine⟨F,ρ,[x0.d,L.d],_,g,by rw[xO,I];show(evs c [pb] j).bind _=_;rw[xO,N];rfl,λvs F' H' s h=>?_⟩;obtain⟨v,r',rfl,U,h⟩:=h.dB;obtain⟨u,W,rfl,Y,h⟩:=h.dB;rw[h.iY];obtain⟨t1,Z,xs,rfl,q,r1⟩:=yx U f1;obtain⟨t2,a2,ys,rfl,t,r2⟩:=yx Y f2;exact⟨t1,t2,Z,a2,rfl,⟨xs,aJ.sq s.gs.sub q⟩,⟨ys,aJ.sq s.gs.sub t⟩,k _ _ _ ⟨s.gs,λn k F' ac σ' H' i=>sZ (aJ.sq i.gs.sub (aJ.sq i.cG q)) (aJ.sq i.gs.sub (aJ.sq i.cG t)) (r1.mono i.cG) (r2.mono i.cG) i.gs.sub k,λF3 j ae H3 s3=>⟨s.trans s3,λv r h=>h.later s⟩⟩⟩
end
structure bG(K:PySem.W.Frag)(x:Str)(st:ek):Prop where ex:∃f fd,PySem.W.nsIn K cK x=ap (ap (.ref f))/\gn K x x st f fd
section
variable{Pg:c_}{w:eh}{K:PySem.W.Frag}{mg:Str->Option bd}{base h:ef}
theorem VF{st:ek}{f:b_}{oc:bd}{od g:Option b_}{b:Array (Option bd)}{kV e i cdv ct:bd}(a:PySem.W.nsIn K cK x=ap (ap (.ref f)))(l:K.lookup f=ap ⟨oc,od,.func (PySem.W.fnOf x x (jb st) (fX st) (aA st) .none kV e i g cdv ct),b⟩)(c:PySem.W.codeIn K cdv x=bj)(k:keepIn K (.ref f)=bj):bG K x st:=⟨_,_,a,W9 l c k⟩
theorem bL{Γ:Tab}{wl i np:Nat}{st:ek}{ps:List Str}(X:K.In h)(G:h.Ns cK mg)(D:bG K x st)(j:ps.length=np)(k:∀(kV g l:bd)(m:Option b_)(cdv ct:bd)(c:List bd),c.length=ps.length->my (PySem.W.fnOf x x (jb st) (fX st) (aA st) .none kV g l m cdv ct) ⟨c,[]⟩=eL (ps.zip c)):aY Pg w K mg base 0 (run Γ wl 0) i x np:=by obtain⟨f,fd,a,F⟩:=D.ex;exact⟨f,fd,ps,⟨λvs H Q E s=>s.1,λA outer s H args c vs Q E hr e b v sp=>by obtain⟨_,F,as,r,n,_,z,_⟩:=sp;cases z⟩,mg_of X G a,F.kp,F.binds k,j⟩
theorem bM{Γ:Tab}{wl n i np:Nat}{st:ek}{ps:List Str}{d:Fd}(X:K.In h)(G:h.Ns cK mg)(D:bG K x st)(j:ps.length=np)(b:Γ i=ap d)(k:∀(kV c l:bd)(m:Option b_)(cdv ct:bd)(g:List bd),g.length=ps.length->my (PySem.W.fnOf x x (jb st) (fX st) (aA st) .none kV c l m cdv ct) ⟨g,[]⟩=eL (ps.zip g))(ok:∀f fd,gn K x x st f fd->iJ Pg w K mg base Jc (n+1) f fd ps (PB K np (λargs=>enter (run Γ wl n) wl d args))):aY Pg w K mg base (n+1) (run Γ wl (n+1)) i x np:=by
 obtain⟨f,fd,a,F⟩:=D.ex;refine⟨f,fd,ps,?_,mg_of X G a,F.kp,F.binds k,j⟩;have e:run Γ wl (n+1) i=λargs=>enter (run Γ wl n) wl d args:=by funext args;show(match Γ i with|some d=>enter (run Γ wl n) wl d args|none=>.stuck)=_;rw[b]
 rw[e,j];exact ok f fd F
theorem v8{F:Hp}:∀ns:List Int,aN K F (ns.map V.int) (ns.map D.int)|[]=>.nil|n::ns=>.cons (cL n) (v8 ns)
theorem HY{H:Hp}{a:b_}{ns:List Int}{g:List Sl->Res R}{as:List Sl}(l:gq K H a (ns.map V.int))(hr:g [.val av (.lst (ns.map D.int))]=.ok (.val (.bl bj)) as):PB K 1 g [.ref a] H (λv _=>v=.bl bj) λ_ _ _=>False:=by
 refine⟨rfl,H,_,_,as,⟨.refl _,rfl,λi b d e=>?_,λi s m e k=>?_,λi j c h=>?_⟩,hr,λv F' σ' H' s f=>?_⟩;.match i,e with|0,e=>cases e;refine⟨.ref a,rfl,?_⟩;rw[Rep];exact⟨a,_,rfl,l,v8 ns⟩|i+1,e=>simp at e
 .match i,e with|0,e=>cases e;cases k|i+1,e=>simp at e
 .obtain⟨⟨s,m,e,k⟩,_⟩:=h;match i,e with|0,e=>cases e;cases k|i+1,e=>simp at e
 .have f:Rep K F' v (.bl bj):=f;rw[Rep]at f;exact f
end
end _H
namespace _H
open PySem
variable{n:Nat}{c:Call}{ρ:List Sl}{is:List Nat}{ds:List D}
noncomputable def Res.sat{b:Type}(Q:b->List Sl->Prop)(x:Res b):Prop:=match x with|.ok a ρ=>Q a ρ|.exc _ _=>False|.stuck=>False
section
variable{α β:Type}{Q Q':α->List Sl->Prop}
@[simp]theorem XM{a:α}{ρ:List Sl}:(Res.ok a ρ).sat Q=Q a ρ:=rfl
@[simp]theorem adG{k:Nat}{ρ:List Sl}:(Res.exc k ρ:Res α).sat Q=False:=rfl
@[simp]theorem YW:(Res.stuck:Res α).sat Q=False:=rfl
theorem cX{x:Res β}{f:β->List Sl->Res α}:(x.bind f).sat Q=x.sat λa ρ=>(f a ρ).sat Q:=by cases x<;>rfl
@[simp]theorem ad9{p:Prop}[Decidable p]{x y:Res α}:(if p then x else y).sat Q=((p->x.sat Q)/\(¬ p->y.sat Q)):=by by_cases h:p<;>simp[h]
@[simp]theorem Og{a:α}{ρ:List Sl}:(lift (ap a) ρ).sat Q=Q a ρ:=rfl
@[simp]theorem Oh{ρ:List Sl}:(lift (none:Option α) ρ).sat Q=False:=rfl
@[simp]theorem Rr{p:Prop}[Decidable p]{a:α}{ρ:List Sl}:(lift (if p then ap a else none) ρ).sat Q=(p/\Q a ρ):=by by_cases h:p<;>simp[h]
theorem Res.sat.imp{x:Res α}(h:x.sat Q)(k:∀a ρ,Q a ρ->Q' a ρ):x.sat Q':=by cases x with|ok a ρ=>exact k a ρ h|exc _ _=>exact h|stuck=>exact h
theorem sat_iff{x:Res α}:x.sat Q↔∃a ρ,x=.ok a ρ/\Q a ρ:=by cases x with|ok a ρ=>exact⟨λh=>⟨a,ρ,rfl,h⟩,λ⟨_,_,e,h⟩=>by cases e;exact h⟩|exc _ _=>exact⟨λh=>h.elim,λ⟨_,_,e,_⟩=>by cases e⟩|stuck=>exact⟨λh=>h.elim,λ⟨_,_,e,_⟩=>by cases e⟩
end
noncomputable def fr:Sl->Bool|.aW=>bj|.val b _=>!b|.own b _=>!b|.lent _=>av|.jE _=>av|.dM _=>av|.hold _=>av
@[simp]theorem afw:fr .aW=bj:=rfl
@[simp]theorem afx{b:Bool}{d:D}:fr (.val b d)=!b:=rfl
@[simp]theorem agp{b:Bool}{d:List D}:fr (.own b d)=!b:=rfl
@[simp]theorem adJ{d:List D}:fr (.lent d)=av:=rfl
theorem Yg(ρ:List Sl)(i:Nat)(s:Sl):put ρ i s=match ρ[i]?with|some t=>if fr t=bj then ap (ρ.set i s)else none|none=>none:=by unfold put;cases h:ρ[i]?with|none=>rfl|some t=>cases t with|aW=>rfl|val b d=>cases b<;>rfl|own b d=>cases b<;>rfl|lent d=>rfl|jE m=>rfl|dM m=>rfl|hold m=>rfl
theorem jt{Γ:Tab}{w i:Nat}{d:Fd}{args:List Sl}(h:Γ i=ap d):run Γ w (n+1) i args=enter (run Γ w n) w d args:=by rw[run,h]
noncomputable def fin(np:Nat):Fl->List Sl->Option (R×List Sl)|.next,ρ=>ap (.val .non,ρ.take np)|.ret r,ρ=>ap (r,ρ.take np)|_,_=>none
noncomputable def eQ(np:Nat)(Q:R->List Sl->Prop)(a:Fl)(ρ:List Sl):Prop:=match a with|.next=>Q (.val .non) (ρ.take np)|.ret r=>Q r (ρ.take np)|_=>False
noncomputable def sQ(c:Call)(n:Nat)(r:List S)(Q:Fl->List Sl->Prop)(fl:Fl)(ρ:List Sl):Prop:=match fl with|.next=>(fJ c n r ρ).sat Q|fl=>Q fl ρ
noncomputable def fQ(J:List Sl->Prop)(Q:Fl->List Sl->Prop)(a:Fl)(ρ:List Sl):Prop:=match a with|.next=>J ρ|.cont=>J ρ|.brk=>Q .next ρ|.ret v=>Q (.ret v) ρ
section
variable{np:Nat}{Q:R->List Sl->Prop}{ρ:List Sl}{v:R}{c:Call}{n:Nat}{r:List S}{Q':Fl->List Sl->Prop}{J:List Sl->Prop}
@[simp]theorem adu:eQ np Q .next ρ=Q (.val .non) (ρ.take np):=rfl
@[simp]theorem afA:eQ np Q (.ret v) ρ=Q v (ρ.take np):=rfl
@[simp]theorem afq:eQ np Q .brk ρ=False:=rfl
@[simp]theorem adf:eQ np Q .cont ρ=False:=rfl
@[simp]theorem adN:sQ c n r Q' .next ρ=(fJ c n r ρ).sat Q':=rfl
@[simp]theorem ag5:sQ c n r Q' (.ret v) ρ=Q' (.ret v) ρ:=rfl
@[simp]theorem agI:sQ c n r Q' .brk ρ=Q' .brk ρ:=rfl
@[simp]theorem aeb:sQ c n r Q' .cont ρ=Q' .cont ρ:=rfl
@[simp]theorem ad5:fQ J Q' .next ρ=J ρ:=rfl
@[simp]theorem ac0:fQ J Q' .cont ρ=J ρ:=rfl
@[simp]theorem ahq:fQ J Q' .brk ρ=Q' .next ρ:=rfl
@[simp]theorem ahg:fQ J Q' (.ret v) ρ=Q' (.ret v) ρ:=rfl
end
theorem G9{d:Fd}{args:List Sl}{Q:R->List Sl->Prop}(a:args.length=d.np)(hd:d.np<=d.nn)(h:(fJ c n d.body (args++cp (d.nn-d.np) .aW)).sat (eQ d.np Q)):(enter c n d args).sat Q:=by unfold enter;rw[if_pos ⟨a,hd⟩];revert h;cases fJ c n d.body (args++cp (d.nn-d.np) .aW)with|stuck=>exact λh=>e_ h|exc _ _=>exact λh=>e_ h|ok b ρ=>cases b<;>first|exact id|exact λh=>e_ h
theorem aX{Γ:Tab}{w i:Nat}{d:Fd}{args:List Sl}{Q:R->List Sl->Prop}(a:Γ i=ap d)(b:args.length=d.np)(hd:d.np<=d.nn)(h:(fJ (run Γ w n) w d.body (args++cp (d.nn-d.np) .aW)).sat (eQ d.np Q)):(run Γ w (n+1) i args).sat Q:=by rw[jt a];exact G9 b hd h
theorem ak{s:S}{r:List S}{Q:Fl->List Sl->Prop}(h:(ex c n s ρ).sat (sQ c n r Q)):(fJ c n (s::r) ρ).sat Q:=by rw[Tt,cX];refine h.imp λa b q=>?_;cases a<;>exact q
theorem HR{s:S}{r:List S}{Q:Fl->List Sl->Prop}(h:(ex c n s ρ).sat (sQ c n r Q)):sQ c n (s::r) Q .next ρ:=ak h
@[simp]theorem ac9{c:Call}{n:Nat}{ρ:List Sl}{Q:Fl->List Sl->Prop}:(fJ c n [] ρ).sat Q=Q .next ρ:=by rw[xs0];rfl
theorem eO{s:S}{r:List S}{Q:Fl->List Sl->Prop}(M:List Sl->Prop)(h:(ex c n s ρ).sat λb a=>b=.next/\M a)(k:∀a,M a->(fJ c n r a).sat Q):(fJ c n (s::r) ρ).sat Q:=ak (h.imp λb a⟨e,q⟩=>by subst e;exact k a q)
theorem eV{is:List Nat}{one:Bool}{body:List Sl->Res Fl}(J:List D->List Sl->Prop){Q:Fl->List Sl->Prop}(b:∀d r ρ,J (d::r) ρ->∃a,cO ρ is one d=ap a/\(body a).sat (fQ (J r) Q))(f:∀ρ,J [] ρ->Q .next ρ):∀{ds:List D}{ρ:List Sl},J ds ρ->(lB is one body ds ρ).sat Q|[],ρ,j=>f ρ j|d::r,ρ,j=>by obtain⟨a,e,h⟩:=b d r ρ j;rw[Di,e];show((body a).bind _).sat Q;rw[cX];refine h.imp λg i q=>?_;cases g with|next=>exact eV J b f q|cont=>exact eV J b f q|brk=>exact q|ret v=>exact q
theorem nG{is:List Nat}{one:Bool}{a:List Sl->Res Bool}{p:Ev}(J:List Sl->Prop)(g:D->Option D){Q:List D->List Sl->Prop}:∀{ds f:List D}{ρ:List Sl},J ρ->(∀ d,d ∈ ds->∀ ρ,J ρ->∃ i,cO ρ is one d=ap i/\(a i).sat λb l=>if b=bj then(p l).sat λr s=>g d=ap r.d/\J s else g d=none/\J l)->(∀ ρ,J ρ->Q (f++ds.filterMap g) ρ)->(turns is one a p ds f ρ).sat Q|[],f,ρ,j,h,k=>by rw[K4];simpa using k ρ j|d::r,f,ρ,j,h,k=>by obtain⟨i,e,h1⟩:=h d (by simp) ρ j;rw[La,e];show((a i).bind _).sat Q;rw[cX];refine h1.imp λb l q=>?_;cases b with|true=>rw[if_pos rfl]at q;rw[if_pos rfl,cX];refine q.imp λx s⟨u,j3⟩=>?_;refine nG J g j3 (λd' m=>h d' (by simp[m])) λo t=>?_;have:=k o t;rw[hY,u]at this;rw[ia];exact this|false=>rw[if_neg (by simp)]at q;rw[if_neg (by simp)];refine nG J g q.2 (λd' m=>h d' (by simp[m])) λo t=>?_;have:=k o t;rw[hY,q.1]at this;exact this
theorem CK{one:Bool}{b:Ev}(J:List Sl->Prop)(g:D->D){Q:List D->List Sl->Prop}(j:J ρ)(h:∀d,d∈ds->∀ρ,J ρ->∃a,cO ρ is one d=ap a/\(b a).sat λr f=>g d=r.d/\J f)(k:∀ρ,J ρ->Q (ds.map g) ρ):(turns is one (pq c none) b ds [] ρ).sat Q:=nG J (λd=>ap (g d)) j (λd hd ρ j=>by obtain⟨a,e,h1⟩:=h d hd ρ j;refine⟨a,e,?_⟩;rw[pq,XM,if_pos rfl];exact h1.imp λr f q=>⟨by rw[q.1],q.2⟩) λρ j=>by simpa using k ρ j
section
variable{ρ l:List Sl}{a:Sl}{i j:Int}{k m:Nat}{b b':Bool}{s:Str}{d:D}{ds es:List D}{e f:Ev}{x:Option Sl}{c:Call}
@[simp]theorem Vs:dw .int .non=av:=rfl
@[simp]theorem YJ:dw .int (.bl b)=bj:=rfl
@[simp]theorem XC:dw .int (.int i)=bj:=rfl
@[simp]theorem Um:dw .int (.str s)=av:=rfl
@[simp]theorem Vq:dw .int (.tup ds)=av:=rfl
@[simp]theorem Xd:dw .int (.lst ds)=av:=rfl
@[simp]theorem TJ:dw .bool .non=av:=rfl
@[simp]theorem Xe:dw .bool (.bl b)=bj:=rfl
@[simp]theorem R7:dw .bool (.int i)=av:=rfl
@[simp]theorem Tq:dw .bool (.str s)=av:=rfl
@[simp]theorem R8:dw .bool (.tup ds)=av:=rfl
@[simp]theorem Sh:dw .bool (.lst ds)=av:=rfl
@[simp]theorem XR:dw .str .non=av:=rfl
@[simp]theorem YH:dw .str (.bl b)=av:=rfl
@[simp]theorem Ve:dw .str (.int i)=av:=rfl
@[simp]theorem Uz:dw .str (.str s)=bj:=rfl
@[simp]theorem U0:dw .str (.tup ds)=av:=rfl
@[simp]theorem W7:dw .str (.lst ds)=av:=rfl
@[simp]theorem RB:dw .tuple .non=av:=rfl
@[simp]theorem Tr:dw .tuple (.bl b)=av:=rfl
@[simp]theorem Q4:dw .tuple (.int i)=av:=rfl
@[simp]theorem Qj:dw .tuple (.str s)=av:=rfl
@[simp]theorem Rz:dw .tuple (.tup ds)=bj:=rfl
@[simp]theorem QM:dw .tuple (.lst ds)=av:=rfl
@[simp]theorem Tj:dw .list .non=av:=rfl
@[simp]theorem Xw:dw .list (.bl b)=av:=rfl
@[simp]theorem Ti:dw .list (.int i)=av:=rfl
@[simp]theorem Sy:dw .list (.str s)=av:=rfl
@[simp]theorem R3:dw .list (.tup ds)=av:=rfl
@[simp]theorem Sv:dw .list (.lst ds)=bj:=rfl
@[simp]theorem S9:dw .none .non=bj:=rfl
@[simp]theorem UG:dw .none (.bl b)=av:=rfl
@[simp]theorem Td:dw .none (.int i)=av:=rfl
@[simp]theorem R1:dw .none (.str s)=av:=rfl
@[simp]theorem Sw:dw .none (.tup ds)=av:=rfl
@[simp]theorem SN:dw .none (.lst ds)=av:=rfl
@[simp]theorem ZK:lX .non=bj:=rfl
@[simp]theorem abO:lX (.bl b)=av:=rfl
@[simp]theorem Zw:lX (.int i)=av:=rfl
@[simp]theorem Y7:lX (.str s)=av:=rfl
@[simp]theorem Yz:lX (.tup ds)=av:=rfl
@[simp]theorem ZX:lX (.lst ds)=av:=rfl
@[simp]theorem aaD:flat .non=bj:=rfl
@[simp]theorem acW:flat (.bl b)=bj:=rfl
@[simp]theorem abl:flat (.int i)=bj:=rfl
@[simp]theorem abd:flat (.str s)=bj:=rfl
@[simp]theorem abe:flat (.tup ds)=av:=rfl
@[simp]theorem aa4:flat (.lst ds)=av:=rfl
@[simp]theorem afV:(R.val d).d=d:=rfl
@[simp]theorem ahu:(R.own ds).d=.lst ds:=rfl
@[simp]theorem aaB:vP (.val d)=.val av d:=rfl
@[simp]theorem aaa:vP (.own ds)=.own av ds:=rfl
@[simp]theorem ZL:wC (.val d)=.dat d:=rfl
@[simp]theorem ZQ:wC (.own ds)=.tmp ds:=rfl
@[simp]theorem aen:j9 (.int i)=ap i:=rfl
@[simp]theorem ae1:Bx (.bl b)=ap b:=rfl
@[simp]theorem ZZ:items (.lst ds)=ap ds:=rfl
@[simp]theorem Zx:items (.tup ds)=ap ds:=rfl
@[simp]theorem Wn:WD (.tup ds)=ap ds:=rfl
@[simp]theorem Vt:Dg (.lst ds)=ap ds:=rfl
@[simp]theorem ad0:vW .add=uW:=rfl
@[simp]theorem aeg:vW .sub=zf:=rfl
@[simp]theorem ael:vW .mul=rF:=rfl
@[simp]theorem aao:vW .fdiv=ue:=rfl
@[simp]theorem adb:vW .mod=zj:=rfl
@[simp]theorem ac8:vW .pow=zE:=rfl
@[simp]theorem Z0:uW (.int i) (.int j)=ap (.val (.int (i+j))):=rfl
@[simp]theorem Zv:uW (.lst ds) (.lst es)=if ds.length+es.length<=lim then ap (.own (ds++es))else none:=rfl
@[simp]theorem Zn:uW (.tup ds) (.tup es)=if ds.length+es.length<=lim then ap (.val (.tup (ds++es)))else none:=rfl
@[simp]theorem Yx:zf (.int i) (.int j)=ap (.val (.int (i-j))):=rfl
@[simp]theorem ZM:rF (.int i) (.int j)=if((-18446744073709551616<i/\i<18446744073709551616)\/(-18446744073709551616<j/\j<18446744073709551616))then ap (.val (.int (i*j)))else none:=rfl
@[simp]theorem Uy:ue (.int i) (.int j)=if 0<j/\j<1606938044258990275541962092341162602522202993782792835301376 then ap (.val (.int (i/j)))else none:=rfl
@[simp]theorem Y0:zj (.int i) (.int j)=if 0<j then ap (.val (.int (i%j)))else none:=rfl
@[simp]theorem YS:zE (.int i) (.int j)=if 0<=j/\j<=1000/\i.natAbs<18446744073709551616 then ap (.val (.int (i^j.toNat)))else none:=rfl
@[simp]theorem adD:Pn (.lst ds) (.int i)=(at' ds i).map .val:=rfl
@[simp]theorem ac1:Pn (.tup ds) (.int i)=(at' ds i).map .val:=rfl
@[simp]theorem aaP:M8 (.int i)=ap (.val (.int (-i))):=rfl
@[simp]theorem Y9:cm .eq (.int i) (.int j)=ap (i==j):=rfl
@[simp]theorem ZG:cm .ne (.int i) (.int j)=ap (!(i==j)):=rfl
@[simp]theorem aag:cm .eq (.bl b) (.bl b')=ap (b==b'):=rfl
@[simp]theorem abu:cm .ne (.bl b) (.bl b')=ap (!(b==b')):=rfl
@[simp]theorem ZW:cm .lt (.int i) (.int j)=ap (decide (i<j)):=rfl
@[simp]theorem Y4:cm .le (.int i) (.int j)=ap (decide (i<=j)):=rfl
@[simp]theorem ZJ:cm .gt (.int i) (.int j)=ap (decide (j<i)):=rfl
@[simp]theorem Zr:cm .ge (.int i) (.int j)=ap (decide (j<=i)):=rfl
@[simp]theorem aha:cm .isN d .non=ap (lX d):=rfl
@[simp]theorem aei:cm .RJ d .non=ap (!lX d):=rfl
@[simp]theorem TF:blt .len [.lst ds]=ap (.val (.int ds.length)):=rfl
@[simp]theorem S5:blt .len [.tup ds]=ap (.val (.int ds.length)):=rfl
@[simp]theorem Pb:blt .list [.lst ds]=ap (.own ds):=rfl
@[simp]theorem QK:blt .list [.tup ds]=ap (.own ds):=rfl
@[simp]theorem Od:blt .tuple [.lst ds]=ap (.val (.tup ds)):=rfl
@[simp]theorem N7:blt .tuple [.tup ds]=ap (.val (.tup ds)):=rfl
@[simp]theorem abq:blt .min2 [.int i,.int j]=ap (.val (.int (if j<i then j else i))):=rfl
@[simp]theorem aaF:blt .max2 [.int i,.int j]=ap (.val (.int (if i<j then j else i))):=rfl
@[simp]theorem ada:blt .all [.lst ds]=(ds.mapM Bx).map λbs=>.val (.bl (bs.all id)):=rfl
@[simp]theorem YG:isVar (.var k)=ap k:=rfl
@[simp]theorem adC:pk (a::l) k=match(a::l)[k]?with|some (.val _ d)=>ap d|some (.own _ ds)=>ap (.lst ds)|some (.lent ds)=>ap (.lst ds)|_=>none:=rfl
@[simp]theorem ab9:Iu (a::l) k=match pk (a::l) k with|some (.lst ds)=>ap ds|_=>none:=rfl
@[simp]theorem aa5:dG (ap k) e ρ=lift (pk ρ k) ρ:=rfl
@[simp]theorem abP:dG none e ρ=(e ρ).bind λr ρ=>.ok r.d ρ:=rfl
@[simp]theorem Y8{y:Option Nat}:kI (ap k) e y f ρ=(lift (pk ρ k) ρ).bind λ_ ρ=>(dG y f ρ).bind λy ρ=>(lift (pk ρ k) ρ).bind λx ρ=>.ok (x,y) ρ:=rfl
@[simp]theorem Yu{y:Option Nat}:kI none e y f ρ=(dG none e ρ).bind λx ρ=>(dG y f ρ).bind λy ρ=>.ok (x,y) ρ:=rfl
@[simp]theorem YD{es:List D}:dJ (.own b ds) (ap (.own b' es))=.own b es:=rfl
@[simp]theorem Ze:dJ (.own b ds) (ap (.val b' d))=.val b d:=rfl
@[simp]theorem JC:dJ a none=a:=by cases a<;>rfl
@[simp]theorem Ie:dJ (.val b d) x=.val b d:=by cases x<;>rfl
@[simp]theorem Yy:dJ .aW x=.aW:=by cases x<;>rfl
@[simp]theorem Dd:dJ (.lent ds) x=.lent ds:=by cases x<;>rfl
@[simp]theorem aax:cO ρ [k] bj d=put ρ k (.val av d):=rfl
@[simp]theorem Yt{is:List Nat}:cO ρ is av (.tup ds)=putAll ρ is ds:=by cases is<;>rfl
@[simp]theorem Uu:srcOf none e ρ=(e ρ).bind λr ρ=>lift (items r.d) ρ:=rfl
@[simp]theorem VR:srcOf (ap k) e (a::l)=match(a::l)[k]?with|some (.val _ d)=>lift (items d) (a::l)|some (.own _ ds)=>.ok ds ((a::l).set k (.lent ds))|some (.lent ds)=>.ok ds (a::l)|_=>.stuck:=rfl
@[simp]theorem Tf{g:List Sl}:bz g none ρ=ρ:=rfl
@[simp]theorem TX:bz (a::l) (ap k) ρ=match(a::l)[k]?with|some (.own b ds)=>ρ.set k (.own b ds)|_=>ρ:=rfl
@[simp]theorem aaR{s:Sl}:put (a::l) k s=match(a::l)[k]?with|some t=>if fr t=bj then ap ((a::l).set k s)else none|none=>none:=Yg ..
@[simp]theorem Ut:putAll ρ [] []=ap ρ:=rfl
@[simp]theorem Tz{is:List Nat}:putAll ρ (k::is) (d::ds)=(put ρ k (.val av d)).bind λρ=>putAll ρ is ds:=rfl
end
@[simp]theorem at_0{a:Type}{b:a}{l:List a}:at' (b::l) 0=ap b:=by unfold at' lR;rw[if_pos (by decide),if_pos (by simp only[eS];lia)];rfl
@[simp]theorem at_1{a:Type}{e b:a}{l:List a}:at' (e::b::l) 1=ap b:=by unfold at' lR;rw[if_pos (by decide),if_pos (by simp only[eS];lia)];rfl
@[simp]theorem at_2{a:Type}{e f b:a}{l:List a}:at' (e::f::b::l) 2=ap b:=by unfold at' lR;rw[if_pos (by decide),if_pos (by simp only[eS];lia)];rfl
@[simp]theorem at_3{a:Type}{e f g b:a}{l:List a}:at' (e::f::g::b::l) 3=ap b:=by unfold at' lR;rw[if_pos (by decide),if_pos (by simp only[eS];lia)];rfl
@[simp]theorem at_4{a:Type}{e f g h b:a}{l:List a}:at' (e::f::g::h::b::l) 4=ap b:=by unfold at' lR;rw[if_pos (by decide),if_pos (by simp only[eS];lia)];rfl
@[simp]theorem at_5{a:Type}{e f g h i b:a}{l:List a}:at' (e::f::g::h::i::b::l) 5=ap b:=by unfold at' lR;rw[if_pos (by decide),if_pos (by simp only[eS];lia)];rfl
@[simp]theorem at_6{a:Type}{e f g h i j b:a}{l:List a}:at' (e::f::g::h::i::j::b::l) 6=ap b:=by unfold at' lR;rw[if_pos (by decide),if_pos (by simp only[eS];lia)];rfl
@[simp]theorem at_7{a:Type}{e f g h i j k b:a}{l:List a}:at' (e::f::g::h::i::j::k::b::l) 7=ap b:=by unfold at' lR;rw[if_pos (by decide),if_pos (by simp only[eS];lia)];rfl
theorem Br{a:Type}{l:List a}{i:Int}(h:0<=i)(h':i<l.length):at' l i=l[i.toNat]?:=by unfold at' lR;rw[if_pos h,if_pos h'];rfl
theorem M6{a:Type}{l:List a}{k:Nat}(h':k<l.length):at' l (k:Int)=l[k]?:=by rw[Br (by lia) (by lia)];simp
@[simp]theorem YM{d:D}:isVar (.con d)=none:=rfl
@[simp]theorem W2{x:Str}{d:D}:isVar (.glob x d)=none:=rfl
@[simp]theorem Zb{o:Op}{p q:P}:isVar (.bin o p q)=none:=rfl
@[simp]theorem Zi{p:P}:isVar (.neg p)=none:=rfl
@[simp]theorem ZC{p:P}:isVar (.not p)=none:=rfl
@[simp]theorem Zc{p q:P}:isVar (.and p q)=none:=rfl
@[simp]theorem abW{p q:P}:isVar (.or p q)=none:=rfl
@[simp]theorem YT{o:Cm}{p q:P}:isVar (.cmp o p q)=none:=rfl
@[simp]theorem SJ{o a:Cm}{p q r:P}:isVar (.chain o a p q r)=none:=rfl
@[simp]theorem Zg{p q r:P}:isVar (.T6 p q r)=none:=rfl
@[simp]theorem YX{as:List P}:isVar (.tup as)=none:=rfl
@[simp]theorem Y5{as:List P}:isVar (.lst as)=none:=rfl
@[simp]theorem Zz{p q:P}:isVar (.idx p q)=none:=rfl
@[simp]theorem Tp{p q r:P}:isVar (.slice p q r)=none:=rfl
@[simp]theorem V8{f:Nat}{as:List P}:isVar (.call f as)=none:=rfl
@[simp]theorem YC{b:Blt}{as:List P}:isVar (.blt b as)=none:=rfl
@[simp]theorem V3{a:List Ty}{p:P}:isVar (.inst a p)=none:=rfl
@[simp]theorem Vg{p e:P}{n:Nat}{is:List Nat}{one:Bool}{t:Option P}:isVar (.comp p n is one t e)=none:=rfl
@[simp]theorem ZD{p q:P}:isVar (.vD p q)=none:=rfl
@[simp]theorem Za{p:P}:isVar (.enm p)=none:=rfl
@[simp]theorem Zh{p q:P}:isVar (.zip p q)=none:=rfl
noncomputable def pQ(c:Call)(is:List Nat)(one:Bool)(a:Option P)(b:P)(ds:List D)(ρ:List Sl):Res (List D):=turns is one (pq c a) (ev c b) ds [] ρ
@[simp]theorem aeq{c:Call}{src f:P}{n:Nat}{is:List Nat}{one:Bool}{b:Option P}{ρ:List Sl}:ev c (.comp src n is one b f) ρ=(srcOf (isVar src) (ev c src) ρ).bind λds a=>if ds.length<=lim then(pQ c is one b f ds (a++cp n .aW)).bind λxs e=>.ok (.own xs) (bz ρ (isVar src) (e.take a.length))else .stuck:=(rfl)
noncomputable def J8(c:Call)(n:Nat)(t:P)(body:List S)(k:Nat)(ρ:List Sl):Res Fl:=uX (jf (ev c t)) (fJ c n body) k ρ
@[simp]theorem agh{c:Call}{n:Nat}{t:P}{body:List S}{ρ:List Sl}:ex c n (.whl t body) ρ=J8 c n t body n ρ:=(rfl)
theorem yw{b e h:Type}{x:Res e}{f:e->List Sl->Res b}{g:b->List Sl->Res h}:(x.bind f).bind g=x.bind λa ρ=>(f a ρ).bind g:=by cases x<;>rfl
@[simp]theorem agY{Γ:Tab}{w n i:Nat}{args:List Sl}{b:Type}{f:R->List Sl->Res b}{Q:b->List Sl->Prop}:((run Γ w n i args).bind f).sat Q=(run Γ w n i args).sat λa ρ=>(f a ρ).sat Q:=cX
@[simp]theorem agb{Γ:Tab}{w n i:Nat}{args:List Sl}{b e:Type}{f:R->List Sl->Res b}{g:b->List Sl->Res e}:((run Γ w n i args).bind f).bind g=(run Γ w n i args).bind λa ρ=>(f a ρ).bind g:=yw
@[simp]theorem aej{c:Call}{is:List Nat}{one:Bool}{b:Option P}{e:P}{ds:List D}{ρ:List Sl}{g:Type}{f:List D->List Sl->Res g}{Q:g->List Sl->Prop}:((pQ c is one b e ds ρ).bind f).sat Q=(pQ c is one b e ds ρ).sat λa ρ=>(f a ρ).sat Q:=cX
@[simp]theorem adl{c:Call}{is:List Nat}{one:Bool}{b:Option P}{e:P}{ds:List D}{ρ:List Sl}{h i:Type}{f:List D->List Sl->Res h}{g:h->List Sl->Res i}:((pQ c is one b e ds ρ).bind f).bind g=(pQ c is one b e ds ρ).bind λa ρ=>(f a ρ).bind g:=yw
@[simp]theorem ahk{is:List Nat}{one:Bool}{b:List Sl->Res Fl}{ds:List D}{ρ:List Sl}{e:Type}{f:Fl->List Sl->Res e}{Q:e->List Sl->Prop}:((lB is one b ds ρ).bind f).sat Q=(lB is one b ds ρ).sat λa ρ=>(f a ρ).sat Q:=cX
@[simp]theorem adO{b e:Type}{p:Prop}[Decidable p]{a:e}{ρ:List Sl}{f:e->List Sl->Res b}{Q:b->List Sl->Prop}:((lift (if p then ap a else none) ρ).bind f).sat Q=(p/\(f a ρ).sat Q):=by by_cases h:p<;>simp[h,lift,Res.bind]
@[simp]theorem ac5{b e h:Type}{p:Prop}[Decidable p]{a:e}{ρ:List Sl}{f:e->List Sl->Res b}{g:b->List Sl->Res h}:((lift (if p then ap a else none) ρ).bind f).bind g=(lift (if p then ap a else none) ρ).bind λa ρ=>(f a ρ).bind g:=yw
@[simp]theorem bb_ite{b a:Type}{p:Prop}[Decidable p]{x y:Res a}{f:a->List Sl->Res b}:(if p then x else y).bind f=if p then x.bind f else y.bind f:=by by_cases h:p<;>simp[h]
@[simp]theorem ae6{c:Call}{n k:Nat}{t:P}{b:List S}{ρ:List Sl}{e:Type}{f:Fl->List Sl->Res e}{Q:e->List Sl->Prop}:((J8 c n t b k ρ).bind f).sat Q=(J8 c n t b k ρ).sat λa ρ=>(f a ρ).sat Q:=cX
@[simp]theorem afP{b e:Type}{a:b}{ρ:List Sl}{f:b->List Sl->Res e}:(Res.ok a ρ).bind f=f a ρ:=rfl
@[simp]theorem YB{a b:Type}{f:a->List Sl->Res b}:(Res.stuck:Res a).bind f=.stuck:=rfl
@[simp]theorem ace{b:Type}{a:b}{ρ:List Sl}:lift (ap a) ρ=.ok a ρ:=rfl
@[simp]theorem ab6{a:Type}{ρ:List Sl}:lift (none:Option a) ρ=.stuck:=rfl
noncomputable def Ir:List Sl->Nat->Sl->List Sl|[],_,_=>[]|t::ρ,0,s=>dJ t (ap s)::ρ|t::ρ,k+1,s=>t::Ir ρ k s
theorem uV{k:Nat}{s:Sl}:Ir [] k s=[]:=rfl
theorem uz{t:Sl}{ρ:List Sl}{s:Sl}:Ir (t::ρ) 0 s=dJ t (ap s)::ρ:=rfl
theorem uw{t:Sl}{ρ:List Sl}{k:Nat}{s:Sl}:Ir (t::ρ) (k+1) s=t::Ir ρ k s:=rfl
noncomputable def bk:List Arg->List Sl->List Sl->List Sl|.iC k::as,s::ss,ρ=>bk as ss (Ir ρ k s)|.dat _::as,_::ss,ρ=>bk as ss ρ|.tmp _::as,_::ss,ρ=>bk as ss ρ|_,_,ρ=>ρ
section
variable{t s:Sl}{ρ ss:List Sl}{k:Nat}{as:List Arg}{d:D}{ds:List D}
@[simp]theorem aiI:Ir (t::ρ) 0 s=dJ t (ap s)::ρ:=rfl
@[simp]theorem aip:Ir (t::ρ) (k+1) s=t::Ir ρ k s:=rfl
@[simp]theorem WN:bk (.iC k::as) (s::ss) ρ=bk as ss (Ir ρ k s):=rfl
@[simp]theorem Uj:bk (.dat d::as) (s::ss) ρ=bk as ss ρ:=rfl
@[simp]theorem Xp:bk (.tmp ds::as) (s::ss) ρ=bk as ss ρ:=rfl
@[simp]theorem afd:bk [] ss ρ=ρ:=rfl
end
theorem Bt{s:Sl}:∀{ρ:List Sl}{k j:Nat},(Ir ρ k s)[j]?=(ρ[j]?).map λt=>if j=k then dJ t (ap s)else t|[],_,_=>by simp[uV,uz,uw]|t::ρ,0,0=>by simp[uV,uz,uw]|t::ρ,0,j+1=>by simp[uV,uz,uw]|t::ρ,k+1,0=>by simp[uV,uz,uw]|t::ρ,k+1,j+1=>by have:=Bt (s:=s) (ρ:=ρ) (k:=k) (j:=j);simp only[uV,uz,uw,fm,this];congr 1;funext t;simp
theorem Ah{as:List Arg}{ss:List Sl}:∀{ρ:List Sl}{i j:Nat},(gF as ss i ρ)[j]?=(ρ[j]?).map λt=>dJ t (bw (i+j) as ss)|[],_,_=>by simp[iT,gK]|t::ρ,i,0=>by simp[iT,gK]|t::ρ,i,j+1=>by have:=Ah (as:=as) (ss:=ss) (ρ:=ρ) (i:=i+1) (j:=j);simp only[iT,gK,fm,this];rw[show i+1+j=i+(j+1)by lia]
noncomputable def stb(t:Sl):Prop:=∀x,dJ t x=t
noncomputable def WK(ρ:List Sl):List Arg->Prop|[]=>True|.iC k::as=>(Arg.iC k∈as->∀t,ρ[k]?=ap t->stb t)/\WK ρ as|_::as=>WK ρ as
theorem tY{ρ:List Sl}:∀{as:List Arg}{a:List Sl},WK ρ as->(∀k,Arg.iC k∈as->∀t,a[k]?=ap t->ρ[k]?=ap t\/stb t)->WK a as
 |[],_,_,_=>trivial|.iC k::as,a,h,g=>⟨λf t i=>by
  rcases g k (by simp) t i with e|e;.exact h.1 f t e
  .exact e,tY h.2 λj b=>g j (by simp[b])⟩|.dat _::as,a,h,g=>tY (as:=as) h λj b=>g j (by simp[b])|.tmp _::as,a,h,g=>tY (as:=as) h λj b=>g j (by simp[b])
theorem p6{k:Nat}:∀{as:List Arg}{ss:List Sl},Arg.iC k∉as->bw k as ss=none|[],_,_=>by unfold bw;rfl|.iC j::as,[],_=>rfl|.dat _::as,[],_=>rfl|.tmp _::as,[],_=>rfl|.iC j::as,s::ss,h=>by simp only[de,Arg.iC.injEq,not_or]at h;rw[bw,if_neg (λe=>h.1 e.symm),p6 h.2]|.dat _::as,s::ss,h=>by simp only[de,not_or]at h;rw[bw,p6 h.2]|.tmp _::as,s::ss,h=>by simp only[de,not_or]at h;rw[bw,p6 h.2]
theorem DX:∀{as:List Arg}{ss ρ:List Sl},WK ρ as->∀j,(bk as ss ρ)[j]?=(ρ[j]?).map λt=>dJ t (bw j as ss)
 |[],ss,ρ,_,j=>by cases ss<;>simp[bw]|.iC k::as,[],ρ,_,j=>by rw[show bk (.iC k::as) [] ρ=ρ from rfl];simp[bw]|.dat d::as,[],ρ,_,j=>by rw[show bk (.dat d::as) [] ρ=ρ from rfl];simp[bw]|.tmp d::as,[],ρ,_,j=>by rw[show bk (.tmp d::as) [] ρ=ρ from rfl];simp[bw]|.dat _::as,s::ss,ρ,h,j=>by rw[Uj,bw];exact DX (as:=as) h j|.tmp _::as,s::ss,ρ,h,j=>by rw[Xp,bw];exact DX (as:=as) h j|.iC k::as,s::ss,ρ,h,j=>by
   have f:WK (Ir ρ k s) as:=tY h.2 λi hi t a=>by rw[Bt]at a;cases e:ρ[i]?with|none=>rw[e]at a;cases a|some t0=>
      rw[e]at a;by_cases c:i=k;.subst c;have hs:=h.1 hi t0 e;simp[hs (ap s)]at a;exact .inl (by rw[a])
      .simp[c]at a;exact .inl (by rw[a])
   rw[WN,DX f j,Bt,bw];cases e:ρ[j]?with|none=>rfl|some t0=>
     simp only[ka];by_cases c:j=k
     . subst c;rw[if_pos rfl,if_pos rfl];by_cases b:Arg.iC j∈as;.have hs:=h.1 b t0 e;rw[hs (ap s),hs]
       .rw[p6 b,JC]
     .rw[if_neg c,if_neg (λz=>c z.symm)]
theorem jg{ρ:List Sl}{k:Nat}{b:Bool}{ds:List D}(e:ρ[k]?=ap (.own b ds)):∀{as:List Arg}{u:List Nat}{r:List Sl},k∈u->cP ρ as u=ap r->Arg.iC k∉as
 |[],_,_,_,_=>by simp|.dat _::as,u,r,a,h=>by simp only[jY,jZ,jW,iU,eT]at h;obtain⟨f,h,_⟩:=h;simp[jg e a h]|.tmp _::as,u,r,a,h=>by simp only[jY,jZ,jW,iU,eT]at h;obtain⟨f,h,_⟩:=h;simp[jg e a h]|.iC i::as,u,r,a,h=>by
   rw[iU]at h;have hi:i≠k:=by rintro rfl;rw[e]at h;simp[a]at h
   have:Arg.iC k∉as:=by
    split at h;.obtain⟨f,h,_⟩:=eT.mp h;exact jg e a h
    . split at h;.cases h
      .obtain⟨f,h,_⟩:=eT.mp h;exact jg e (by simp[a]) h
    . split at h;.cases h
      .obtain⟨f,h,_⟩:=eT.mp h;exact jg e (by simp[a]) h
    .cases h
   simp[this];exact λz=>hi z.symm
theorem jh{ρ:List Sl}:∀{as:List Arg}{u:List Nat}{r:List Sl},cP ρ as u=ap r->WK ρ as
 |[],_,_,_=>trivial|.dat _::as,u,r,h=>by obtain⟨e,h,_⟩:=eT.mp h;exact jh (as:=as) h|.tmp _::as,u,r,h=>by obtain⟨e,h,_⟩:=eT.mp h;exact jh (as:=as) h|.iC i::as,u,r,h=>by
   rw[iU]at h;split at h;.rename_i b d q;obtain⟨e,h,_⟩:=eT.mp h;exact⟨λ_ t a=>by rw[q]at a;cases a;exact λx=>Ie,jh h⟩
   . rename_i b ds q;split at h;.cases h
     .obtain⟨e,h,_⟩:=eT.mp h;exact⟨λf=>absurd f (jg q (by simp) h),jh h⟩
   . rename_i ds q;split at h;.cases h
     .obtain⟨e,h,_⟩:=eT.mp h;exact⟨λ_ t a=>by rw[q]at a;cases a;exact λx=>Dd,jh h⟩
   .cases h
theorem aaZ{as:List Arg}{ss r:List Sl}{u:List Nat}(h:cP ρ as u=ap r):gF as ss 0 ρ=bk as ss ρ:=by apply List.ext_getElem?;intro j;rw[Ah,DX (jh h),nK]
@[simp]theorem Zy{c:Call}{k:Nat}{as:List Arg}{ρ:List Sl}:iR c k as ρ=match cP ρ as []with|none=>.stuck|some args=>(c k args).bind λr a=>.ok r (bk as a ρ):=by unfold iR;cases e:cP ρ as []with|none=>rfl|some args=>simp only[<-aaZ (r:=args) e];cases c k args<;>rfl
theorem cV{one:Bool}{a:P}(J:List Sl->Prop)(g:D->D){Q:List D->List Sl->Prop}(j:J ρ)(h:∀d,d∈ds->∀ρ,J ρ->∃b,cO ρ is one d=ap b/\(ev c a b).sat λr e=>g d=r.d/\J e)(k:∀ρ,J ρ->Q (ds.map g) ρ):(pQ c is one none a ds ρ).sat Q:=CK J g j h k
theorem HD{one:Bool}{i t:P}(J:List Sl->Prop)(g:D->Option D){Q:List D->List Sl->Prop}(j:J ρ)(h:∀d,d∈ds->∀ρ,J ρ->∃a,cO ρ is one d=ap a/\(ev c t a).sat λr f=>∃b,r.d=.bl b/\if b=bj then(ev c i f).sat λr l=>g d=ap r.d/\J l else g d=none/\J f)(k:∀ρ,J ρ->Q (ds.filterMap g) ρ):(pQ c is one (ap t) i ds ρ).sat Q:=nG J g j (λd hd ρ j=>by obtain⟨a,e,h1⟩:=h d hd ρ j;refine⟨a,e,?_⟩;rw[pq,jf,cX];refine h1.imp λr f⟨b,e,q⟩=>?_;rw[e];exact q) λρ j=>by simpa using k ρ j
theorem kW{c:Call}{n:Nat}{t:P}{body:List S}(J:Nat->List Sl->Prop){Q:Fl->List Sl->Prop}(h:∀m ρ,J m ρ->(ev c t ρ).sat λr a=>∃b,r.d=.bl b/\if b=bj then(fJ c n body a).sat (fQ (λf=>∃g,g<m/\J g f) Q)else Q .next a):∀{k m:Nat}{ρ:List Sl},m<k->J m ρ->(J8 c n t body k ρ).sat Q|0,m,ρ,i,_=>absurd i (Nat.not_lt_zero _)|k+1,m,ρ,i,j=>by unfold J8;rw[Lw,cX,jf,cX];refine(h m ρ j).imp λr a⟨b,e,q⟩=>?_;rw[e];show(if b=bj then _ else _:Res Fl).sat Q;cases b with|false=>rw[if_neg (by simp)]at q;rw[if_neg (by simp)];exact q|true=>rw[if_pos rfl]at q;rw[if_pos rfl,cX];refine q.imp λp f q=>?_;cases p with|next=>obtain⟨g,l,o⟩:=q;exact kW J h (dE l (Nat.lt_succ_iff.mp i)) o|cont=>obtain⟨g,l,o⟩:=q;exact kW J h (dE l (Nat.lt_succ_iff.mp i)) o|brk=>exact q|ret v=>exact q
@[simp]theorem aiP:type_of%@_H.E1:=@_H.E1
@[simp]theorem aiA:type_of%@_H.E2:=@_H.E2
@[simp]theorem ai0:type_of%@_H.E3:=@_H.E3
@[simp]theorem aiq:type_of%@_H.E4:=@_H.E4
@[simp]theorem aim:type_of%@_H.E5:=@_H.E5
@[simp]theorem aiO:type_of%@_H.E6:=@_H.E6
@[simp]theorem aiz:type_of%@_H.E7:=@_H.E7
@[simp]theorem ai2:type_of%@_H.E8:=@_H.E8
@[simp]theorem air:type_of%@_H.E9:=@_H.E9
@[simp]theorem ahs:type_of%@_H.E10:=@_H.E10
@[simp]theorem agw:type_of%@_H.E11:=@_H.E11
@[simp]theorem agv:type_of%@_H.E12:=@_H.E12
@[simp]theorem afN:type_of%@_H.E13:=@_H.E13
@[simp]theorem af9:type_of%@_H.E14:=@_H.E14
@[simp]theorem afR:type_of%@_H.E15:=@_H.E15
@[simp]theorem af0:type_of%@_H.E16:=@_H.E16
@[simp]theorem afz:type_of%@_H.E17:=@_H.E17
@[simp]theorem ae8:type_of%@_H.E18:=@_H.E18
@[simp]theorem aef:type_of%@_H.aby:=@_H.aby
@[simp]theorem ago:type_of%@_H.E19:=@_H.E19
@[simp]theorem afs:type_of%@_H.E20:=@_H.E20
@[simp]theorem ag6:type_of%@_H.E21:=@_H.E21
@[simp]theorem ahl:type_of%@_H.E22:=@_H.E22
@[simp]theorem afG:type_of%@_H.E23:=@_H.E23
@[simp]theorem aiU:type_of%@_H.X1:=@_H.X1
@[simp]theorem aio:type_of%@_H.X2:=@_H.X2
@[simp]theorem aiV:type_of%@_H.X3:=@_H.X3
@[simp]theorem ail:type_of%@_H.X4:=@_H.X4
@[simp]theorem ai5:type_of%@_H.X5:=@_H.X5
@[simp]theorem aiv:type_of%@_H.X6:=@_H.X6
@[simp]theorem aiQ:type_of%@_H.X7:=@_H.X7
@[simp]theorem aiy:type_of%@_H.X8:=@_H.X8
@[simp]theorem aiu:type_of%@_H.X9:=@_H.X9
@[simp]theorem af4:type_of%@_H.X10:=@_H.X10
@[simp]theorem ae5:type_of%@_H.X11:=@_H.X11
@[simp]theorem ae7:type_of%@_H.X12:=@_H.X12
@[simp]theorem agq:type_of%@_H.X13:=@_H.X13
@[simp]theorem agC:type_of%@_H.X14:=@_H.X14
@[simp]theorem afp:type_of%@_H.jf.eq_1:=@_H.jf.eq_1
@[simp]theorem ae4:type_of%@_H.evs.eq_1:=@_H.evs.eq_1
@[simp]theorem agk:type_of%@_H.evs.eq_2:=@_H.evs.eq_2
@[simp]theorem agr:type_of%@_H.Bg.eq_1:=@_H.Bg.eq_1
@[simp]theorem afH:type_of%@_H.Bg.eq_2:=@_H.Bg.eq_2
@[simp]theorem ae2:type_of%@_H.pq.eq_1:=@_H.pq.eq_1
@[simp]theorem ahz:type_of%@_H.pq.eq_2:=@_H.pq.eq_2
@[simp]theorem afX:type_of%@_H.uA.eq_1:=@_H.uA.eq_1
@[simp]theorem aap:type_of%@_H.cP.eq_1:=@_H.cP.eq_1
@[simp]theorem acd:type_of%@_H.cP.eq_2:=@_H.cP.eq_2
@[simp]theorem acg:type_of%@_H.cP.eq_3:=@_H.cP.eq_3
@[simp]theorem ab5:type_of%@_H.cP.eq_4:=@_H.cP.eq_4
@[simp]theorem abS:type_of%@_H.gF.eq_1:=@_H.gF.eq_1
@[simp]theorem aa0:type_of%@_H.gF.eq_2:=@_H.gF.eq_2
@[simp]theorem abb:type_of%@_H.bw.eq_1:=@_H.bw.eq_1
@[simp]theorem aca:type_of%@_H.bw.eq_2:=@_H.bw.eq_2
@[simp]theorem abB:type_of%@_H.bw.eq_3:=@_H.bw.eq_3
@[simp]theorem aaX:type_of%@_H.bw.eq_4:=@_H.bw.eq_4
end _H
namespace _H
open PySem _L Spec PyProof.Rows
section
variable{X:Cx}{c:Call}{a b:da}{pa pb:P}{pos:Pos}
theorem uN:∀{e:List D}{ns:List Int},e.mapM j9=ap ns->e=ns.map D.int|[],ns,h=>by simp at h;subst h;rfl|d::e,ns,h=>by simp[List.mapM_cons,m5]at h;obtain⟨i,f,j,g,rfl⟩:=h;rw[dZ f,uN g];rfl
theorem mR{K:PySem.W.Frag}{F:Hp}:∀{ns:List Int}{ys:List V},aN K F ys (ns.map D.int)->ys=ns.map V.int|[],ys,h=>by rw[h.iY];rfl|n::ns,ys,h=>by obtain⟨v,r,rfl,h1,t⟩:=h.dB;rw[Rep]at h1;rw[h1,mR t];rfl
theorem ym{ns:List Int}{f:List bd}(h:Vals (ns.map V.int) f){i:Nat}{v:bd}(e:f.toArray[i]?=ap v):∃t,v=.int (ns.getD i 0) t:=by
 have e:f[i]?=ap v:=by simpa using e
 have hi:i<f.length:=(gh e).1;have k:=h.length;rw[dV]at k;have g:(ns.map V.int)[i]?=ap (.int (ns.getD i 0)):=by rw[eW,gi (by lia)];simp[i6,show i<ns.length by lia]
 obtain⟨w,j,l⟩:=h.get g;rw[e]at j;cases j;exact l
theorem walked{h:List (b_×Obj)}{σ:_L.St}{H:Hp}{s:bx}{p:b_}{ys:List V}(I:_L.Inv X h σ H s)(hc:X.calm=bj)(hq:gq X.K H p ys\/nU X.K H p ys){Q:bd->bx->Prop}{E:bd->bx->Prop}(k:∀(it:b_)(g:List bd)(e:bx)(St:Nat->ef->Prop),Vals ys g->Walks X.prog X.w X.A.in1 it [it,p] [it] g.toArray.size (λi v=>g.toArray[i]?=ap v) St->St 0 e.heap->(∀ b ∈[it,p],b<e.heap.objs.size)->(∀h' m,(∀b o,b∉[it]->e.heap.get? b=ap o->h'.get? b=ap o)->_L.Inv X h σ H {e with heap:=h',toks:=m})->Q (.ref it) e):cH (cM X.prog X.w) X.A.in1 (nN (.ref p)) Q E s:=by
 have r:X.A.in1.handled=none:=I.ok.hd hc;rcases hq with hq|hq
 . obtain⟨g,n,f,hz⟩:=I.list hq;have f:=f.isList;have j:p<s.heap.objs.size:=by obtain⟨o,h1,_⟩:=f;exact df h1
   refine kc f (k s.heap.objs.size g _ _ n (Walks.list r s.heap.objs.size p (dP j) g.toArray) ⟨⟨_,dl _ rfl,rfl,rfl⟩,?_⟩ ?_ λh' m kp=>?_);.obtain⟨o,h1,q⟩:=f;exact⟨o,iZ h1,q⟩
   . intro b l;obtain⟨o,h1,_⟩:=f;simp at l;rcases l with rfl|rfl;.exact df (dl _ rfl)
     .exact df (iZ h1)
   .exact I.kept (λb o z=>kp b o (by simp;exact dP (df z)) (iZ z))
 . obtain⟨g,n,f,hz⟩:=I.tuple hq;have j:p<s.heap.objs.size:=by obtain⟨o,h1,_⟩:=f;exact df h1
   refine gI f (k s.heap.objs.size g _ _ n (Walks.tuple r s.heap.objs.size p (dP j) g.toArray) ⟨⟨_,dl _ rfl,rfl,rfl⟩,?_⟩ ?_ λh' m kp=>?_);.obtain⟨o,h1,q⟩:=f;exact⟨o,iZ h1,q⟩
   . intro b l;obtain⟨o,h1,_⟩:=f;simp at l;rcases l with rfl|rfl;.exact df (dl _ rfl)
     .exact df (iZ h1)
   .exact I.kept (λb o z=>kp b o (by simp;exact dP (df z)) (iZ z))
theorem rB(ns:List Int):∀k,k<=ns.length->preSum (λi=>ns.getD i 0) k=(ns.take k).sum|0,_=>by simp[preSum]|k+1,h=>by rw[preSum,rB ns k (by lia),List.take_succ,List.sum_append];simp[i6,show k<ns.length by lia]
theorem acb(hc:X.calm=bj):eX X (.builtin "sum") (Qf X.K λx=>blt .sum [x]):=by
 rintro g s σ H xs h Q I r⟨x,q,F,d,t,j,w,he,k⟩;obtain⟨ns,y,he⟩:=map_some (show((items d).bind λl=>l.mapM j9).map _=ap t from he);subst he;obtain⟨l,z,A⟩:=dj y;obtain⟨p,ys,rfl,B,m⟩:=w.items j z;rw[uN A]at m;have C:=mR m;subst q;obtain⟨u,rfl,E⟩:=r.one;cases E;refine call_sum_walkG (walked I hc B λit h n St o W h0 G kp=>?_);subst C;have f:h.toArray.size=ns.length:=by rw[cS,<-o.length,dV]
 refine⟨it,_,_,_,_,St,λi=>ns.getD i 0,rfl,W,h0,G,λi v e=>ym o e,λh' J t' kk=>?_⟩;rw[f,rB ns _ (eU),List.take_length];exact⟨.int _,H,kp h' J kk,⟨t',rfl⟩,dg.fK j (cL _) k⟩
theorem Mh{ns:List Int}{m:Int}(k:ns.min?=ap m):ns.getD (argBest (λi j=>decide (ns.getD i 0<ns.getD j 0)) (ns.length-1)) 0=m:=by
 have h:ns≠[]:=by rintro rfl;simp at k
 have r:0<ns.length:=List.length_pos_iff.mpr h;obtain⟨h1,n⟩:=argBest_lt (λi=>ns.getD i 0) (ns.length-1);have l:=n8.mp k;generalize argBest (λi j=>decide (ns.getD i 0<ns.getD j 0)) (ns.length-1)=j at*;have o:j<ns.length:=by lia
 have f:ns.getD j 0∈ns:=by simp[i6,o]
 obtain⟨q,p,e⟩:=k8 l.1;have g:=n q (by lia);simp only[i6,gi p,Option.getD_some]at g;rw[e]at g;have s:=l.2 _ f;have g:ns.getD j 0<=m:=g;lia
theorem VL(hc:X.calm=bj):eX X (.builtin "min") (Qf X.K λx=>blt .Nq [x]):=by
 rintro j s σ H xs l Q I r⟨x,A,F,d,B,n,C,he,k⟩;obtain⟨ns,E,he⟩:=dj (show((items d).bind λo=>o.mapM j9).bind _=ap B from he);obtain⟨m,q,he⟩:=map_some he;subst he;obtain⟨o,G,J⟩:=dj E;obtain⟨p,ys,rfl,L,w⟩:=C.items n G;rw[uN J]at w;have M:=mR w;subst A;obtain⟨u,rfl,N⟩:=r.one;cases N;refine call_min_walk (walked I hc L λit l y St h W h0 O kp=>?_);subst M;have f:l.toArray.size=ns.length:=by rw[cS,<-h.length,dV]
 have g:0<ns.length:=by cases ns with|nil=>simp at q|cons _ _=>simp
 refine⟨it,_,_,_,_,St,_,rfl,W,h0,O,by rw[f];exact g,CmpOf.ints_lt (λi=>ns.getD i 0) (λi v e=>ym h e),λv h' U z kk=>?_⟩;rw[f]at z;obtain⟨t,rfl⟩:=ym h z;rw[Mh q];exact⟨.int _,H,kp h' U kk,⟨t,rfl⟩,dg.fK n (cL _) k⟩
theorem boot_sum:ez "sum"=ap (.builtin "sum"):=by decide+kernel
theorem xx{x:Str}{p':Pos}(e:x="sum")(hc:X.calm=bj)(f:Gl X x)(g:X.mg x=none)(i:SX X c a pa)(hs:cj [a] X.env=(av,eg a X.env)::cj [] X.env:=by rfl):SX X c (.Call (.Name x p') [a] [] pos) (.blt .sum [pa]):=by subst e;exact qY (λh=>eY (acb hc) f g boot_sum h (he:=hs)) i (λρ=>rfl) rfl hs
theorem Pr{x:Str}{p':Pos}(e:x="min")(hc:X.calm=bj)(f:Gl X x)(g:X.mg x=none)(i:SX X c a pa)(hs:cj [a] X.env=(av,eg a X.env)::cj [] X.env:=by rfl):SX X c (.Call (.Name x p') [a] [] pos) (.blt .Nq [pa]):=by subst e;exact qY (λh=>eY (VL hc) f g boot_min h (he:=hs)) i (λρ=>rfl) rfl hs
end
end _H
namespace _H
open PySem
section
variable{i j:Int}{ds es:List D}{d:D}{b b':Bool}
@[simp]theorem adE:vW .shl=Ke:=rfl
@[simp]theorem ac4:vW .shr=KD:=rfl
@[simp]theorem ab3:vW .band=CV:=rfl
@[simp]theorem YF:Ke (.int i) (.int j)=if 0<=j/\j<=1000/\i.natAbs<18446744073709551616 then ap (.val (.int (i*2^j.toNat)))else none:=rfl
@[simp]theorem Zu:KD (.int i) (.int j)=if 0<=j then ap (.val (.int (i/2^j.toNat)))else none:=rfl
@[simp]theorem Yd:CV (.int i) (.int j)=ap (.val (.int (Builtin.bitAnd i j))):=rfl
@[simp]theorem Zt:rF (.lst ds) (.int i)=if 0<=i/\0<ds.length/\ds.length*i.toNat<=lim then ap (.own (cp i.toNat ds).flatten)else none:=rfl
@[simp]theorem Zj:rF (.tup ds) (.int i)=if 0<=i/\0<ds.length/\ds.length*i.toNat<=lim then ap (.val (.tup (cp i.toNat ds).flatten))else none:=rfl
@[simp]theorem age:cm .isT (.bl b) (.bl bj)=ap b:=rfl
@[simp]theorem adZ:cm .Np (.bl b) (.bl bj)=ap (!b):=rfl
@[simp]theorem ac7:blt .sum [.lst ds]=(ds.mapM j9).map λns=>.val (.int ns.sum):=rfl
@[simp]theorem acf:blt .Nq [.lst ds]=(ds.mapM j9).bind λns=>ns.min?.map λi=>.val (.int i):=rfl
end
@[simp]theorem agD:type_of%@_H.X16:=@_H.X16
@[simp]theorem agN:type_of%@_H.X17:=@_H.X17
theorem o5{ns:List Int}:(ns.map D.int).mapM j9=ap ns:=by induction ns with|nil=>rfl|cons n ns a=>simp[a]
@[simp]theorem Zf{ns:List Int}:ns.mapM (j9 ∘ D.int)=ap ns:=by rw[<-o5 (ns:=ns),List.mapM_map]
@[simp]theorem aci{bs:List Bool}:bs.mapM (Bx ∘ D.bl)=ap bs:=by induction bs with|nil=>rfl|cons b bs a=>simp[a]
theorem tK{n:Nat}{S:List Int}:j8 (n+1) (.lst (S.map D.int))=bj:=by rw[cg,fg];intro d hd;obtain⟨i,_,rfl⟩:=ej.mp hd;cases n<;>rfl
theorem pJ:∀{S T:List Int},lg (S.map D.int) (T.map D.int)=(S==T)|[],[]=>by simp[oG,lE,uY,ug]|[],_::_=>by simp[oG,lE,uY,ug]|_::_,[]=>by simp[oG,lE,uY,ug]|s::S,t::T=>by rw[dQ,dQ,lE,pJ,pqi];rfl
theorem QX{S T:List Int}:cm .eq (.lst (S.map D.int)) (.lst (T.map D.int))=ap (S==T):=by show Mf _ _=_;unfold Mf;rw[tK,tK,pql,pJ];rfl
theorem O1{S:List Int}:cm .eq (.lst (S.map D.int)) (.lst [])=ap S.isEmpty:=by rw[show(.lst []:D)=.lst (([]:List Int).map D.int)from rfl,QX];cases S<;>rfl
theorem dO{a:Type}{l:List a}{f:a->D}{k:Nat}{x:a}(h:l[k]?=ap x):at' (l.map f) (k:Int)=ap (f x):=by have b:=(gh h).1;rw[M6 (by simpa using b),eW,h];rfl
theorem XD{n k:Nat}(h:k<n):lR n (k:Int)=ap k:=by unfold lR;rw[if_pos (by lia),if_pos (by lia)];simp
theorem kE{is:List Nat}{one:Bool}{body:List Sl->Res Fl}{g:Nat->D}{N:Nat}(J:Nat->List Sl->Prop){Q:Fl->List Sl->Prop}(c:∀i ρ,i<N->J i ρ->∃a,cO ρ is one (g i)=ap a/\(body a).sat (fQ (J (i+1)) Q))(f:∀ρ,J N ρ->Q .next ρ){ρ:List Sl}(h0:J 0 ρ):(lB is one body ((eu N).map g) ρ).sat Q:=by
 refine eV (λr ρ=>∃i,i<=N/\r=((eu N).map g).drop i/\J i ρ) ?_ ?_ ⟨0,xu,rfl,h0⟩
 . rintro d r ρ⟨i,hi,e,j⟩;have b:i<N:=by
    rcases Nat.lt_or_ge i N with h|h;.exact h
    .rw[List.drop_eq_nil_of_le (by simpa using h)]at e;cases e
   rw[f_ (by simpa using b)]at e;injection e with e1 e2;simp at e1;subst e1;obtain⟨a,h1,k⟩:=c i ρ b j;refine⟨a,h1,k.imp λl m q=>?_⟩;cases l with|next=>exact⟨i+1,b,e2,q⟩|cont=>exact⟨i+1,b,e2,q⟩|brk=>exact q|ret v=>exact q
 . rintro ρ⟨i,hi,e,j⟩;have:i=N:=by have n:=congrArg kG e;simp at n;lia
   subst this;exact f ρ j
inductive A3(a b c:Prop):Prop where|mk(ha:a)(hb:b)(hc:c)
inductive A4(a b c d:Prop):Prop where|mk(ha:a)(hb:b)(hc:c)(hd:d)
inductive A5(a b c d e:Prop):Prop where|mk(ha:a)(hb:b)(hc:c)(hd:d)(he:e)
inductive A6(a b c d e f:Prop):Prop where|mk(ha:a)(hb:b)(hc:c)(hd:d)(he:e)(hf:f)
end _H
namespace _H
open PySem _L Spec PyProof.Rows
section
variable{X:Cx}{c:Call}{n:Nat}{e a b d tg:da}{p pa pb pd:P}{pos:Pos}
theorem Ja{g:TG}{is:List Nat}(he:SX X c e p)(q:PG X tg g)(i:G5 X.K (λρ d=>cO ρ is av d) g)(hs:ko [tg] e pos.line X.env=eL av:=by rfl)(s:kq [tg] e X.env=eL none:=by rfl)(h1:(iO [tg] X.env).map (·.2)=[ku tg X.env]:=by rfl):SS X c n (.Assign [tg] e pos) (.unp is p):=by
 refine cU (Ko he.ev q hs s h1) ?_;rintro D σ H⟨F,ρ,B,t,u,e,k⟩;rw[_H.X8]at e;obtain⟨r,f,w,e⟩:=aj e;refine⟨F,ρ,r,f,u,w,λv F1 j s1 x=>?_⟩;obtain⟨l,s2,_,m⟩:=s1.eN x;split at e;.rename_i o hd;obtain⟨y,z,h,e⟩:=aj e;cases e;have A:=aF h;clear h;obtain⟨h,C⟩:=A;rw[hd]at m;exact i v (.tup o) l f _ σ j _ s2.gs m (by show cO f is av (.tup o)=_;cases is<;>exact h) λσ' s3=>k l σ' j (s2.trans s3)
 .cases e
theorem JP:jc X (ec .IsNot) (rD X.K (uA .Np)):=by
 rintro i s σ H x y v u Q I g h⟨F,d,e,r,j,l,m,he,k⟩;obtain⟨t,f,o⟩:=map_some (show(cmT bj d e).map _=ap r from he);subst o;unfold cmT at f;split at f;.rename_i b;cases f;rw[l.bl]at g;rw[m.bl]at h;cases g;cases h;have q:=dg.fK j (gW (!b)) k;cases b<;>exact cv ⟨.bl _,H,I,rfl,q⟩
 .rename_i b;cases f;rw[l.bl]at g;rw[m.bl]at h;cases g;cases h;have q:=dg.fK j (gW b) k;cases b<;>exact cv ⟨.bl _,H,I,rfl,q⟩
 .cases f
end
end _H
namespace _U
open PySem Spec PyProof.Rows
section
variable{prog:c_}{w:eh}{A:et}{E:bd->bx->Prop}{s:bx}
theorem Ao{t sl:b_}{a:Array bd}{g i:bd}{lo hi:Option Int}{Q:bd->bx->Prop}(b:oN s.heap t a)(hs:s.heap.IsSliceOf sl g i .none)(j:ly g lo)(k:ly i hi)(h1:fH a.size 0 lo=0)(l:fH a.size a.size hi=a.size)(h:Q (.ref t) s):cH (cM prog w) A (jv (.ref t) (.ref sl)) Q E s:=by
 obtain⟨os,c,e,m⟩:=id hs;have n:s.TypeIs (.ref sl) "slice":=⟨os,c,e⟩;unfold jv;try with_reducible refine fI ?_
 first|refine a_ (cv ?_)|skip
 refine a_ (wpAny_sequenceKey b.typeIs (by decide) (a_ (fv (name:=ii "__getitem__") b.typeIs slot_tuple_getitem (gx slot_tuple_getitem b.typeIs entry_tuple_getitem ?_ (args_tuple_getitem _ _)))));show cH _ _ (tupleItemsOf (.ref t)>>=_) _ _ s;refine a_ (tupleItemsOf_ b (a_ (kN n ?_)));rw[if_pos (by decide)];refine a_ (km hs j k ?_);have f:((((fH a.size 0 lo:Nat):Int)==0&&(1:Int)==1&&(fH a.size a.size hi-fH a.size 0 lo)==a.size)=bj):=by rw[h1,l];simp
 show cH _ _ (if(((fH a.size 0 lo:Nat):Int)==0&&(1:Int)==1&&(fH a.size a.size hi-fH a.size 0 lo)==a.size)=bj then _ else _) _ _ s;rw[if_pos f];unfold Builtin.Tuple.tupleIsExact;refine a_ (a_ (kN b.typeIs (cv ?_)));rw[if_pos (by decide)];exact a_ (jD (cv ⟨_,rfl,cv h⟩))
end
end _U
namespace _H
open PySem _L Spec PyProof.Rows
noncomputable def nst:da->Bool|.Starred _ _=>av|_=>bj
theorem aZ{e:da}{es:List da}{env:Env}(h:nst e=bj):cj (e::es) env=(av,eg e env)::cj es env:=by cases e with|Starred a b=>cases h|_=>rw[cj];(intro e p z;cases z)
noncomputable def uR:List Int->List da->Option (List da)|[],es=>ap es|i::is,.Constant (.int j) _ _::es=>if i=j then uR is es else none|_,_=>none
theorem Ed{X:_L.Cx}{c:Call}:∀(is:List Int){es a:List da}{b:List P},uR is es=ap a->SA X c a b->SA X c es (is.map (λi=>P.con (.int i))++b)|[],es,a,b,h,r=>by cases h;exact r|i::is,[],a,b,h,r=>by cases h|i::is,e::es,a,b,h,r=>by cases e with
   |Constant v k p=>cases v with
     |int j=>
       replace h:(if i=j then uR is es else none)=ap a:=h;split at h;.rename_i f;subst f;exact tH aa (Ed is h r) (aZ rfl)
       .cases h|_=>cases h
   |_=>cases h
theorem yO{n d:Nat}{o:Option Int}:_U.fH n d o=_H.fH n d o:=by cases o with|none=>rfl|some v=>
   show(if v<0 then(v+(n:Int)).toNat else min v.toNat n)=(if 0<=v then min v.toNat n else(v+n).toNat);by_cases h:0<=v;.rw[if_pos h,if_neg (by lia)]
   .rw[if_neg h,if_pos (by lia)]
theorem Mq{xs:List V}{lo hi:Option Int}:zG xs lo hi=_H.cut xs lo hi:=by unfold zG _H.cut;rw[yO,yO]
theorem aN.cut{K:PySem.W.Frag}{F:Hp}{a:List D}{vs:List V}{lo hi:Option Int}(h:aN K F vs a):aN K F (_H.cut vs lo hi) (_H.cut a lo hi):=by unfold _H.cut;rw[h.length];exact(h.drop _).take _
section
variable{X:Cx}{c:Call}{n:Nat}{e a b:da}{p pa pb pl ph:P}{pos p2:Pos}{lo hi:Option da}
noncomputable def ae9(K:PySem.W.Frag):V->Option Int->Option Int->Hp->VK->Prop:=λx lo hi H Q=>∃F d r,aJ F H/\fB K F H x d/\Kh d (ap lo) (ap hi)=ap r/\∀v F' H',Ext F H F' H'->dg K F' H' H v r->Q v H'
theorem V6:SlR X (ae9 X.K):=by
 rintro f s σ H x v w y lo hi sl Q I m hs pl o⟨F,d,r,h,z,he,k⟩;cases d with|lst q=>cases he;obtain⟨a,xs,rfl,l,i⟩:=z.lst h;refine Qx f s σ H _ v w y lo hi sl Q I m hs pl o ⟨a,xs,rfl,l,λp t=>?_⟩;rw[Mq];exact Am h i.cut t k|tup q=>
   cases he;obtain⟨a,xs,rfl,l,i,rt⟩:=z.tup h;by_cases j:_U.fH xs.length 0 lo=0/\_U.fH xs.length xs.length hi=xs.length
   . cases m;obtain⟨u,B,A,hz⟩:=I.tuple l;have g:u.toArray.size=xs.length:=by rw[cS];exact B.length.symm
     refine⟨"tuple",_,slot_tuple_getitem.lookup,A.typeIs,_U.Ao A hs pl o (by rw[g];exact j.1) (by rw[g];exact j.2) ⟨.ref a,H,I,rfl,?_⟩⟩;have hc:_H.cut q lo hi=q:=by unfold _H.cut;rw[<-i.length,<-yO,<-yO,j.1,j.2];simp[i.length]
     rw[hc]at k;exact dg.fK h rt k
   .refine VD f s σ H _ v w y lo hi sl Q I m hs pl o ⟨a,xs,rfl,l,j,λp t=>?_⟩;rw[Mq];exact Dh h i.cut t k|_=>cases he
noncomputable def SO(X:Cx)(c:Call)(o:Option da)(p:P):Prop:=∃t,PO X o t/\∀{σ:_L.St}{H F:Hp}{ρ f:List Sl}{d:D}{i:Option Int}{Q:Option Int->Hp->Prop},GS X.K F ρ σ H->dG (isVar p) (_H.ev c p) ρ=.ok d f->part p d=ap i->(∀F' H',aL X.K F ρ σ H F' f σ H'->Q i H')->t σ H Q
theorem gw:SO X c none (.con .non):=by refine⟨_,Qy,λ{σ H F ρ f d i Q}g e h k=>?_⟩;cases(show ap none=ap i from h);have j:(_H.ev c (.con .non) ρ).bind (λr ρ=>.ok r.d ρ)=.ok d f:=e;clear e;rw[_H.E2]at j;cases j;exact k F H (.refl g)
theorem gH(h:SX X c e p)(l:Ht p=av:=by rfl):SO X c (ap e) p:=by obtain⟨t,h1,m⟩:=h.dG;refine⟨_,Py h1,λ{σ H F ρ o d i Q}g e f k=>?_⟩;unfold part at f;rw[l,if_neg (by decide)]at f;obtain⟨j,q,r⟩:=map_some f;cases dZ q;subst r;exact m g e λv F' H' s u=>⟨j,u.int,k F' H' s⟩
theorem zF{d:D}{x y:Option (Option Int)}{r:R}(h:Kh d x y=ap r):∃lo hi,x=ap lo/\y=ap hi:=by cases x with|none=>cases d<;>cases h|some lo=>cases y with|none=>cases d<;>cases h|some hi=>exact⟨lo,hi,rfl,rfl⟩
theorem fM(ha:SX X c a pa)(hl:SO X c lo pl)(hh:SO X c hi ph):SX X c (.Subscript a (.Slice lo hi none p2) pos) (.slice pa pl ph):=by obtain⟨tl,l1,l2⟩:=hl;obtain⟨th,h1,h2⟩:=hh;cases hv:isVar pa with|none=>refine⟨dh (vy V6 ha.ev l1 h1) ?_,λi h=>by cases h⟩;rintro σ H Q⟨F,ρ,r,B,g,e,k⟩;rw[_H.E15,hv]at e;obtain⟨x,C,f,j⟩:=aj e;clear e;have l:(_H.ev c pa ρ).bind (λr ρ=>.ok r.d ρ)=.ok x C:=f;clear f;obtain⟨rx,ac,e1,E⟩:=aj l;clear l;cases E;obtain⟨y,G,I,m⟩:=aj j;clear j;obtain⟨z,J,L,o⟩:=aj m;clear m;obtain⟨e,M⟩:=aF o;clear o;subst M;obtain⟨N,O,q,s⟩:=zF e;rw[q,s]at e;refine⟨F,ρ,rx,_,g,e1,λv F1 H1 s1 rr=>?_⟩;obtain⟨F2,s2,_,rp⟩:=s1.eN rr;refine l2 s2.gs I q λF3 H3 s3=>h2 s3.gs L s λU H4 s4=>?_;have s5:=s2.trans (s3.trans s4);refine⟨U,_,r,s4.gs.sub,.inl ((rp.mono s3.cG).mono s4.cG),e,λv W Y x Z=>?_⟩;exact k v W Y (s5.trans (x.stp s5.gs)) (.later s5 (Z.qF s5.gs))|some i=>refine⟨dh (vy V6 (ha.var i hv) l1 h1) ?_,λi h=>by cases h⟩;rintro σ H Q⟨F,ρ,r,B,g,e,k⟩;rw[_H.E15,hv]at e;obtain⟨x0,ae,t,j⟩:=aj e;clear e;obtain⟨E,Im⟩:=aF t;clear t;subst Im;obtain⟨y,G,I,m⟩:=aj j;clear j;obtain⟨z,J,L,o⟩:=aj m;clear m;obtain⟨x,af,u,ed⟩:=aj o;clear o;obtain⟨e5,e6⟩:=aF u;clear u;subst e6;obtain⟨e,M⟩:=aF ed;clear ed;subst M;obtain⟨N,O,q,s⟩:=zF e;rw[q,s]at e;obtain⟨v,w,_⟩:=g.pk E;refine⟨v,w,l2 g I q λF3 H3 s3=>h2 s3.gs L s λU H4 s4=>?_⟩;have s5:=s3.trans s4;obtain⟨v',A,pv⟩:=s5.gs.pk e5;rw[w]at A;cases A;refine⟨U,_,r,s4.gs.sub,pv,e,λv W Y x Z=>?_⟩;exact k v W Y (s5.trans (x.stp s5.gs)) (.later s5 (Z.qF s5.gs))
theorem abH:eX X (.builtin "abs") (Qf X.K λx=>blt .abs [x]):=by rintro f s σ H xs g Q I r⟨x,h,F,d,j,l,m,he,k⟩;cases d with|int i=>cases(show ap _=ap j from he);exact Mz f s σ H xs g Q I r ⟨i,by rw[h,m.int],dg.fK l (cL _) k⟩|_=>cases he
theorem boot_abs:ez "abs"=ap (.builtin "abs"):=by decide+kernel
theorem Ml{x:Str}{p':Pos}(f:x="abs")(g:Gl X x)(i:X.mg x=none)(j:SX X c a pa)(hs:cj [a] X.env=(av,eg a X.env)::cj [] X.env:=by rfl):SX X c (.Call (.Name x p') [a] [] pos) (.blt .abs [pa]):=by subst f;exact qY (λh=>eY abH g i boot_abs h (he:=hs)) j (λρ=>rfl) rfl hs
theorem yI{i:Nat}{x:Str}{p':Pos}{op:lx}{sub:Bool}(ho:S8 X op (Zd λi j=>if sub then i-j else i+j))(t:X.N.Nodup)(hi:X.N[i]?=ap x)(w:Loc X.env.scope x)(he:SX X c e p)(y:X.fn x=bj\/X.env.scope.names.lookup x=ap .local:=by first|(left;rfl)|(right;rfl)|assumption):SS X c n (.AugAssign (.Name x p') op e pos) (.aug i sub p):=by
 obtain⟨te,h1,z⟩:=he.dG;refine cU (Xo t hi w h1 ho y) ?_;rintro D σ H⟨F,ρ,Z,A,g,e,k⟩;rw[_H.X16]at e;obtain⟨a0,B,f,s⟩:=aj e;clear e;obtain⟨C,E⟩:=aF f;clear f;subst E;obtain⟨b0,G,I,o⟩:=aj s;clear s;obtain⟨v,q,J⟩:=g.pk C;refine⟨v,q,z g I λu F1 L s1 M=>?_⟩;split at o;.rename_i h l;obtain⟨O,Q,m,U⟩:=aj o;clear o;cases U;obtain⟨W,e3⟩:=aF m;clear m;have Y:Rep X.K F1 (.int (if sub then h-l else h+l)) (.int (if sub then h-l else h+l)):=cL _;exact⟨h,l,J.int,M.int,k F1 _ L (aL.put (r:=.val (.int _)) s1 Y W)⟩
 .cases o
theorem tO:S8 X .Add (Zd λi j=>if av then i-j else i+j):=Vo
theorem tQ:S8 X .Sub (Zd λi j=>if bj then i-j else i+j):=U6
end
end _H
namespace _L
open PySem Spec PyProof.Rows
section
variable{X:Cx}{tg:da}
theorem zc:ez "tuple"=ap (.type "tuple"):=by decide+kernel
theorem uK:ez "reversed"=ap (.type "reversed"):=by decide+kernel
end
end _L
namespace _H
open PySem _L Spec PyProof.Rows
section
variable{K:PySem.W.Frag}{F F1 H H1:Hp}{ρ ρ1:List Sl}{σ:_L.St}{ds:List D}{a:b_}
theorem aN.rev:∀{ds:List D}{xs:List V},aN K F xs ds->aN K F xs.reverse ds.reverse|[],_,h=>by rw[h.iY];exact .nil|d::ds,_,h=>by obtain⟨v,r,rfl,h1,b⟩:=h.dB;rw[mo,mo];exact(aN.rev b).append (.cons h1 .nil)
end
end _H
namespace _L
open PySem Spec PyProof.Rows
variable{ch:List b_}{h h' base:ef}{e C:b_}{tb:bd}{outer:List Env}{w:eh}{H:Hp}
noncomputable def nR(h:ef)(e C:b_)(tb:bd):Prop:=∃(o:Obj)(vs:Array bd),h.get? e=ap o/\o.cls=.ref C/\o.data=.fields vs/\vs[1]?=ap tb/\o.dict=none
theorem Hw{f:Array bd->Array bd}{o:Obj}:(fi f o).dict=o.dict:=by unfold fi;split<;>rfl
noncomputable def Oe(h:ef)(T:b_)(b:bd):Prop:=∃(o:Obj)(a:Array bd),h.get? T=ap o/\o.data=.fields a/\a[3]?=ap b
noncomputable def Q7:bd->List b_|.ref T=>[T]|_=>[]
structure qW(fs ch:List b_)(h h':ef):Prop where
 keep:∀b o,h.get? b=ap o->b∉ch->b∉fs->h'.get? b=ap o
 slot:∀b o,h.get? b=ap o->b∉ch->∃sl,h'.get? b=ap {o with slots:=sl}
theorem qW.trans{fs:List b_}{h1 f:ef}(a:qW fs ch h h1)(b:qW fs ch h1 f):qW fs ch h f:=⟨λx o e g i=>b.keep x o (a.keep x o e g i) g i,λx o e n=>by obtain⟨sl,q⟩:=a.slot x o e n;obtain⟨c,j⟩:=b.slot x _ q n;exact⟨c,j⟩⟩
theorem qW.more{fs c:List b_}(a:qW fs ch h h')(s:∀b∈ch,b∈c):qW fs c h h':=⟨λx o e n=>a.keep x o e λz=>n (s x z),λx o e n=>a.slot x o e λz=>n (s x z)⟩
theorem qW.of_keep{fs:List b_}(k:∀b o,h.get? b=ap o->b∉ch->h'.get? b=ap o):qW fs ch h h':=⟨λb o e n _=>k b o e n,λb o e n=>⟨o.slots,k b o e n⟩⟩
theorem qW.set{fs:List b_}(h:ef)(a:b_)(f:Obj->Obj):qW fs [a] h (h.update a f):=.of_keep λb o e n=>(dN _ _ (by simpa using fk (by simpa using n))).trans e
section
variable{M:nv}{A:et}{E:bd->bx->Prop}{s:bx}
theorem nR.Q8{l:List Env}(b:nR s.heap e C tb)(c:s.heap.FunFrames base l):e∉frs l:=λf=>by obtain⟨o,vs,h1,_,g,_⟩:=b;obtain⟨_,j,a,i⟩:=c.mem f;rw[h1]at a;cases a;exact i vs g
theorem vf{env:Env}{L:b_}{head:bd}{f:Bool}{Q:Unit->bx->Prop}(r:A.frames=ap (env::outer))(z:s.heap.FunFrames base (env::outer))(I:env.frame=ap L)(B:nR s.heap e C tb)(k:∀h' T,s.heap.objs.size<=T->T≠e->qW (frs (env::outer)) [e] s.heap h'->nR h' e C (.ref T)->Oe h' T (hQ L)->Q () {s with heap:=h'}):cH M A (do let a<-frameOf env;let m<-entryPlaceOf L f;let b<-m6 head a .none (hQ L) .none m;setField (.ref e) 1 b) Q E s:=by
 have t:=B.Q8 z;obtain⟨J,vs,he,u,hd,h1,v⟩:=B;have hsz:=(fE.mp h1).1;refine a_ (wpAny_frameOf_fun r z I λc so=>a_ (wpAny_entryPlaceOf λm hpl=>?_));unfold m6 newFields;refine a_ (ew ?_ (hpl.sizeOk5 _ _ _ _ _));have b1:qW (frs (env::outer)) [e] s.heap c:=⟨λb o q _ n=>(so.2.1 b n).trans q,λb o q _=>so.2.2 b o q⟩;have g:c.get? e=ap J:=(so.2.1 e t).trans he;generalize G:({cls:=.type "traceback",dict:=none,data:=.fields ([head,.ref L,.none,hQ L,.none]++(if m.isEmpty then cp 6 dD else m)).toArray}:Obj)=p;have i:=get?_push_of_some (h:=c) p g;refine ix i hd hsz ?_;have j:c.objs.size≠e:=nV (df g);have l:=ja hd (·.setIfInBounds 1 (dq c.objs.size));have x:=h_ (fi (·.setIfInBounds 1 (dq c.objs.size))) i (kC l);have y:((c.push p).update e (fi (·.setIfInBounds 1 (dq c.objs.size)))).get? c.objs.size=ap p:=by rw[dN _ _ (fk j)];exact dl c (by rw[<-G];rfl)
 refine k _ c.objs.size ?_ j (b1.trans ((qW.of_keep λb o q _=>iZ q).trans (qW.set _ _ _))) ⟨_,_,x,?_,l,by simp[hsz],Hw.trans v⟩ ⟨p,_,y,by rw[<-G],?_⟩;.exact n5 so.1.symm
 .rw[Obj.cls_mapFields];exact u
 .first|(simp;done)|(rcases hpl with rfl|⟨_,_,_,_,_,_,_,rfl⟩<;>simp)
theorem wO{env:Env}{L:b_}{Q:Unit->bx->Prop}(m:A.frames=ap (env::outer))(U:s.heap.FunFrames base (env::outer))(B:env.frame=ap L)(W:nR s.heap e C tb)(Z:tb=.none\/∃T,tb=.ref T/\T≠e/\Oe s.heap T .none)(k:∀h' a,s.heap.objs.size<=a->a≠e->qW (frs (env::outer)) (e::Q7 tb) s.heap h'->nR h' e C (.ref a)->Oe h' a .none->Q () {s with heap:=h'}):cH M A (mW (.ref e) env) (λ_ s2=>cH M A (lH (.ref e) none) Q E s2) E s:=by
 have fin:∀(p:ef)(a:b_),s.heap.objs.size<=a->a≠e->qW (frs (env::outer)) (e::Q7 tb) s.heap p->nR p e C (.ref a)->Oe p a (hQ L)->cH M A (lH (.ref e) none) Q E {s with heap:=p}:=by
  intro p a X g b2 x2 t2;have i:s.heap.get? a=none:=i9 X;obtain⟨o,vs,r,G,u,v,I⟩:=x2;obtain⟨oT,Y,j,l,z⟩:=t2;unfold lH;refine a_ (eK r u v ?_);rw[if_pos (show(dq a !=dD)=bj from by simp)];have hsz:=(fE.mp z).1;have hd:=ja l (·.setIfInBounds 3 ((none:Option b_).elim dD λf=>hQ f));refine ix j l hsz (k _ a X g ⟨λb y c n f=>?_,λb y c n=>?_⟩ ⟨o,vs,?_,G,u,v,I⟩ ⟨_,_,h_ _ j (kC hd),hd,by simp[hsz]⟩)
  . have:a≠b:=by rintro rfl;rw[i]at c;cases c
    rw[dN _ _ this];exact b2.keep b y c n f
  . have:a≠b:=by rintro rfl;rw[i]at c;cases c
    obtain⟨sl,q⟩:=b2.slot b y c n;exact⟨sl,by rw[dN _ _ this];exact q⟩
  .rw[dN _ _ g];exact r
 obtain⟨o,vs,r,G,u,v,I⟩:=id W;unfold mW;simp only[B];refine a_ (eK r u v ?_);rcases Z with rfl|⟨T,rfl,J,oT,Y,j,l,z⟩;.rw[if_neg (by decide)];exact vf m U B W λh' a i g b x t=>fin h' a i g b x t
 . rw[if_pos (show(dq T !=dD)=bj from by simp)];refine a_ (eK j l z ?_);rw[if_neg (show ¬((dD==hQ L)=bj)from by simp[hQ])];refine a_ (ix j l (fE.mp z).1 ?_);have b0:qW (frs (env::outer)) [T] s.heap (s.heap.update T (fi (·.setIfInBounds 3 dD))):=qW.set _ _ _;have N:nR (s.heap.update T (fi (·.setIfInBounds 3 dD))) e C (.ref T):=⟨o,vs,by rw[dN _ _ J];exact r,G,u,v,I⟩;have O:(s.heap.update T (fi (·.setIfInBounds 3 dD))).FunFrames base (env::outer):=U.of_keeps λb y c nf=>by
    have:T≠b:=by rintro rfl;rw[j]at c;cases c;exact nf Y l
    exact⟨y,by rw[dN _ _ this];exact c,rfl⟩
   refine vf (s:={s with heap:=s.heap.update T (fi (·.setIfInBounds 3 dD))}) m O B N λh' a i g b x t=>fin h' a ?_ g ((b0.more (by simp[Q7])).trans (b.more (by simp))) x t;exact gT (n5 (Heap.size_update _ _ _).symm) i
end
structure Fly(old:ef)(H:Hp)(C e:b_)(h:ef):Prop where
 free:H e=none
 new:old.get? e=none
 ex:∃tb,nR h e C tb/\(tb=.none\/∃T,tb=.ref T/\T≠e/\Oe h T .none/\H T=none/\old.get? T=none)
noncomputable def o4(P:c_)(w:eh):Iz:=λouter H s E e a=>∃(H':Hp)(C b:b_),e=.ref b/\a.os=s.os/\kU a.gens/\Un (frs outer) [] H H' s.heap a.heap/\lO P w H' a.heap/\Fly s.heap H' C b a.heap/\E e (ap C) H'
theorem qW.hok{P:c_}{fs:List b_}(b:qW fs ch h h')(o:lO P w H h)(h1:∀c∈fs,H c=none)(f:∀c∈ch,H c=none):lO P w H h':=by
 intro a u e;refine(o a u e).stay (λc v hc q=>b.keep c v q (λz=>?_) λz=>?_) (λc q=>q) λc xs q=>q
 . have:=f c z;rcases hc with rfl|hc;.rw[e]at this;cases this
   .rw[hc]at this;cases this
 . have:=h1 c z;rcases hc with rfl|hc;.rw[e]at this;cases this
   .rw[hc]at this;cases this
section
variable{X:Cx}{pins:List (b_×Obj)}{σ:St}{H:Hp}{s:bx}
theorem gone{fs ex:List b_}{H':Hp}(u:Un fs ex H H' h h'){b:b_}(a:b∉ex)(n:h'.get? b=none):h.get? b=none:=by cases q:h.get? b with|none=>rfl|some o=>obtain⟨c,z⟩:=u.there b o q a;rw[n]at z;cases z
theorem xZ{b:b_}(h:b∈Q7 tb):tb=.ref b:=by cases tb with|ref T=>simp[Q7]at h;rw[h]|_=>simp[Q7]at h
theorem wW{outer:List Env}{a:b_}(I:Inv X pins σ H s)(k:X.ex=[])(t:X.stack=X.env::X.outer/\X.env.frame=ap X.env.locals)(f:Fly X.s₀.heap H C e s.heap)(M:nR s.heap e C tb)(y:tb=.none\/∃T,tb=.ref T/\T≠e/\Oe s.heap T .none/\H T=none/\X.s₀.heap.get? T=none)(v:s.heap.objs.size<=a)(A:a≠e)(b:qW (frs X.stack) (e::Q7 tb) s.heap h')(B:nR h' e C (.ref a))(t':Oe h' a .none):Un X.fs [] X.H₀ H X.s₀.heap h'/\lO X.prog X.w H h'/\Fly X.s₀.heap H C e h':=by
 have j:∀c∈e::Q7 tb,H c=none/\X.s₀.heap.get? c=none:=λc hc=>by
  rcases de.mp hc with rfl|hc;.exact⟨f.free,f.new⟩
  . have:=xZ hc;subst this;rcases y with z|⟨T,z,_,_,E,G⟩;.cases z
    .cases z;exact⟨E,G⟩
 have l:frs X.stack=X.env.locals::X.fs:=by rw[t.1];simp[frs,t.2,Cx.fs]
 have i:X.s₀.heap.get? X.env.locals=none:=i9 I.ok.above;have m:H a=none:=I.hok.fresh v;have J:s.heap.get? a=none:=i9 v;have u:=I.base;rw[k]at u;refine⟨⟨λc o q n x _=>?_,λc o q n L _=>?_,λc o q n _=>u.free c o q n (by simp),λc o q _=>?_,u.tups,u.rY,u.vG⟩,b.hok I.hok I.tE λc hc=>(j c hc).1,⟨f.free,f.new,_,B,.inr ⟨a,rfl,A,t',m,gone u (by simp) J⟩⟩⟩
 . refine b.keep c o (u.keep c o q n x (by simp)) (λz=>?_) (λz=>?_);.rw[(j c z).2]at q;cases q
   . rw[l]at z;rcases de.mp z with rfl|z;.rw[i]at q;cases q
     .exact x z
 . obtain⟨sl,p⟩:=u.slot c o q n L (by simp);obtain⟨r,g⟩:=b.slot c _ p λz=>by rw[(j c z).2]at q;cases q
   exact⟨r,g⟩
 . obtain⟨N,p⟩:=u.there c o q (by simp);obtain⟨sl,g⟩:=b.slot c _ p λz=>by rw[(j c z).2]at q;cases q
   exact⟨_,g⟩
theorem bT.there{P:c_}{a:b_}{o:HO}(x:bT P w H h a o):∃u,h.get? a=ap u:=by cases o with|lst xs=>obtain⟨_,_,_,_,e⟩:=x;exact⟨_,e⟩|tup xs=>obtain⟨_,_,_,_,e,_⟩:=x;exact⟨_,e⟩|dK kvs=>obtain⟨_,_,_,_,o,_,_,e,_⟩:=x;exact⟨_,e⟩|dT kvs=>obtain⟨_,_,_,_,o,_,_,e,_⟩:=x;exact⟨_,e⟩|set S n=>obtain⟨o,_,_,_,e,_⟩:=x;exact⟨_,e⟩|ins C b fs=>obtain⟨_,_,_,e,_⟩:=x;exact⟨_,e⟩|own y=>obtain⟨_,e⟩:=x;exact⟨_,e⟩|xd fs=>obtain⟨_,⟨_,_,_,e,_⟩,_⟩:=x;exact⟨_,e⟩|vD lo hi=>obtain⟨_,_,_,e⟩:=x;exact⟨_,e⟩|eN c u=>obtain⟨e,_⟩:=x;exact⟨_,e⟩|T3 ps=>exact⟨_,x⟩|met f y=>exact⟨_,x⟩|ext g=>obtain⟨_,⟨_,e⟩,_⟩:=x;exact⟨_,e⟩
theorem lO.none{P:c_}{w:eh}{H:Hp}{h:ef}{a:b_}(o:lO P w H h)(n:h.get? a=none):H a=none:=by cases q:H a with|none=>rfl|some u=>obtain⟨v,z⟩:=(o a u q).there;rw[n]at z;cases z
noncomputable def Off(pn:List (b_×Obj))(e:b_)(h:ef):Prop:=∀p∈pn,p.1≠e/\∀C tb,nR h e C tb->tb≠.ref p.1
noncomputable def sG(X:Cx)(E:XK):Prop:=∀(pins:List (b_×Obj))(σ:St)(H:Hp)(s:bx)(C e:b_),Inv X pins σ H s->Fly X.s₀.heap H C e s.heap->Off X.pn e s.heap->E (.ref e) (ap C) H->X.xe (.ref e) s
theorem fO{P:c_}{K:PySem.W.Frag}{mg:Str->Option bd}{N:List Str}{qual:Str}{scope:iE}{f:b_}{g:bd}{A:et}{s0:bx}{k:Hp}{E:XK}:sG (jG (o4 P w) P w K mg base N qual scope f g A outer s0 k E) E:=by intro pins σ H s C e I l _ q;obtain⟨tb,m,n⟩:=l.ex;show cH (cM P w) (A.deeper (jO qual scope s0.heap.objs.size f g)) (leaving (jO qual scope s0.heap.objs.size f g) (.ref e)) (λ_ i=>o4 P w outer k s0 E (.ref e) i) _ s;unfold leaving;refine a_ (wO (base:=base) I.ok.frames I.stack rfl m (n.imp id λ⟨T,a,b,c,_⟩=>⟨T,a,b,c⟩) λh' t o p b r t'=>?_);obtain⟨u,ok,j⟩:=wW (outer:=outer) I rfl ⟨rfl,rfl⟩ l m n o p b r t';exact⟨H,C,e,rfl,I.os,I.bare,u,ok,j,q⟩
theorem kh{P:c_}{K:PySem.W.Frag}{mg:Str->Option bd}{N:List Str}{qual:Str}{scope:iE}{f:b_}{a:bd}{A:et}{s0:bx}{b:Hp}{E:XK}:gy (cM P w) (jG (o4 P w) P w K mg base N qual scope f a A outer s0 b E).A (jG (o4 P w) P w K mg base N qual scope f a A outer s0 b E).env (jG (o4 P w) P w K mg base N qual scope f a A outer s0 b E).xe:=PassesOwn.leaving
theorem Ss{E:XK}(j:X.ex=[])(A:sG X E):Passes (o4 X.prog X.w) X E:=by
 rintro pins σ H s e B I⟨H',C,G,he,os,bare,un,ok,f,q⟩;subst he;obtain⟨l,g,d,t,k⟩:=B;obtain rfl:k=s.os:=os;have J:Inv X pins σ H' ⟨l,g,d,t,s.os⟩:=I.call (h':=l) (g':=g) (d':=d) (t':=t) (ch:=[]) un ok bare (λb z=>absurd z (by simp));have m:∀b,s.heap.get? b=none->X.s₀.heap.get? b=none:=λb n=>by cases z:X.s₀.heap.get? b with|none=>rfl|some o=>obtain⟨Y,r⟩:=I.base.there b o z (by rw[j];simp);rw[n]at r;cases r
 obtain⟨tb,u,v⟩:=f.ex;exact A pins σ H' _ C G J ⟨f.free,m _ f.new,tb,u,v.imp id λ⟨T,a,b,c,d',n⟩=>⟨T,a,b,c,d',m _ n⟩⟩ (λp L=>by
  have i:=(I.pin p (fx _ L)).1;refine⟨λz=>?_,λZ M N z=>?_⟩;.rw[z,f.new]at i;cases i
  . obtain⟨o,vs,O,_,Q,U,_⟩:=u;obtain⟨o2,W,r1,_,x,y,_⟩:=N;rw[O]at r1;cases r1;rw[Q]at x;cases x;rw[U]at y;cases y;rcases v with t|⟨T,t,_,_,_,n⟩;.rw[t]at z;cases z
    .rw[t]at z;cases z;rw[n]at i;cases i) q
theorem IV{x:Str}{B a b:String}{bm:List bd}{c:Str}{E:XK}{np cpos f pos:Pos}{ck}(hc:X.calm=bj)(i:X.ex=[])(r:Gl X x)(O:kT x C bm a X.mg X.base)(FB:ExcBaseFacts B a b bm)(u:sG X E)(hd:(x==("__debug__":Str))=av:=by decide)(he:cj [.Constant (.str c) ck f] X.env=(av,eg (.Constant (.str c) ck f) X.env)::cj [] X.env:=by rfl)(hpl:(fS cpos (cj [] X.env)).any (·.1)=av:=by rfl):PS X (.Raise (ap (.Call (.Name x np) [.Constant (.str c) ck f] [] cpos)) none pos) (λ_ _ H=>∀e,E (.ref e) (ap C) H):=by
 intro pins s σ H D I h;obtain⟨v,N,nm,q,bs,hdct,sn,sub,ab,col,dd,k0,k1,k2,k3,k5,mN,y,A,j,T⟩:=O.obj;refine wpAny_Raise_call_subT (C:=C) (nm:=nm) (q:=q) (N:=N) (bs:=bs) (bm:=v) (hdct:=hdct) (sn:=sn) (sub:=sub) (ab:=ab) (col:=col) (dd:=dd) (k0:=k0) (k1:=k1) (k2:=k2) (k3:=k3) (k5:=k5) FB (mN:=mN) (T.hasType FB.hasBase) (I.ok.hd hc) (by rw[he];exact hpl) j (sJ I r O.bound ⟨rfl,?_⟩ hd);rw[he];have g:Inv X pins σ H {s with toks:=s.toks+1}:=I.tok _;refine kD (ib (Calls.Constant_str (k:=ck) (pos:=f) (ji ⟨rfl,by show 1<=sizeLine;decide,g.bk _ _ y,A.keeps g.bk,T.keeps g.bk,λh' e m=>?_⟩)));have G:Inv X pins σ H {s with heap:=h',toks:=s.toks+1}:=g.kept (t':=s.toks+1) m.keeps;obtain⟨t,l,_⟩:=m.there;have J:X.s₀.heap.get? e=none:=gone I.base (by rw[i];simp) m.new;exact u pins σ H _ C e G ⟨lO.none I.hok m.new,J,.none,⟨_,_,l,rfl,rfl,rfl,rfl⟩,.inl rfl⟩ (λp L=>by
  have n:=(I.pin p (fx _ L)).1;refine⟨λz=>?_,λY M Q z=>?_⟩;.rw[z,show s.heap.get? e=none from m.new]at n;cases n
  .obtain⟨Z,U,r1,_,W,o,_⟩:=Q;rw[l]at r1;cases r1;cases W;rw[z]at o;cases o) (h e)
end
section
variable{M:nv}{A:et}{E:bd->bx->Prop}
theorem vQ{g:Array GenState}{d:Drawn}{t:Nat}{os:OsState}{j:b_}{J:Obj}{Q:Bool->bx->Prop}{nm q:Str}{N:b_}{bs bm:List bd}{hdct:Bool}{sn:List Str}{sub:List bd}{ab:Bool}{col:Option Bool}{dd:Option b_}{k0 k1 k2 k3 k5:Option bd}{b:String}{m L:Str}{N':b_}{n c:List bd}{o:Bool}{p:List Str}{r:List bd}{s:Bool}{u:Option Bool}{O:Option b_}{v x y z B:Option bd}{a:String}(U:h.get? C=ap (qr nm q C N bs bm hdct sn sub ab col dd k0 k1 k2 k3 k5 b))(k:h.get? j=ap (qr m L j N' n c o p r s u O v x y z B a))(he:h.get? e=ap J)(l:J.cls=.ref C)(i:c.contains (.type "BaseException")=bj)(G:(dq C::bm).contains (.ref j)=bj)(W:Q bj ⟨h,g,d,t,os⟩):cH M A (excMatches (.ref e) (.ref j)) Q E ⟨h,g,d,t,os⟩:=by
 have I:(dq j::c).contains (.type "BaseException")=bj:=by rw[List.contains_cons,i,Bool.or_true]
 have f:=tc_notTuple;unfold excMatches;repeat(first|(with_reducible refine wpAny_loadPart_at he ?_;rw[l])|with_reducible refine wpAny_loadPart_at k ?_|(with_reducible refine qB k ?_;rw[I])|(with_reducible refine qB U ?_;rw[G])|wp_step)
 exact W
end
noncomputable def Under(h:ef)(C b:b_):Prop:=∃nm q N bs bm hdct sn sub ab col dd k0 k1 k2 k3 k5 a,h.get? C=ap (qr nm q C N bs bm hdct sn sub ab col dd k0 k1 k2 k3 k5 a)/\(dq C::bm).contains (.ref b)=bj
theorem Under.keeps{f:b_}(u:Under h C f)(k:∀b o,h.get? b=ap o->h'.get? b=ap o):Under h' C f:=by obtain⟨nm,q,N,bs,bm,hdct,sn,sub,ab,col,dd,k0,k1,k2,k3,k5,a,g,c⟩:=u;exact⟨nm,q,N,bs,bm,hdct,sn,sub,ab,col,dd,k0,k1,k2,k3,k5,a,k _ _ g,c⟩
noncomputable def rK(X:Cx)(a:List (b_×Obj))(b:bd->bx->Prop):Cx:={X with pn:=X.pn++a,xe:=b}
noncomputable def FQ(X:Cx)(e:b_):Cx:={X with A:=X.A.mark (ap (.ref e)),calm:=av}
section
variable{X:Cx}{pins Bb:List (b_×Obj)}{σ:St}{H:Hp}{s:bx}{p8:bd->bx->Prop}{e:b_}
theorem J0:X.Ok↔(rK X pins p8).Ok:=⟨λo=>⟨o.mod,o.kind,o.glob,o.blt,o.above,o.inj,o.has,o.cab,o.hd,o.frames,o.T4,o.Z1,o.bs,o.IK,o.yP,o.Ba,o.oW,o.Om⟩,λo=>⟨o.mod,o.kind,o.glob,o.blt,o.above,o.inj,o.has,o.cab,o.hd,o.frames,o.T4,o.Z1,o.bs,o.IK,o.yP,o.Ba,o.oW,o.Om⟩⟩
theorem Ox:X.Ok->(FQ X e).Ok:=λo=>⟨o.mod,o.kind,o.glob,o.blt,o.above,o.inj,o.has,o.cab,(λz=>by cases z),o.frames,o.T4,o.Z1,o.bs,o.IK,o.yP,o.Ba,o.oW,o.Om⟩
theorem PJ(I:Inv X pins σ H s):Inv (rK X pins p8) [] σ H s:=⟨J0.mp I.ok,I.os,I.bare,I.base,I.loc,I.cell,I.free,I.iQ,λp a=>I.pin p (by simpa[rK]using a),I.hok,I.len⟩
theorem o7(I:Inv (rK X pins p8) Bb σ H s):Inv X pins σ H s:=⟨J0.mpr I.ok,I.os,I.bare,I.base,I.loc,I.cell,I.free,I.iQ,λp a=>I.pin p (fx _ a),I.hok,I.len⟩
theorem Lq(I:Inv X pins σ H s):Inv (FQ X e) pins σ H s:=⟨Ox I.ok,I.os,I.bare,I.base,I.loc,I.cell,I.free,I.iQ,I.pin,I.hok,I.len⟩
theorem Inv.but(I:Inv X pins σ H s)(b:qW (frs X.stack) ch s.heap h')(un:Un X.fs X.ex X.H₀ H X.s₀.heap h')(ok:lO X.prog X.w H h')(nl:X.env.locals∉ch)(nc:∀x c,X.env.cells.lookup x=ap c->c∉ch)(np:∀p∈X.pn++pins,p.1∉ch):Inv X pins σ H {s with heap:=h'}:=by
 have a:∀x c v,X.env.cells.lookup x=ap c->s.heap.IsCell c v->h'.IsCell c v:=λx c v hc⟨o,ho,hd⟩=>by obtain⟨sl,q⟩:=b.slot c o ho (nc x c hc);exact⟨_,q,hd⟩
 refine⟨I.ok,I.os,I.bare,un,?_,λx c hc=>?_,I.free,I.iQ,λp g=>?_,ok,I.len⟩;.obtain⟨m,⟨o,es,ep,ho,r⟩,f⟩:=I.loc;obtain⟨sl,l⟩:=b.slot _ o ho nl;refine⟨m,⟨_,es,ep,l,r⟩,λi x v h1 n t=>?_⟩;obtain⟨u,y,lk⟩:=f i x v h1 n t;exact⟨u,y,lk.imp id λ⟨k,c,hc,A⟩=>⟨k,c,hc,a x c _ hc A⟩⟩
 .obtain⟨v,f⟩:=I.cell x c hc;exact⟨v,a x c v hc f⟩
 .obtain⟨p1,p2,p3,j,B⟩:=I.pin p g;exact⟨b.keep _ _ p1 (np p g) λz=>(de.mp (I.uP _ z)).elim p3 j,p2,p3,j,B⟩
theorem nR.nl(I:Inv X pins σ H s)(x:nR s.heap e C tb):X.env.locals≠e/\∀y c,X.env.cells.lookup y=ap c->c≠e:=by
 obtain⟨o,vs,h1,_,a,_⟩:=x;refine⟨λz=>?_,λy c hc z=>?_⟩;.obtain⟨m,⟨b,es,ep,ho,r,_⟩,_⟩:=I.loc;rw[z,h1]at ho;cases ho;rw[a]at r;cases r
 .obtain⟨v,b,ho,r⟩:=I.cell y c hc;rw[z,h1]at ho;cases ho;rw[a]at r;cases r
theorem Oe.nl{T:b_}{b:bd}(I:Inv X pins σ H s)(x:Oe s.heap T b):X.env.locals≠T/\∀y c,X.env.cells.lookup y=ap c->c≠T:=by
 obtain⟨o,vs,h1,a,_⟩:=x;refine⟨λz=>?_,λy c hc z=>?_⟩;.obtain⟨m,⟨f,es,ep,ho,r,_⟩,_⟩:=I.loc;rw[z,h1]at ho;cases ho;rw[a]at r;cases r
 .obtain⟨v,f,ho,r⟩:=I.cell y c hc;rw[z,h1]at ho;cases ho;rw[a]at r;cases r
end
end _L
namespace _H
open PySem _L Spec PyProof.Rows
variable{x:Str}{cl:Nat->b_}
noncomputable def tX(K:PySem.W.Frag)(W:Nat->Hp->Prop)(g:List Sl->Option (Nat×List Sl)):TS:=λ_ σ H=>∃F ρ k a,GS K F ρ σ H/\g ρ=ap (k,a)/\∀F' σ' H',aL K F ρ σ H F' a σ' H'->W k H'
noncomputable def Oz(X:Cx)(c:Call)(n:Nat)(W:Nat->Hp->Prop)(st:ek)(s:S):Prop:=PS X st (tX X.K W (xV c n s))
noncomputable def O2(X:Cx)(c:Call)(n:Nat)(W:Nat->Hp->Prop)(st:List ek)(s:List S):Prop:=qp X st (tX X.K W (jw c n s))
section
variable{X:Cx}{c:Call}{n:Nat}{W:Nat->Hp->Prop}{e a b tg iter:da}{p:P}{pos:Pos}{body:List ek}{ss:List S}
theorem abf{st:ek}{t u:TS}(h:PS X st t)(h':PS X st u):PS X st (λD σ H=>t D σ H\/u D σ H):=λf s σ H D I q=>q.elim (h f s σ H D I) (h' f s σ H D I)
theorem acn{t u:TI}(h:PI X tg iter t)(h':PI X tg iter u):PI X tg iter (λσ H R=>t σ H R\/u σ H R):=λf s σ H R I q=>q.elim (h f s σ H R I) (h' f s σ H R I)
theorem Ma{st:List ek}{t u:TS}(h:qp X st t)(h':qp X st u):qp X st (λD σ H=>t D σ H\/u D σ H):=λf s σ H D I q=>q.elim (h f s σ H D I) (h' f s σ H D I)
theorem cR{st:ek}{s:S}(h:∀ρ,xV c n s ρ=none:=by intro _;rfl):Oz X c n W st s:=cU uO λD σ H⟨F,ρ,k,ρ',g,e,q⟩=>by rw[h]at e;cases e
theorem bF:O2 X c n W [] []:=lA su λD σ H⟨F,ρ,k,ρ',g,e,q⟩=>by rw[jw]at e;cases e
theorem aK{st:ek}{s:S}{f:List ek}{ss:List S}(h1:SS X c n st s)(j:Oz X c n W st s)(m:O2 X c n W f ss):O2 X c n W (st::f) (s::ss):=by refine lA (jm (abf h1 j) m) ?_;rintro D σ H⟨F,ρ,k,h,g,e,q⟩;rw[jw]at e;cases hx:xV c n s ρ with|some x=>rw[hx]at e;cases e;exact .inr ⟨F,ρ,k,h,g,hx,q⟩|none=>rw[hx]at e;dsimp only at e;cases he:ex c n s ρ with|stuck=>rw[he]at e;cases e|exc _ _=>rw[he]at e;cases e|ok o i=>rw[he]at e;cases o with|next=>exact .inl ⟨F,ρ,.next,i,g,he,λF1 r v s1=>⟨F1,i,k,h,s1.gs,e,λt l u s2=>q t l u (s1.trans s2)⟩⟩|_=>cases e
theorem oV{m o:List ek}{r s:List S}(hc:ST X c e p)(t:O2 X c n W m r)(u:O2 X c n W o s):Oz X c n W (.If e m o pos) (.ifs p r s):=by
 refine cU (FT hc t u) ?_;rintro D σ H⟨F,ρ,k,i,g,e,q⟩;rw[xV]at e;split at e;.rename_i x f v;refine⟨F,ρ,x,f,g,v,λF1 w s1=>?_⟩;cases x with|true=>exact⟨F1,f,k,i,s1.gs,by simpa using e,λj h l s2=>q j h l (s1.trans s2)⟩|false=>exact⟨F1,f,k,i,s1.gs,by simpa using e,λj h l s2=>q j h l (s1.trans s2)⟩
 .cases e
theorem uT{C:b_}{B f h:String}{bm:List bd}{i:Str}{E:XK}{np cpos l:Pos}{ck}{kk:Nat}(hc:X.calm=bj)(j:X.ex=[])(m:Gl X x)(O:kT x C bm f X.mg X.base)(FB:ExcBaseFacts B f h bm)(o:sG X E)(r:∀H,W kk H->∀e,E (.ref e) (ap C) H)(hd:(x==("__debug__":Str))=av:=by rfl):Oz X c n W (.Raise (ap (.Call (.Name x np) [.Constant (.str i) ck l] [] cpos)) none pos) (.vX kk):=by refine cU (IV hc j m O FB o hd (aZ rfl) rfl) ?_;rintro D σ H⟨F,ρ,k,s,g,e,q⟩;rw[xV]at e;cases e;exact r H (q F σ H (.refl g))
noncomputable def RX(K:PySem.W.Frag)(c:Call)(W:Nat->Hp->Prop)(p:P)(σ:_L.St)(H:Hp):Prop:=∃F ρ k f,GS K F ρ σ H/\gY c p ρ=ap (k,f)/\∀F' σ' H',aL K F ρ σ H F' f σ' H'->W k H'
noncomputable def XE(X:Cx)(c:Call)(W:Nat->Hp->Prop)(e:da)(p:P):Prop:=PE X e (λσ H _=>RX X.K c W p σ H)
noncomputable def XI(X:Cx)(c:Call)(W:Nat->Hp->Prop)(tg e:da)(p:P):Prop:=PI X tg e (λσ H _=>RX X.K c W p σ H)
theorem Qm(h:∀ρ,gY c p ρ=none:=by intro _;rfl):XI X c W tg iter p:=λf s σ H R I⟨F,ρ,k,ρ',g,e,q⟩=>by rw[h]at e;cases e
theorem Wi(h:XE X c W iter p):XI X c W tg iter p:=λf s σ H R I q=>yK h f s σ H R I q
theorem xK{g:TG}{is:List Nat}{one:Bool}(hp:gy (cM X.prog X.w) X.A X.env X.xe)(hc:X.calm=bj)(hi:SI X c tg iter p)(hg:PG X tg g)(Q:G5 X.K (λρ d=>cO ρ is one d) g)(hb:SB X c n body ss)(U:O2 X c n W body ss)(hs:∀x,eH iter X.env x=eL x:=by intro _;rfl)(hx:XI X c W tg iter p:=by exact Qm):Oz X c n W (.For tg iter body [] pos) (.j6 p is one ss):=by refine cU (Bj hp hc (acn hi hx) hg (Ma hb U) hs) ?_;rintro D σ H⟨F,ρ,k,l,g0,e,q⟩;rw[xV]at e;cases hx0:gY c p ρ with|some y=>rw[hx0]at e;cases e;exact .inr ⟨F,ρ,k,l,g0,hx0,q⟩|none=>
 rw[hx0]at e;dsimp only at e;split at e
 . rename_i j o e1;obtain⟨⟨Y,B⟩,e2,e3⟩:=eT.mp e;cases e3;refine .inl ⟨F,ρ,j,o,g0,e1,λJ F1 Z w=>?_⟩;have src:∀(i:Nat)(F':Hp)(l:List Sl)(σ':_L.St)(H':Hp),aL X.K F1 o σ Z F' l σ' H'->(∀d,j[i]?=ap d->J.go i H'/\∀x nY,J.Nm i H' x nY->∃E,Ext F' H' E nY/\Rep X.K E x d)/\(j.length<=i->J.stop i H'):=λi F' l σ' H' s=>w.src 0 i F' l σ' H' (by simpa using s);refine⟨λi m u Hi=>∃G h,aL X.K F1 o σ Z G h u Hi/\m=j.length-i/\i<=j.length/\Cy is one (fJ c n ss) (jw c n ss) (j.drop i) h=ap (Y,B),⟨_,F1,o,.refl w.gs,rfl,xu,e2⟩,?_⟩;rintro i m u Hi⟨G,h,si,rfl,ae,f⟩;obtain⟨s1,s2⟩:=src i G h u Hi si;by_cases v:i<j.length
   . right;have hd:j[i]?=ap j[i]:=by simp[v]
     obtain⟨go,step⟩:=s1 _ hd;refine⟨go,λσ' H'=>∃m',m'<j.length-i/\∃G h,aL X.K F1 o σ Z G h σ' H'/\m'=j.length-(i+1)/\i+1<=j.length/\Cy is one (fJ c n ss) (jw c n ss) (j.drop (i+1)) h=ap (Y,B),λσ' H' z=>z,λx H' y=>?_⟩;obtain⟨F2,ext,rx⟩:=step x H' y;have I:=si.trans (ext.stp si.gs);rw[f_ v,Cy]at f;cases hbd:cO h is one j[i]with|none=>rw[hbd]at f;cases f|some t=>rw[hbd]at f;dsimp only at f;refine Q x _ F2 h t u H' _ I.gs rx hbd λaf sb=>?_;have N:=I.trans sb;cases Yo:jw c n ss t with|some y=>rw[Yo]at f;cases f;exact .inr ⟨F2,t,Y,B,N.gs,Yo,λO L H4 s4=>q O L H4 (w.fin _ _ _ _ (N.trans s4)).1⟩|none=>rw[Yo]at f;dsimp only at f;cases eb:fJ c n ss t with|stuck=>rw[eb]at f;cases f|exc _ _=>rw[eb]at f;cases f|ok M C=>rw[eb]at f;refine .inl ⟨F2,t,M,C,N.gs,eb,λO L H4 s4=>?_⟩;have Ym:=N.trans s4;cases M with|next=>exact⟨_,by lia,O,C,Ym,rfl,v,f⟩|cont=>exact⟨_,by lia,O,C,Ym,rfl,v,f⟩|brk=>cases f|ret r=>cases f
   . have ac:j.drop i=[]:=by rw[i_];lia
     rw[ac,Cy]at f;cases f
 .cases e
noncomputable def Bs(K:PySem.W.Frag)(cl:Nat->b_)(np:Nat)(f:List Sl->Res R):Sp:=λvs H _ E=>vs.length=np/\∃F args k g,GS K F args (vs.map ap) H/\f args=.exc k g/\∀F' σ' H' e,aL K F args (vs.map ap) H F' g σ' H'->E (.ref e) (ap (cl k)) H'
noncomputable def EW(cl:Nat->b_)(W:Nat->Hp->Prop):XK:=λ_ C H=>∃k,C=ap (cl k)/\W k H
structure di(Pg:c_)(w:eh)(K:PySem.W.Frag)(mg:Str->Option bd)(base:ef)(cl:Nat->b_)(k:Nat)(c:Call)(i:Nat)(x:Str)(np:Nat):Prop where ex:∃fa fd qs,iJ Pg w K mg base (o4 Pg w) k fa fd qs (Bs K cl qs.length (c i))/\mg x=ap (.ref fa)/\keepIn K (.ref fa)=bj/\Binds K fd qs []/\qs.length=np
theorem Eu{c:Call}:∀{ps:List P}{ρ f:List Sl}{as:List Arg},Bg c ps ρ=.ok as f->as.length=ps.length:=by intro ps;induction ps with|nil=>intro ρ f as h;rw[Dn]at h;cases h;rfl|cons q k j=>
   intro ρ f as h;rw[xN]at h;split at h;.obtain⟨_,_,_,h⟩:=aj h;obtain⟨xs,g,i,h⟩:=aj h;cases h;simp[j i]
   .obtain⟨_,_,_,h⟩:=aj h;obtain⟨xs,g,i,h⟩:=aj h;cases h;simp[j i]
theorem Rp{kk i o np:Nat}{y:Str}{p' h cpos:Pos}{es:List da}{ps:List P}(r:X.ex=[])(C:sG X (EW cl W))(G:di X.prog X.w X.K X.mg X.base cl kk c o y np)(hr:jo kk X.A)(I:X.N.Nodup)(hi:X.N[i]?=ap x)(J:Loc X.env.scope x)(L:SG X c (e::es) ps)(M:Gl X y:=by rfl)(O:(e::es).length=np:=by rfl)(t:(y==("__debug__":Str))=av:=by rfl)(he:cj (e::es) X.env=(av,eg e X.env)::cj es X.env:=by exact aZ rfl)(hpl:(fS cpos (cj es X.env)).any (·.1)=av:=by rfl)(u:ps.length=(e::es).length:=by rfl)(hs:eP (.Call (.Name y p') (e::es) [] cpos) (ap (.Name x h)) pos.line X.env=eL av:=by rfl)(Q:X.fn x=bj\/X.env.scope.names.lookup x=ap .local:=by first|(left;rfl)|(right;rfl)|assumption):Oz X c n W (.Assign [.Name x h] (.Call (.Name y p') (e::es) [] cpos) pos) (.asg i (.call o ps)):=by
 obtain⟨fa,fd,z,h1,U,Y,Z,h5⟩:=G.ex;have pe:=tZ (p:=p') (pos:=cpos) (E:=EW cl W) h1 hr M U Y Z .nil (Ss r C) L t he hpl;refine cU (jX I hi J pe hs Q) ?_;rintro D σ H⟨F,ρ,k,ac,g,f,q⟩;rw[xV]at f;unfold gY jV at f;dsimp only at f;split at f
 . rename_i xs v B;split at f
   . rename_i args l;split at f
     . rename_i k' j hc;cases f;refine⟨F,ρ,xs,v,g,B,λvs F1 H1 s1 A=>?_⟩;have m:vs.length=z.length:=by rw[<-A.len,Eu B,u,O,h5]
       show Bs X.K cl z.length (c o) (vs++[]) H1 _ (EW cl W);rw[hZ];refine⟨m,F1,args,k,j,args_gs s1.gs A l,hc,λF' σ' H' e2 s=>⟨k,rfl,?_⟩⟩;obtain⟨z1,_⟩:=uf s1 A l s;exact q F' σ H' z1
     .cases f
   .cases f
 .cases f
end
section
variable{Pg:c_}{w:eh}{K:PySem.W.Frag}{mg:Str->Option bd}{base:ef}
theorem jQ{qual:Str}{st:ek}{f:b_}{fd:gz}{N ps:List Str}{k n:Nat}{c:Call}{d:Fd}(r:gn K x qual st f fd)(S:aO N ps (aA st))(h1:d.np=ps.length)(l:d.nn=N.length)(t:∀(cdv:bd)(A:et)(outer:List Env)(s:bx)(H:Hp)(E:XK)(W:Nat->Hp->Prop),jo k (A.deeper (jO qual (aA st) s.heap.objs.size f cdv))->(∀k H,W k H->∀e,E (.ref e) (ap (cl k)) H)->O2 (jG (o4 Pg w) Pg w K mg base N qual (aA st) f cdv A outer s H E) c n W (fX st) d.body):iJ Pg w K mg base (o4 Pg w) (k+1) f fd ps (Bs K cl ps.length (λargs=>enter c n d args)):=by
 obtain⟨oc,od,kV,u,G,I,cdv,ct,v,rfl,lk,b⟩:=r.ex;refine TV lk b S (λvs H Q E h=>h.1) λA outer s H vs Q E hr h=>?_;obtain⟨o,F,args,p,a,g,e,q⟩:=h;refine⟨_,t cdv A outer s H E (λk H'=>∀e,E (.ref e) (ap (cl k)) H') hr (λk H' h=>h),?_⟩;replace e:enter c n d args=.exc p a:=e;unfold enter at e;split at e
 . rename_i hc;obtain⟨c1,c2⟩:=hc;have y:=g.more (n:=d.nn-d.np) (τ:=cp (N.length-vs.length) none) (by simp[h1,l,o]);have i:args.length=d.np:=c1;split at e;.cases e
   .cases e
   . split at e;.rename_i J j z;cases e;refine⟨F,_,p,j,y,z,λF' σ' H' s B=>?_⟩;obtain⟨C,_⟩:=aL.less (m:=d.np) i.symm g (by simp[h1,l,o]) s;exact q F' _ H' B C
     .cases e
 .cases e
end
section
variable{X:Cx}{c:Call}{n:Nat}
theorem iz{k:Nat}{st:ek}:SS X c n st (.vX k):=cU uO λD σ H⟨F,ρ,fl,ρ',g,e,q⟩=>by rw[_H.X20]at e;cases e
end
structure ud(K:PySem.W.Frag)(x:Str)(C:b_):Prop where nm:PySem.W.nsIn K cK x=ap (ap (.ref C))is:excIn K C [.type "ValueError",.type "Exception",.type "BaseException",.type "object"] "ValueError.__new__"=bj
section
variable{Pg:c_}{w:eh}{K:PySem.W.Frag}{mg:Str->Option bd}{base h:ef}
theorem nF{C:b_}(k:K.In h)(ns:h.Ns cK mg)(z:ud K x C):kT x C [.type "ValueError",.type "Exception",.type "BaseException",.type "object"] "ValueError.__new__" mg h:=by
 have y:=z.is;unfold excIn at y;split at y<;>try cases y
 rename_i d1 c1 s1 c;split at y<;>try cases y
 rename_i D1 m1 r s t u b1 v b a;simp only[fb,beq_iff_eq,kP]at y;obtain⟨⟨⟨⟨⟨A,B⟩,o⟩,E⟩,e⟩,p⟩:=y;subst A;subst B;cases c1 with|mk G f q g H i j l m n I=>cases s1 with|mk J=>simp only at b a o e p;subst b;subst o;subst a;exact⟨mg_of k ns z.nm,m1,g,G,H,f,i,j,l,m,n,d1,r,s,t,u,v,_,k _ _ c,.of_isNs (PySem.W.isNs_of_in k e),PySem.W.nsMap_none_of_in k e p,PySem.W.tail_of_in k E⟩
theorem j5{Γ:Tab}{wl i np:Nat}{st:ek}{ps:List Str}(X:K.In h)(G:h.Ns cK mg)(D:bG K x st)(j:ps.length=np)(k:∀(kV g l:bd)(m:Option b_)(cdv ct:bd)(c:List bd),c.length=ps.length->my (PySem.W.fnOf x x (jb st) (fX st) (aA st) .none kV g l m cdv ct) ⟨c,[]⟩=eL (ps.zip c)):di Pg w K mg base cl 0 (run Γ wl 0) i x np:=by obtain⟨f,fd,a,F⟩:=D.ex;exact⟨f,fd,ps,⟨λvs H Q E s=>s.1,λA outer s H args c vs Q E hr e b v sp=>by obtain⟨_,F,as,r,n,_,z,_⟩:=sp;cases z⟩,mg_of X G a,F.kp,F.binds k,j⟩
theorem j4{Γ:Tab}{wl n i np:Nat}{st:ek}{ps:List Str}{d:Fd}(X:K.In h)(G:h.Ns cK mg)(D:bG K x st)(j:ps.length=np)(b:Γ i=ap d)(k:∀(kV c l:bd)(m:Option b_)(cdv ct:bd)(g:List bd),g.length=ps.length->my (PySem.W.fnOf x x (jb st) (fX st) (aA st) .none kV c l m cdv ct) ⟨g,[]⟩=eL (ps.zip g))(ok:∀f fd,gn K x x st f fd->iJ Pg w K mg base (o4 Pg w) (n+1) f fd ps (Bs K cl np (λargs=>enter (run Γ wl n) wl d args))):di Pg w K mg base cl (n+1) (run Γ wl (n+1)) i x np:=by
 obtain⟨f,fd,a,F⟩:=D.ex;refine⟨f,fd,ps,?_,mg_of X G a,F.kp,F.binds k,j⟩;have e:run Γ wl (n+1) i=λargs=>enter (run Γ wl n) wl d args:=by funext args;show(match Γ i with|some d=>enter (run Γ wl n) wl d args|none=>.stuck)=_;rw[b]
 rw[e,j];exact ok f fd F
end
theorem De{K:PySem.W.Frag}{C:b_}(a:PySem.W.nsIn K cK x=ap (ap (.ref C)))(q:excIn K C [.type "ValueError",.type "Exception",.type "BaseException",.type "object"] "ValueError.__new__"=bj):∃C,ud K x C:=⟨C,a,q⟩
end _H
namespace _L
open PySem Spec PyProof.Rows
section
variable{prog:c_}{w:eh}{A:et}{E:bd->bx->Prop}{s:bx}{env:Env}
theorem HX{e C x:b_}{M n:Str}{k:List bd}{U:String}{mg:Str->Option bd}{t:da}{i:ek}{b:List ek}{pos:Pos}{l:List ExceptHandler}{Q:Flow->bx->Prop}(j:k.contains (.type "BaseException")=bj)(h:cH (cM prog w) (A.mark (ap (.ref e))) (eg t env) (λc a=>c=.ref x/\kT M x k U mg a.heap/\Under a.heap C x/\(∃ B,a.heap.get? e=ap B/\B.cls=.ref C)/\cH (cM prog w) (A.mark (ap (.ref e))) (lH (.ref e) none) (λ_ m=>cH (cM prog w) (A.mark (ap (.ref e))) (oz env n (.ref e)) (λ_ o=>cH (cM prog w) (A.mark (ap (.ref e))) (execs (i::b) env) (λf p=>cH (cM prog w) A (do mx env n .none;qb env n pos) (λ_ r=>Q f r) E p) (λ_ _=>False) o) (λ_ _=>False) m) (λ_ _=>False) a) (mr (cM prog w) (A.mark (ap (.ref e))) env (cameBackBy (cM prog w) A env E)) s):cH (cM prog w) A (handleBy (.ref e) env (.ExceptHandler (ap t) (ap n) (i::b) pos::l)) Q E s:=by refine wpAny_handleBy_cons (codeAny_handlers_test (dS h (λc a u=>?_) λ_ _ y=>y)) (by intro q;cases q);obtain⟨rfl,O,⟨nm,q,N,bs,bm,hdct,sn,sub,ab,col,dd,k0,k1,k2,k3,k5,G,W,H⟩,⟨B,he,v⟩,X⟩:=u;obtain⟨Y,N2,Z,q2,ac,ae,af,J,ag,L,ah,l0,l1,l2,l3,l5,mN,I,hN,hq,T⟩:=O.obj;obtain⟨hh,g,d,tk,os⟩:=a;exact vQ W I he v (T.hasType j) H (codeAny_handlers_suite_as (dS X (λ_ s2 h2=>dS h2 (λ_ s3 h3=>dS h3 (λf s4 h4=>h4) λ_ _ z=>z.elim) λ_ _ z=>z.elim) λ_ _ z=>z.elim))
end
noncomputable def fU(X:Cx)(e:b_)(a:Obj):Cx:={X with A:=X.A.mark (ap (.ref e)),calm:=av,pn:=X.pn++[(e,a)],xe:=λ_ _=>False}
structure OE(oe:Obj)(C:b_):Prop where
 cls:oe.cls=.ref C
 dict:oe.dict=none
 data:∃vs,oe.data=.fields vs
section
variable{X:Cx}{pins:List (b_×Obj)}{σ:St}{H:Hp}{s:bx}{e:b_}{oe:Obj}
theorem Jz:X.Ok->(fU X e oe).Ok:=λo=>⟨o.mod,o.kind,o.glob,o.blt,o.above,o.inj,o.has,o.cab,(λz=>by cases z),o.frames,o.T4,o.Z1,o.bs,o.IK,o.yP,o.Ba,o.oW,o.Om⟩
theorem Ia{C:b_}(I:Inv X pins σ H s)(h1:s.heap.get? e=ap oe)(b:OE oe C)(c:H e=none)(f:e≠X.env.locals)(g:e∉X.fs):Inv (fU X e oe) pins σ H s:=⟨Jz I.ok,I.os,I.bare,I.base,I.loc,I.cell,I.free,I.iQ,λp h=>by
  have a:p∈(X.pn++[(e,oe)])++pins:=h;rw[ia,eM,eM,dX]at a;rcases a with z|z|z;.exact I.pin p (fx _ z)
  .subst z;refine⟨h1,c,f,g,λv q=>?_⟩;obtain⟨vs,z⟩:=b.data;rw[show(e,oe).2.data=.fields vs from z]at q;cases q
  .exact I.pin p (eF _ z),I.hok,I.len⟩
theorem nC(o:X.Ok)(I:Inv (fU X e oe) pins σ H s):Inv X pins σ H s:=⟨o,I.os,I.bare,I.base,I.loc,I.cell,I.free,I.iQ,λp a=>I.pin p (by
  show p∈(X.pn++[(e,oe)])++pins;rcases eM.mp a with z|z;.exact fx _ (fx _ z)
  .exact eF _ z),I.hok,I.len⟩
theorem sr{M:nv}{A:et}{E:bd->bx->Prop}{i:Nat}{x:Str}{pos:Pos}{Q:Unit->bx->Prop}(I:Inv X pins σ H s)(L:X.N.Nodup)(hi:X.N[i]?=ap x)(O:X.env.kindOf x=ap .local)(h:∀C,Inv X pins (σ.set i none) H C->Q () C):cH M A (do mx X.env x .none;qb X.env x pos) Q E s:=by
 obtain⟨m,G,U⟩:=id I.loc;have g:(X.env.scope.kind==.class||(X.env.scope.kind==.module&&X.env.locals !=X.env.globals))=av:=by rw[I.ok.kind];rfl
 have Lx:=I.Lx;refine wpAny_nameGoes_keeps O G g λh' v t hs=>?_;obtain⟨oL,_,_,W,_⟩:=id G;have a:lO X.prog X.w H h':=λb Y e=>by
  refine(I.hok b Y e).stay (λc J hc q=>(hs.2 c ?_).trans q) (λ_ q=>q) λ_ _ q=>q;rintro rfl;rcases hc with rfl|hc;.rw[I.free]at e;cases e
  .rw[I.free]at hc;cases hc
 refine h _ (Inv.tok (s:={s with heap:=h'}) ⟨I.ok,I.os,I.bare,⟨λb o e n u l=>?_,λb o e n u l=>?_,I.base.free,λb o e l=>?_,I.base.tups,I.base.rY,I.base.vG⟩,⟨_,t,λj y Z f r e3=>?_⟩,λy c e=>?_,I.free,I.iQ,λp hp=>?_,a,by simpa using I.len⟩ _);.exact(hs.2 b (dP (dE (df e) I.ok.above))).trans (I.base.keep b o e n u l)
 .obtain⟨sl,f⟩:=I.base.slot b o e n u l;exact⟨sl,(hs.2 b (dP (dE (df e) I.ok.above))).trans f⟩
 .obtain⟨o',f⟩:=I.base.there b o e l;exact⟨o',(hs.2 b (dP (dE (df e) I.ok.above))).trans f⟩
 . by_cases B:j=i;.subst B;rw[mu]at r;simp at r
   . rw[gM B]at r;obtain⟨u',r',q⟩:=U j y Z f r e3;refine⟨u',r',?_⟩;rcases q with⟨k,e⟩|⟨k,c,e,z⟩;.refine .inl ⟨k,?_⟩;have:y≠x:=λe=>B (uL L f (e▸hi));simp[this,e]
     .exact .inr ⟨k,c,e,z.sameBut hs (Lx y c e)⟩
 .obtain⟨J,z⟩:=I.cell y c e;exact⟨J,z.sameBut hs (Lx y c e)⟩
 .obtain⟨e,n,ne,nf,d⟩:=I.pin p hp;exact⟨(hs.2 p.1 ne).trans e,n,ne,nf,d⟩
noncomputable def Xj(i:Nat)(D:Ends):Ends:=⟨λσ H=>D.nx (σ.set i none) H,D.rt,λσ H=>D.bk (σ.set i none) H,λσ H=>D.ct (σ.set i none) H⟩
theorem OD{x y:Str}{i:Nat}{C:b_}{bm:List bd}{t:String}{E:XK}{body h:List ek}{b0:ek}{np m pos:Pos}{tb:TS}{th:b_->b_->TS}(hg:Gl X x)(O:kT x C bm t X.mg X.base)(B:bm.contains (.type "BaseException")=bj)(G:X.ex=[])(L:X.stack=X.env::X.outer/\X.env.frame=ap X.env.locals)(Y:X.N.Nodup)(hi:X.N[i]?=ap y)(W:X.env.kindOf y=ap .local)(hb:∀pins r,gy (cM X.prog X.w) X.A X.env r->sG (rK X pins r) E->qp (rK X pins r) body tb)(hh:∀e oe k,OE oe k->qp (fU X e oe) (b0::h) (th k e))(hd:(x==("__debug__":Str))=av:=by decide):PS X (.Try body [.ExceptHandler (ap (.Name x np)) (ap y) (b0::h) m] [] [] pos) (λD σ H=>tb D σ H/\∀(σ':St)(e k:b_)(H':Hp),σ'.length=X.N.length->E (.ref e) (ap k) H'->Under X.base k C/\th k e (Xj i D) (σ'.set i (ap (.ref e))) H'):=by
 rintro pins s σ H D I⟨h1,h2⟩;refine wpAny_Try_except ?_;generalize Z:(λ(e:bd)(ac:bx)=>cH (cM X.prog X.w) X.A (mW e X.env) (λ_ ae=>cH (cM X.prog X.w) X.A (lH e none) (λ_ af=>cH (cM X.prog X.w) X.A (handleBy e X.env [.ExceptHandler (ap (.Name x np)) (ap y) (b0::h) m]) (SP X pins D) X.xe af) X.xe ae) X.xe ac)=r;have hp:gy (cM X.prog X.w) X.A X.env r:=by rw[<-Z];exact PassesOwn.looking
 have hX:sG (rK X pins r) E:=by
  intro Bb σ' H' j k e I' fl ai q;obtain⟨un,ht⟩:=h2 σ' e k H' I'.len q;obtain⟨ag,hx,M⟩:=fl.ex;have J:Inv X pins σ' H' j:=o7 I';show r (.ref e) j;rw[<-Z];show cH (cM X.prog X.w) X.A (mW (.ref e) X.env) _ X.xe j;refine wO (base:=X.base) (env:=X.env) (outer:=X.outer) (by rw[J.ok.frames,L.1]) (by rw[<-L.1];exact J.stack) L.2 hx (M.imp id λ⟨T,a,b,c,_⟩=>⟨T,a,b,c⟩) λh' l n1 n2 b x' t'=>?_;have b':qW (frs X.stack) (e::Q7 ag) j.heap h':=by rw[L.1];exact b
  obtain⟨u,ok,al⟩:=wW (X:=X) (outer:=X.outer) J G L fl hx M n1 n2 b' x' t';have nT:∀T,ag=.ref T->Oe j.heap T .none:=λT z=>by
   rcases M with y|⟨T2,y,_,q,_⟩;.rw[y]at z;cases z
   .rw[y]at z;cases z;exact q
  have g:Inv X pins σ' H' {j with heap:=h'}:=J.but b' (by rw[G];exact u) ok (λz=>by
   rcases de.mp z with z|z;.exact(hx.nl J).1 z
   .exact((nT _ (xZ z)).nl J).1 rfl) (λy c hc z=>by
   rcases de.mp z with z|z;.exact(hx.nl J).2 y c hc z
   .exact((nT _ (xZ z)).nl J).2 y c hc rfl) (λp hp z=>by
   have o:=ai p hp;rcases de.mp z with z|z;.exact o.1 z
   .exact o.2 _ _ hx (xZ z));have I3:Inv (FQ X e) pins σ' H' {j with heap:=h'}:=Lq g;obtain⟨oe,vs,q1,q2,q3,q4,q5⟩:=id x';obtain⟨oT,ts,z1,z2,z3⟩:=id t';refine HX B (sJ (X:=FQ X e) I3 hg O.bound ⟨rfl,O.keeps g.bk,un.keeps g.bk,⟨oe,q1,q2⟩,?_⟩ hd);unfold lH;refine a_ (eK q1 q3 q4 ?_);rw[if_pos (show(dq l !=dD)=bj from by simp)];refine ix z1 z2 (fE.mp z3).1 ?_;have am:H' l=none:=J.hok.fresh n1;have ah:j.heap.get? l=none:=i9 n1;have b2:qW (frs X.stack) [l] h' (h'.update l (fi (·.setIfInBounds 3 ((none:Option b_).elim dD λf=>hQ f)))):=qW.set _ _ _;have Q:∀c o,X.s₀.heap.get? c=ap o->c≠l:=λc o z y=>by obtain⟨o',w⟩:=J.base.there c o z (by rw[G];simp);rw[y,ah]at w;cases w
  have I4:Inv X pins σ' H' {j with heap:=h'.update l (fi (·.setIfInBounds 3 ((none:Option b_).elim dD λf=>hQ f)))}:=g.but b2 ⟨λc o q n nf ne=>by rw[dN _ _ (fk (Q c o q))];exact g.base.keep c o q n nf ne,λc o q n hf ne=>by rw[dN _ _ (fk (Q c o q))];exact g.base.slot c o q n hf ne,g.base.free,λc o q ne=>by rw[dN _ _ (fk (Q c o q))];exact g.base.there c o q ne,g.base.tups,g.base.rY,g.base.vG⟩ (b2.hok g.hok g.tE λc hc=>by rw[dX.mp hc];exact am) (λz=>(t'.nl g).1 (dX.mp z)) (λy c hc z=>(t'.nl g).2 y c hc (dX.mp z)) (λp hp z=>by have w:=(J.pin p hp).1;rw[dX.mp z,ah]at w;cases w);have hO:OE oe k:=⟨q2,q5,vs,q3⟩;have ar:e∉frs X.stack:=nR.Q8 (s:={j with heap:=h'}) x' g.stack;have I5:Inv (fU X e oe) pins σ' H' {j with heap:=h'.update l (fi (·.setIfInBounds 3 ((none:Option b_).elim dD λf=>hQ f)))}:=Ia I4 (by show(h'.update l _).get? e=_;rw[dN _ _ n2];exact q1) hO al.free (fk (nR.nl (X:=X) g x').1) (λz=>ar (by rw[L.1];simp only[frs,hY,L.2];exact dL _ z));refine kZ (X:=fU X e oe) I5 Y hi (.inl W) (v:=.ref e) rfl (λs6 I6=>?_) (.inr W);refine cN (hh e oe k hO pins s6 _ H' (Xj i D) I6 ht) λf s7 y=>?_;cases f with|next=>obtain⟨a,b,c,d⟩:=y;exact sr (nC J.ok c) Y hi W λs8 U=>⟨_,b,U,d⟩|brk=>obtain⟨a,b,c,d⟩:=y;exact sr (nC J.ok c) Y hi W λs8 U=>⟨_,b,U,d⟩|cont=>obtain⟨a,b,c,d⟩:=y;exact sr (nC J.ok c) Y hi W λs8 U=>⟨_,b,U,d⟩|ret u=>obtain⟨a,b,c,d,y⟩:=y;exact sr (nC J.ok d) Y hi W λs8 U=>⟨a,_,c,U,y⟩
 have w:=hb pins r hp hX [] s σ H D (PJ I) h1;refine dS w (λf s5 y=>?_) λe s5 y=>?_;.cases f with|next=>obtain⟨a,b,c,d⟩:=y;show cH (cM X.prog X.w) X.A (execs [] X.env) _ _ s5;exact i8 ⟨a,b,o7 c,d⟩|brk=>obtain⟨a,b,c,d⟩:=y;exact⟨a,b,o7 c,d⟩|cont=>obtain⟨a,b,c,d⟩:=y;exact⟨a,b,o7 c,d⟩|ret u=>obtain⟨a,b,c,d,y⟩:=y;exact⟨a,b,c,o7 d,y⟩
 .exact y
end
structure Ln(K:PySem.W.Frag)(D:b_):Prop where
 g:findIn K (.ref D) "__getattribute__"=ap (ap (.builtin "BaseException.__getattribute__"))h:findIn K (.ref D) "__getattr__"=ap none
 b:mroIn K D (.type "BaseException")=ap bj
 c:(clsIn K D).isSome=bj
 a:findIn K (.ref D) "__class__"=ap (ap (.builtin "object.__class__"))n:specialIn K (.builtin "object.__class__") "__get__"=ap (ap (.builtin "getset_descriptor.__get__"))t:takesIn K (.builtin "object.__class__")=ap bj
 m:mroIn K D (.type "object")=ap bj
theorem Hx{K:PySem.W.Frag}{x D:b_}{ox:Obj}{prog:c_}{w:eh}{A:et}{E:bd->bx->Prop}{s:bx}{Q:Option bd->bx->Prop}(Z:Ln K D)(X:K.In s.heap)(I:PySem.W.InstAt s.heap x ox D none)(h:Q (ap (.ref D)) {s with toks:=s.toks+1}):cH (cM prog w) A (getAttr? (.ref x) "__class__") Q E s:=by
 obtain⟨u,hc⟩:=fV.mp Z.c;have p:findObj K D none "__class__"=ap (.bind (.builtin "getset_descriptor.__get__") (.builtin "object.__class__")):=by unfold findObj;rw[hc,bind_some,Z.a,bind_some];simp[Z.n,Z.t]
 obtain⟨j,g,d,t,os⟩:=s;have f:=I.type (M:=cM prog w);have q:=PySem.W.looks_findIn (M:=cM prog w) X Z.g;have L2:=PySem.W.looks_findIn (M:=cM prog w) X Z.h;have k:=PySem.W.looks_find (M:=cM prog w) X I p;have l:=PySem.W.looks_mroIn (M:=cM prog w) X Z.b;have i:(Value.builtin "BaseException.__getattribute__"==Value.builtin "object.__getattribute__")=av:=by decide+kernel
 have f3:=F.excAttr_ValueError.ga.bind (.ref x);unfold getAttr? getAttrBy? getAttrBy;refine a_ (wpAny_mkText (a_ (kn (fI (a_ (f.at (a_ (q.at ?_))))))));simp only[i,kM,gc,if_false];unfold getAttrByItsOwn hookBefore;simp only[onTheHeap,if_true];refine a_ (L2.at (a_ (kn (fI ?_))));unfold callGetattribute;simp only[kL,gc,if_false];unfold boundAndCalled;refine a_ (wpAny_of_eq f3 ?_);refine wpAny_call (codeAny_call_builtin F.excAttr_ValueError.ga.plain F.entry_bexc_ga ?_);have r:builtinKind "BaseException.__getattribute__"=ap .slot:=by decide+kernel
 have e:splitId "BaseException.__getattribute__"=ap ("BaseException","__getattribute__"):=by decide+kernel
 have y:=F.args_bexc_ga (.ref x) (.str "__class__" t);simp only[checkBuiltinCall,r,e];refine a_ ?_;unfold isInstance;repeat(first|with_reducible refine a_ (f.at ?_)|with_reducible refine a_ (l.at ?_)|with_reducible refine l.at ?_|with_reducible refine f.at ?_|with_reducible refine a_ (k.at ?_)|with_reducible refine k.at ?_|wp_step)
 refine PySem.W.class_get (s:=⟨j,g,d,t+1,os⟩) (ox:=ox) (od:=none) X I Z.m ?_;refine cv ?_;first
  |exact handed_on rfl (cv h)|(refine dS (handed_on (Q:=λv o=>v=.ref D/\o=⟨j,g,d,t+1,os⟩) rfl ⟨rfl,rfl⟩) (λv o z=>?_) (λ_ _ z=>z);obtain⟨rfl,rfl⟩:=z;exact cv h)
  | (repeat(first|wp_step)
     exact h)
theorem JK{K:PySem.W.Frag}{x D:b_}{ox:Obj}(Z:Ln K D):KitX K (.ref x) (.ref D) (λh=>PySem.W.InstAt h x ox D none)where
 ty:=λ_ _ _ I=>I.type;it:=λ_ _ X _=>by
  obtain⟨b,a⟩:=fV.mp Z.c;unfold clsIn at a;split at a;.rename_i j d' f g ho;intro m o p r k q;unfold isType loadHead;exact a_ (wpAny_loadPart (k _ _ (X _ _ ho)) (cv q))
  .cases a
 ne:=λh tp dd l n sl X i=>by
  obtain⟨b,a⟩:=fV.mp Z.c;refine Bool.eq_false_iff.mpr λq=>?_;have e:D=tp:=Value.ref.inj (beq_iff_eq.mp q);subst e;unfold clsIn at a;split at a;.rename_i j d' f g ho;have z:=(X _ _ ho).symm.trans i;cases z
  .cases a
 ca:=λ{prog w A E Q s}X I h=>Hx Z X I h
section
variable{X:Cx}{e C:b_}{oe:Obj}
theorem Xr{a:List (b_×Obj)}{σ:St}{H:Hp}{s:bx}(b:OE oe C)(I:Inv (fU X e oe) a σ H s):PySem.W.InstAt s.heap e oe C none:=by
 have h:=(I.pin (e,oe) (fx _ (eF _ (dX.mpr rfl)))).1;refine⟨h,b.cls,?_,?_⟩;.obtain⟨vs,z⟩:=b.data;unfold PySem.W.notCls;rw[z]
 .rw[b.dict];trivial
theorem abG{c:V}{a:bd}{b:Bool}(g:OE oe C)(Z:Ln X.K C)(hc:∀u,RelV c u->u=a)(h:kitOne X.K (.ref C) a=ap b):eX (fU X e oe) (.builtin "isinstance") (λxs H Q=>xs=[.ref e,c]/\Q (.bl b) H):=by rintro f s σ H xs l Q I r⟨i,q⟩;subst i;obtain⟨u,m,rfl,j,rt⟩:=r.two;cases(show u=dq e from j);cases hc _ rt;exact kia_one (JK Z) I.Pz (Xr g I) h nofun λk=>⟨.bl _,H,I.tok k,rfl,q⟩
end
end _L
namespace _H
open PySem _L Spec PyProof.Rows
variable{y:Str}
section
variable{K:PySem.W.Frag}{F H F1 H1:Hp}{ρ ρ1:List Sl}{σ σ1:_L.St}
theorem Q5{s:Sl}(h:unl s=bj):u9 s=av:=by cases s<;>simp_all[unl,u9]
theorem aL.clear(s:aL K F ρ σ H F1 ρ1 σ1 H1)(h:ρ.all unl=bj){σ':_L.St}(e:σ'.length=ρ.length):aL K F ρ σ H F1 (cp ρ.length .aW) σ' H1:=by
 have un:∀{i:Nat}{x:Sl},(cp ρ.length Sl.aW)[i]?=ap x->x=.aW:=λ{i x}q=>by
  rw[ih]at q;split at q;.cases q;rfl
  .cases q
 refine⟨⟨s.gs.sub,by simp[e],λi b d q=>(by cases un q),λi x c q z=>(by cases un q;cases z),λi j a⟨⟨x,c,q,z⟩,_⟩_=>(by cases un q;cases z)⟩,s.cG,s.yR,s.keep,λb⟨i,⟨x,c,q,z⟩,_⟩=>(by cases un q;cases z),by simp,λi x q l=>?_⟩;have:=Q5 (fg.mp h x (du q));rw[this]at l;cases l
theorem aL.forget(s:aL K F ρ σ H F1 ρ1 σ1 H1){i:Nat}(h:ρ1[i]?=ap .aW):aL K F ρ σ H F1 ρ1 (σ1.set i none) H1:=by
 have c:∀{j:Nat}{x:Sl},ρ1[j]?=ap x->x≠.aW->(σ1.set i none)[j]?=σ1[j]?:=λ{j x}q n=>by
  have:i≠j:=by rintro rfl;rw[h]at q;cases q;exact n rfl
  rw[eB this]
 have own:∀{j:Nat}{a:b_},bB ρ1 (σ1.set i none) j a->bB ρ1 σ1 j a:=λ{j a}⟨⟨x,g,q,z⟩,y⟩=>⟨⟨x,g,q,z⟩,by rwa[c q (by rintro rfl;cases z)]at y⟩;refine⟨⟨s.gs.sub,by simp[s.gs.len],λj b d q=>?_,λj x g q z=>?_,λj k a x y=>s.gs.dis j k a (own x) (own y)⟩,s.cG,s.yR,s.keep,λb⟨j,x⟩=>s.yS b ⟨j,own x⟩,s.len,λj x q l=>?_⟩;.obtain⟨v,f,e⟩:=s.gs.val j b d q;exact⟨v,by rw[c q (by intro z;cases z)];exact f,e⟩
 .obtain⟨a,xs,f,e⟩:=s.gs.own j x g q z;exact⟨a,xs,by rw[c q (by rintro rfl;cases z)];exact f,e⟩
 .obtain⟨f,o,e,m⟩:=s.lk j x q l;exact⟨by rw[c e (by rintro rfl;have:=m.u9 l;cases this)];exact f,o,e,m⟩
end
noncomputable def Gd(i:Nat)(e:b_)(σ:_L.St):Prop:=σ[i]?=ap (ap (V.ref e))
noncomputable def GB(X:Cx)(i:Nat)(e:b_)(x:da)(b:Bool):Prop:=PE X x (λσ H Q=>Gd i e σ/\∀H',aJ H H'->Q (.bl b) H')
noncomputable def GT(X:Cx)(i:Nat)(e:b_)(x:da)(b:Bool):Prop:=PT X x (λσ H Q=>Gd i e σ/\∀H',aJ H H'->Q b H')
noncomputable def GA(X:Cx)(i:Nat)(e:b_)(xs:List da)(bs:List Bool):Prop:=PA X xs (λσ H Q=>Gd i e σ/\∀H',aJ H H'->Q (bs.map V.bl) H')
section
variable{X:Cx}{i:Nat}{e C:b_}{oe:Obj}{pos:Pos}
theorem jU{x:Str}{p' p1:Pos}{a:da}{j:V}{k:bd}{b:Bool}(l:OE oe C)(Z:Ln X.K C)(m:x="isinstance")(n:Gl X x)(o:X.mg x=none)(p:X.N[i]?=ap y)(r:vR X.env.scope y)(c:PE (fU X e oe) a (tC j))(hc:∀u,RelV j u->u=k)(s:kitOne X.K (.ref C) k=ap b)(hs:cj [.Name y p1,a] (fU X e oe).env=(av,eg (.Name y p1) (fU X e oe).env)::cj [a] (fU X e oe).env:=by exact aZ rfl)(f:cj [a] (fU X e oe).env=(av,eg a (fU X e oe).env)::cj [] (fU X e oe).env:=by exact aZ rfl)(hpl:(fS pos (cj [a] (fU X e oe).env)).any (·.1)=av:=by rfl)(hd:(y==("__debug__":Str))=av:=by rfl)(h:(y==("__classdict__":Str))=av:=by rfl):GB (fU X e oe) i e (.Call (.Name x p') [.Name y p1,a] [] pos) b:=by subst m;refine dh (eY (X:=fU X e oe) (abG l Z hc s) n o um (bD (gb (X:=fU X e oe) p r hd h) (bD c dC f) hs) (he:=hs) (hpl:=hpl)) ?_;rintro σ H Q⟨g,q⟩;exact⟨_,g,rfl,q H (aJ.refl _)⟩
variable{x:da}{b:Bool}
theorem Je(h:GB X i e x b)(he:∀a,isTrue x X.env a=(do let v<-a;pp x.pos;jp [v] (truthy v)):=by intro _;rfl):GT X i e x b:=by intro c s σ H Q I q;exact JB h he c s σ H Q I ⟨q.1,λH' f=>⟨b,rfl,q.2 H' f⟩⟩
theorem Jx:GA X i e [] []:=lU dC λ_ H _ h=>h.2 H (aJ.refl _)
theorem jM{xs:List da}{bs:List Bool}(h:GB X i e x b)(a:GA X i e xs bs)(hs:cj (x::xs) X.env=(av,eg x X.env)::cj xs X.env:=by exact aZ rfl):GA X i e (x::xs) (b::bs):=lU (bD h a hs) λσ H Q q=>⟨q.1,λf s1=>⟨q.1,λc s2=>q.2 c (s1.trans s2)⟩⟩
end
noncomputable def tN(K:PySem.W.Frag)(f:List Sl->Res Fl):TS:=λD σ H=>∃F ρ a,GS K F ρ σ H/\f ρ=.ok .next a/\∀F' σ' H',aL K F ρ σ H F' a σ' H'->D.nx σ' H'
noncomputable def HB(X:Cx)(c:Call)(n i:Nat)(e:b_)(st:List ek)(ss:List S):Prop:=qp X st (λD σ H=>Gd i e σ/\tN X.K (fJ c n ss) D σ H)
theorem FN{c:Call}{n:Nat}{s:S}{ρ a:List Sl}{b:Fl}(h:fJ c n [s] ρ=.ok b a):ex c n s ρ=.ok b a:=by rw[fJ]at h;cases hx:ex c n s ρ with|ok b e=>rw[hx]at h;cases b<;>simp[Res.bind,fJ]at h<;>simp[h]|exc _ _=>rw[hx]at h;cases h|stuck=>rw[hx]at h;cases h
section
variable{X:Cx}{c:Call}{n i:Nat}{e C:b_}{oe:Obj}{pos:Pos}
theorem Kl{K:PySem.W.Frag}{F:Hp}:∀bs:List Bool,aN K F (bs.map V.bl) (bs.map D.bl)|[]=>.nil|b::bs=>.cons (show Rep K F (.bl b) (.bl b)from gW _) (Kl bs)
noncomputable def HS(X:Cx)(c:Call)(n:Nat)(cl:Nat->b_)(kk i:Nat)(st:List ek)(k:Nat)(a:List S):Prop:=a=[.bad]\/(Under X.base (cl k) (cl kk)/\∀e oe,OE oe (cl k)->HB (fU X e oe) c n i e st a)
noncomputable def HSs(X:Cx)(c:Call)(n:Nat)(cl:Nat->b_)(kk i:Nat)(st:List ek)(k0:Nat)(l:List (List S)):Prop:=∀j a,l[j]?=ap a->HS X c n cl kk i st (k0+j) a
variable{cl:Nat->b_}{kk:Nat}{st:List ek}
theorem Q9{k0:Nat}:HSs X c n cl kk i st k0 []:=λj a h=>by simp at h
theorem kj{k0:Nat}{a:List S}{l:List (List S)}(h:HS X c n cl kk i st k0 a)(b:HSs X c n cl kk i st (k0+1) l):HSs X c n cl kk i st k0 (a::l):=λj f q=>by cases j with|zero=>cases q;exact h|succ j=>have:=b j f (by simpa using q);rwa[show k0+(j+1)=k0+1+j by lia]
theorem Gk:∀{hs:List (List S)}{k:Nat}{ρ b:List Sl}{g:Fl},Qu c n hs k ρ=.ok g b->∃f,hs[k]?=ap f/\fJ c n f ρ=.ok g b|[],_,_,_,_,h=>by rw[Qu]at h;cases h|a::_,0,_,_,_,h=>by rw[Qu]at h;exact⟨a,rfl,h⟩|_::r,k+1,_,_,_,h=>by rw[Qu]at h;obtain⟨f,h1,j⟩:=Gk h;exact⟨f,by simpa using h1,j⟩
theorem pZ{x:Str}{C g:b_}{bm:List bd}{f:String}{mg:Str->Option bd}{h:ef}{K:PySem.W.Frag}(vp:K.In h)(O:kT x C bm f mg h)(m:mroIn K C (.ref g)=ap bj):Under h C g:=by
 obtain⟨bm,N,nm,q,bs,hdct,sn,sub,ab,col,dd,k0,k1,k2,k3,k5,mN,j,_⟩:=O.obj;refine⟨nm,q,N,bs,bm,hdct,sn,sub,ab,col,dd,k0,k1,k2,k3,k5,_,j,?_⟩;unfold mroIn at m;obtain⟨o,a,b⟩:=m5.mp m;unfold clsIn at a;split at a
 . rename_i p d' k l ho;cases a;have z:=(vp _ _ ho).symm.trans j;cases z;split at b;.cases b
   .exact ey b
 .cases a
variable{body:List ek}{ss:List S}
theorem QT{x:Str}{bm:List bd}{m:String}{np r:Pos}{b0:ek}{f:List ek}{hs:List (List S)}(hg:Gl X x)(O:kT x (cl kk) bm m X.mg X.base)(o:bm.contains (.type "BaseException")=bj)(M:X.ex=[])(rZ:X.stack=X.env::X.outer/\X.env.frame=ap X.env.locals)(hN:X.N.Nodup)(hi:X.N[i]?=ap y)(hk:X.env.kindOf y=ap .local)(hb:∀a h,gy (cM X.prog X.w) X.A X.env h->SB (rK X a h) c n body ss)(Q:∀a h W,gy (cM X.prog X.w) X.A X.env h->sG (rK X a h) (EW cl W)->O2 (rK X a h) c n W body ss)(hh:HSs X c n cl kk i (b0::f) 0 hs)(hd:(x==("__debug__":Str))=av:=by rfl):SS X c n (.Try body [.ExceptHandler (ap (.Name x np)) (ap y) (b0::f) r] [] [] pos) (.RL ss i hs):=by
 rintro a s σ H D I⟨F,ρ,fl,t,g,e,q⟩;have U:i<X.N.length:=(gh hi).1;generalize hW:(λ(k:Nat)(H':Hp)=>∃b,hs[k]?=ap b/\b≠[.bad]/\∀(σ':_L.St)(e:b_),σ'.length=ρ.length->tN X.K (fJ c n b) (Xj i D) (σ'.set i (ap (V.ref e))) H')=W;have Y:∀a h,gy (cM X.prog X.w) X.A X.env h->sG (rK X a h) (EW cl W)->qp (rK X a h) body (λl σ H=>tEx X.K (fJ c n ss) l σ H\/tX X.K W (jw c n ss) l σ H):=λa h hp hX=>by have z1:=hb a h hp;have G:=Q a h _ hp hX;unfold SB at z1;unfold O2 at G;exact Ma z1 G
 have Z:∀e oe p,OE oe p->qp (fU X e oe) (b0::f) (λl σ H=>∃k b,p=cl k/\hs[k]?=ap b/\b≠[.bad]/\Gd i e σ/\tN X.K (fJ c n b) l σ H):=by
  rintro e oe p hO a s σ H l I'⟨k,b,hC,h1,j,h3,h4⟩;subst hC;have:=hh k b h1;rw[nK]at this;rcases this with z|⟨_,z⟩;.exact absurd z j
  .exact z e oe hO a s σ H l I' ⟨h3,h4⟩
 refine OD (E:=EW cl W) (th:=λp e l σ H=>∃k b,p=cl k/\hs[k]?=ap b/\b≠[.bad]/\Gd i e σ/\tN X.K (fJ c n b) l σ H) hg O o M rZ hN hi hk Y Z hd a s σ H D I ⟨?_,λσ' e' p H' J⟨k,hC,hk'⟩=>?_⟩
 . rw[ex]at e;split at e;.rename_i ac u z;cases e;exact .inl ⟨F,ρ,fl,t,g,z,q⟩
   . split at e
     . rename_i k u z;split at e
       . rename_i L;split at e
         . rename_i ae G;split at e
           . rename_i z3;cases e;refine .inr ⟨F,ρ,k,u,g,z,λF' af H' st=>?_⟩;rw[<-hW];obtain⟨b,h1,j⟩:=Gk G;refine⟨b,h1,λv=>?_,λσ' e' J=>?_⟩;.subst v;replace j:=FN j;rw[ex]at j;cases j
             .have c1:=st.clear L (σ':=σ'.set i (ap (V.ref e'))) (by simpa using J);exact⟨F',_,t,c1.gs,j,λF2 ag H2 s2=>q F2 _ H2 ((c1.trans s2).forget z3)⟩
           .cases e
         .cases e
       .cases e
     .cases e
 . cases hC;rw[<-hW]at hk';obtain⟨b,h1,j,h3⟩:=hk';have L:=hh k b h1;rw[nK]at L;have B:σ'.length=ρ.length:=by rw[J,<-I.len,g.len]
   refine⟨L.elim (λz=>absurd z j) λz=>z.1,k,b,rfl,h1,j,?_,h3 σ' e' B⟩;exact ce (by rw[J];exact U)
end
section
variable{X:Cx}{c:Call}{n:Nat}{W:Nat->Hp->Prop}{e:da}{pos:Pos}
theorem zJ{cl:Nat->b_}{kk j np:Nat}{p' cpos:Pos}{es:List da}{ps:List P}(l:X.ex=[])(v:sG X (EW cl W))(x:di X.prog X.w X.K X.mg X.base cl kk c j y np)(hr:jo kk X.A)(z:SG X c (e::es) ps)(B:Gl X y:=by rfl)(C:(e::es).length=np:=by rfl)(m:(y==("__debug__":Str))=av:=by rfl)(he:cj (e::es) X.env=(av,eg e X.env)::cj es X.env:=by exact aZ rfl)(hpl:(fS cpos (cj es X.env)).any (·.1)=av:=by rfl)(o:ps.length=(e::es).length:=by rfl):∃te:TE,PE X (.Call (.Name y p') (e::es) [] cpos) te/\∀σ H Q,(∃F ρ k b,GS X.K F ρ σ H/\gY c (.call j ps) ρ=ap (k,b)/\∀F' σ' H',aL X.K F ρ σ H F' b σ' H'->W k H')->te σ H Q:=by
 obtain⟨U,fd,t,h1,G,I,J,L⟩:=x.ex;have M:=tZ (p:=p') (pos:=cpos) (E:=EW cl W) h1 hr B G I J .nil (Ss l v) z m he hpl;refine⟨_,M,?_⟩;rintro σ H Q⟨F,ρ,k,b,g,a,q⟩;unfold gY jV at a;dsimp only at a;split at a
 . rename_i xs r u;split at a
   . rename_i args h;split at a
     . rename_i Y f hc;cases a;refine⟨F,ρ,xs,r,g,u,λvs F1 N s1 A=>?_⟩;have i:vs.length=t.length:=by rw[<-A.len,Eu u,o,C,L]
       show Bs X.K cl t.length (c j) (vs++[]) N _ (EW cl W);rw[hZ];refine⟨i,F1,args,k,f,args_gs s1.gs A h,hc,λF' σ' H' Z s=>⟨k,rfl,?_⟩⟩;obtain⟨O,_⟩:=uf s1 A h s;exact q F' σ H' O
     .cases a
   .cases a
 .cases a
theorem kO{cl:Nat->b_}{kk h np:Nat}{p' cpos:Pos}{es:List da}{ps:List P}(a:X.ex=[])(i:sG X (EW cl W))(j:di X.prog X.w X.K X.mg X.base cl kk c h y np)(hr:jo kk X.A)(l:SG X c (e::es) ps)(m:Gl X y:=by rfl)(o:(e::es).length=np:=by rfl)(b:(y==("__debug__":Str))=av:=by rfl)(he:cj (e::es) X.env=(av,eg e X.env)::cj es X.env:=by exact aZ rfl)(hpl:(fS cpos (cj es X.env)).any (·.1)=av:=by rfl)(f:ps.length=(e::es).length:=by rfl)(hs:eP (.Call (.Name y p') (e::es) [] cpos) none pos.line X.env=eL av:=by rfl):Oz X c n W (.Expr (.Call (.Name y p') (e::es) [] cpos) pos) (.expr (.call h ps)):=by obtain⟨te,h1,p⟩:=zJ (p':=p') (cpos:=cpos) a i j hr l m o b he hpl f;exact cU (tG h1 hs) λD σ H⟨F,ρ,k,ρ',g,e0,q⟩=>p σ H _ ⟨F,ρ,k,ρ',g,(by rw[xV]at e0;exact e0),q⟩
end
end _H
namespace _H
open PySem _L Spec PyProof.Rows
theorem jL{C:b_}:∀u,RelV (V.ref C) u->u=dq C:=λ_ r=>r
theorem Ju{n:String}:∀u,RelV (V.ty n) u->u=eZ n:=λ_ r=>r
theorem lr{X:Cx}{E:XK}{cl:Nat->b_}{W:Nat->Hp->Prop}(h:sG X E)(b:∀k H,W k H->∀e,E (.ref e) (ap (cl k)) H):sG X (EW cl W):=λa σ H s C e I f o⟨k,hC,hw⟩=>h a σ H s C e I f o (by cases hC;exact b k H hw e)
section
variable{K:PySem.W.Frag}{x y:Str}{C C2:b_}{b:Bool}{T:String}
noncomputable def gG(K:PySem.W.Frag)(x:Str)(C:b_):Prop:=PySem.W.nsIn K cK x=ap (ap (.ref C))
theorem gG.uniq(h:gG K x C)(a:gG K x C2):C=C2:=by have:=h.symm.trans a;cases this;rfl
theorem Ky(a:PySem.W.nsIn K cK x=ap (ap (.ref C))):∃C,gG K x C:=⟨C,a⟩
theorem Hb(h:∃C,ud K x C)(n:gG K x C):ud K x C:=by obtain⟨a,z⟩:=h;have e:a=C:=gG.uniq z.nm n;subst e;exact z
theorem abI(a:PySem.W.nsIn K cK x=ap (ap (.ref C)))(g:findIn K (.ref C) "__getattribute__"=ap (ap (.builtin "BaseException.__getattribute__")))(h:findIn K (.ref C) "__getattr__"=ap none)(c:mroIn K C (.type "BaseException")=ap bj)(f:findIn K (.ref C) "__class__"=ap (ap (.builtin "object.__class__")))(n:specialIn K (.builtin "object.__class__") "__get__"=ap (ap (.builtin "getset_descriptor.__get__")))(t:takesIn K (.builtin "object.__class__")=ap bj)(m:mroIn K C (.type "object")=ap bj):∃C,gG K x C/\Ln K C:=by refine⟨C,a,g,h,c,?_,f,n,t,m⟩;unfold mroIn at m;obtain⟨e,hc,_⟩:=m5.mp m;rw[hc];rfl
theorem abg(h:∃C,gG K x C/\Ln K C)(n:gG K x C):Ln K C:=by obtain⟨a,z,q⟩:=h;have e:a=C:=gG.uniq z n;subst e;exact q
theorem aau(a:PySem.W.nsIn K cK x=ap (ap (.ref C)))(c:PySem.W.nsIn K cK y=ap (ap (.ref C2)))(m:mroIn K C (.ref C2)=ap bj):∃C C2,gG K x C/\gG K y C2/\mroIn K C (.ref C2)=ap bj:=⟨C,C2,a,c,m⟩
theorem aaV(h:∃C C2,gG K x C/\gG K y C2/\mroIn K C (.ref C2)=ap bj)(n:gG K x C)(c:gG K y C2):mroIn K C (.ref C2)=ap bj:=by obtain⟨f,a,z,g,q⟩:=h;have e:f=C:=gG.uniq z n;have i:a=C2:=gG.uniq g c;subst e i;exact q
theorem zg(a:PySem.W.nsIn K cK x=ap (ap (.ref C)))(c:PySem.W.nsIn K cK y=ap (ap (.ref C2)))(m:kitOne K (.ref C) (.ref C2)=ap b):∃C C2,gG K x C/\gG K y C2/\kitOne K (.ref C) (.ref C2)=ap b:=⟨C,C2,a,c,m⟩
theorem zp(h:∃C C2,gG K x C/\gG K y C2/\kitOne K (.ref C) (.ref C2)=ap b)(n:gG K x C)(c:gG K y C2):kitOne K (.ref C) (.ref C2)=ap b:=by obtain⟨f,a,z,g,q⟩:=h;have e:f=C:=gG.uniq z n;have i:a=C2:=gG.uniq g c;subst e i;exact q
theorem acp(a:PySem.W.nsIn K cK x=ap (ap (.ref C)))(m:kitOne K (.ref C) (.type T)=ap b):∃C,gG K x C/\kitOne K (.ref C) (.type T)=ap b:=⟨C,a,m⟩
theorem abw(h:∃C,gG K x C/\kitOne K (.ref C) (.type T)=ap b)(n:gG K x C):kitOne K (.ref C) (.type T)=ap b:=by obtain⟨a,z,q⟩:=h;have e:a=C:=gG.uniq z n;subst e;exact q
end
end _H
namespace PySem
namespace F
theorem Mm:nL (.type "list_reverseiterator") "__len__"=eL none:=by rw[typeLookup_type,p9];kernel_rfl
theorem Q0:nL (.type "list_reverseiterator") "__length_hint__"=eL (ap (.builtin "list_reverseiterator.__length_hint__")):=by rw[typeLookup_type,p9];kernel_rfl
end F
section
variable{prog:c_}{w:eh}{A:et}{E:bd->bx->Prop}{s:bx}
theorem rP{it l:b_}{items:Array bd}{Q:Bool->bx->Prop}(e:s.heap.IsRevIter it l ((items.size:Int)-1))(m:s.heap.IsList l items)(i:items.size<=2^24)(h:∀b j,s.toks<=j->Q b {s with toks:=j}):cH (cM prog w) A (listLengthHint (.ref it)) Q E s:=by
 have f:=e.typeIs;unfold listLengthHint;refine a_ (nz f F.Mm ?_);show cH _ _ (specialOf (dq it) (ii "__length_hint__")>>=_) _ _ _;refine a_ (nz f F.Q0 ?_);generalize a:("list_reverseiterator.__length_hint__":String)=c;(fail_if_success(clear a c));wp_delta;rw[show splitId c=ap ("list_reverseiterator","__length_hint__")from by subst a;decide+kernel];subst a;refine a_ (wpAny_isInstance (b:=bj) f (by rw[isSubtype_type];kernel_rfl) ?_);rw[if_neg (by decide)];dsimp only;split;.refine wpAny_ite_split (λg=>absurd g (by decide+kernel)) (λ_=>?_);exact cv (h _ s.toks (eU))
 .rename_i k;exact absurd (by decide+kernel) k
theorem pC{R:Result->bx->Prop}{I l:b_}{items:Array bd}(Q:A.handled=none)(j:s.heap.IsRevIter I l ((items.size:Int)-1))(G:s.heap.IsList l items)(H:l≠I)(u:items.size<=2^24)(S:b_)(m:S≠I)(x:S≠l)(res:bd)(k:Nat)(J:s.heap.get? S=ap {cls:=.type "list",data:=.seq #[] k})(U:∀ h' y a t,(∀ b o,b ≠ S->b ≠ I->s.heap.get? b=ap o->h'.get? b=ap o)->h'.get? S=ap {cls:=.type "list",dict:=none,data:=.seq a t,slots:=#[]}->ItemsOf (λi v=>items[items.size-1-i]?=ap v) a items.size->R (.ok (.ret res)) {s with heap:=h',toks:=y}):cH (cM prog w) A.in1 (ll (.ref S) (.ref I) res) (λfin n=>match fin with|.done f=>R (.ok f) n|.again t=>t.quiet=bj/\kS (cM prog w) A t R n) (λe n=>R (.error e) n) s:=by
 have L:S∉[I,l]:=λhm=>by
  rcases de.mp hm with e|hm;.exact m e
  .exact x (dX.mp hm)
 have W:=(Walks.listRev (prog:=prog) (w:=w) (A:=A.in1) Q I l H items).toS;have X:s.TypeIs (.ref I) "list_reverseiterator":=j.typeIs;have key:∀(h:ef)(c y:Nat),h.IsRevIter I l ((items.size:Int)-1-((0:Nat):Int))->h.IsList l items->(∀b o,b≠S->s.heap.get? b=ap o->h.get? b=ap o)->h.get? S=ap {cls:=.type "list",data:=.seq #[] c}->kS (cM prog w) A (.builtin "list.extend.loop" ⟨[.ref S,.ref I,res],[]⟩) R {s with heap:=h,toks:=y}:=by
  intro h c y hi M Y p;refine codeAny_extend_loopS W (by rw[eR];lia) S L res items.size 0 _ #[] c rfl (xu) ⟨xu,hi,M⟩ p (ItemsOf.nil _) λn a t hm N z=>?_;rw[Moved.eq_with hm];refine U n.heap n.toks a t (λb o B O e=>hm.heap b o (λhmem=>?_) (Y b o B e)) N z;rcases de.mp hmem with Z|hmem;.exact B Z
  .exact O (dX.mp hmem)
 unfold ll;refine a_ (kN X ?_);have h1:listSameRef (.ref S) (.ref I)=av:=by simp[listSameRef,m]
 have h2:(eZ "list_reverseiterator"==eZ "list")=av:=by decide
 have h3:(eZ "list_reverseiterator"==eZ "tuple")=av:=by decide
 simp only[h1,h2,h3,Bool.or_false,gc,if_false];refine a_ (wpAny_pyIter_revIter j ?_);refine a_ (fI (rP j G u λbb y ac=>?_));have C:s.heap.IsRevIter I l ((items.size:Int)-1-((0:Nat):Int)):=by simpa using j
 refine wpAny_ite_split (λ_=>?_) (λ_=>cv ⟨l7 F.plain_extend_loop _,key _ k _ C G (λb o _ e=>e) J⟩);refine a_ (jD ?_);refine a_ ?_;show cH _ _ (updateSeq S (·.push .none)>>=λ_=>updateSeq S (·.pop)) _ _ _;refine a_ (wpAny_updateSeq J rfl ?_);have g:=h_ (fF (·.push dD)) J rfl;refine wpAny_updateSeq (hz:=by seq_fits) g rfl ?_;have q:=h_ (fF (·.pop)) g rfl;have r:∀b o,b≠S->s.heap.get? b=ap o->((s.heap.update S (fF (·.push dD))).update S (fF (·.pop))).get? b=ap o:=λb o B e=>(dN _ _ (fk B)).trans ((dN _ _ (fk B)).trans e);exact cv ⟨l7 F.plain_extend_loop _,key _ _ _ (C.at λo e=>r I o (fk m) e) (G.at λo e=>r l o (fk x) e) r q⟩
end
end PySem
namespace _H
open PySem
theorem o9:∀a b:List Int,bR a b=bj->bR b a=av
 |[],[],h=>by simp[bR]at h|[],_::_,_=>by simp[bR]|_::_,[],h=>by simp[bR]at h|x::a,y::b,h=>by
   simp only[bR,me,decide_eq_true_eq,fb]at h;simp only[bR,kK,decide_eq_false_iff_not,ky];rcases h with h|⟨h,h'⟩;.exact⟨by lia,.inl (by lia)⟩
   .exact⟨by lia,.inr (o9 a b h')⟩
theorem Df:∀a b c:List Int,bR b a=av->bR c b=av->bR c a=av
 |[],_,c,_,_=>by cases c<;>simp[bR]|_::_,[],_,h,_=>by simp[bR]at h|_::_,_::_,[],_,h=>by simp[bR]at h|x::a,y::b,z::c,h1,f=>by
   simp only[bR,kK,decide_eq_false_iff_not,ky]at h1 f ⊢;refine⟨by lia,?_⟩;by_cases e:z=x;.right;exact Df a b c (h1.2.resolve_left (by lia)) (f.2.resolve_left (by lia))
   .exact .inl e
theorem Ae:∀a b:List Int,bR a b=av->bR b a=av->a=b
 |[],[],_,_=>rfl|[],_::_,h,_=>by simp[bR]at h|_::_,[],_,h=>by simp[bR]at h|x::a,y::b,h1,c=>by
   simp only[bR,kK,decide_eq_false_iff_not,ky]at h1 c;have e:x=y:=by lia
   subst e;rw[Ae a b (h1.2.resolve_left (by simp)) (c.2.resolve_left (by simp))]
theorem za:∀{xs ys:List D},xs.all gk=bj->ys.all gk=bj->xs.map oO=ys.map oO->xs=ys
 |[],[],_,_,_=>rfl|[],_::_,_,_,h=>by simp at h|_::_,[],_,_,h=>by simp at h|x::xs,y::ys,h1,a,h=>by
   simp only[mE,fb]at h1 a;simp only[dQ,List.cons.injEq]at h;obtain⟨i,rfl⟩:∃i,x=.int i:=by cases x<;>first|exact⟨_,rfl⟩|(have q:=h1.1;simp[gk]at q;done)
   obtain⟨j,rfl⟩:∃j,y=.int j:=by cases y<;>first|exact⟨_,rfl⟩|(have q:=a.1;simp[gk]at q;done)
   rw[za h1.2 a.2 h.2,show i=j from h.1]
theorem Ez{x y:D}(h:(gk x=bj/\gk y=bj)\/(Ag x=bj/\Ag y=bj))(e:dY x=dY y):x=y:=by
 rcases h with⟨h1,a⟩|⟨h1,a⟩
 . cases x<;>first|(simp[gk]at h1;done)|skip
   cases y<;>first|(simp[gk]at a;done)|skip
   simpa[dY]using e
 . cases x<;>first|(simp[Ag]at h1;done)|skip
   cases y<;>first|(simp[Ag]at a;done)|skip
   rename_i xs ys;cases xs<;>first|(simp[Ag]at h1;done)|skip
   cases ys<;>first|(simp[Ag]at a;done)|skip
   rw[za h1 a e]
noncomputable def pO(a b:D):Bool:=!bR (dY b) (dY a)
theorem Aq(a:List D):(R9 a).Perm a:=List.mergeSort_perm ..
theorem Ql(a b c:D)(h1:pO a b=bj)(e:pO b c=bj):pO a c=bj:=by simp only[pO,kP]at*;exact Df _ _ _ h1 e
theorem Jb(a b:D):(pO a b||pO b a)=bj:=by simp only[pO,me,kP];cases h:bR (dY b) (dY a)with|false=>exact .inl rfl|true=>exact .inr (o9 _ _ h)
theorem CW(c:List D):(R9 c).Pairwise λa b=>pO a b=bj:=List.pairwise_mergeSort Ql Jb c
theorem xH{a:List D}(h:sortable a=bj):∀x∈a,∀y∈a,dY x=dY y->x=y:=by
 simp only[sortable,fb,me,fg]at h;intro x b y c e;rcases h.2 with h|h;.exact Ez (.inl ⟨h x b,h y c⟩) e
 .exact Ez (.inr ⟨h x b,h y c⟩) e
theorem uD{c l:List D}(h:sortable c=bj)(p:l.Perm c)(s:l.Pairwise λa b=>pO a b=bj):l=R9 c:=by refine List.Perm.eq_of_pairwise (le:=λa b=>pO a b=bj) (λa b f g h1 e=>?_) s (CW c) (p.trans (Aq c).symm);simp only[pO,kP]at h1 e;exact xH h a (p.mem_iff.mp f) b ((Aq c).mem_iff.mp g) (Ae _ _ e h1)
end _H
namespace _H
open PySem PyProof.Rows
variable{xs:Array fN}{i:Nat}
structure Rk(M:nv)(A:et)(E:bd->bx->Prop)(s:bx)(κ:iD)(ok:fN->Prop)(K:fN->Int):Prop where lt:∀{x y:fN}{Q:Option Bool->im->Prop}{st:im},ok x->ok y->kindOf st=κ->Q (ap (decide (K x<K y))) st->wpS M A E s (lt' x y) Q st
section
variable{M:nv}{A:et}{E:bd->bx->Prop}{s:bx}{κ:iD}{ok:fN->Prop}{K:fN->Int}
noncomputable def it(xs:Array fN)(i:Nat):fN:=xs.getD i (dD,dD)
theorem QJ(h:i<xs.size):xs[i]?=ap (it xs i):=by unfold it;simp[mP,h]
theorem Lh(h:i<xs.size):it xs i∈xs.toList:=by
 have:it xs i=xs[i]:=by unfold it;simp[mP,h]
 rw[this];simp
theorem Gu{Q:fN->im->Prop}{st:im}(h:i<xs.size)(q:Q (it xs i) st):wpS M A E s (elem' xs i) Q st:=by rw[elem'_eq,QJ h];exact jC q
end
section
variable{K:fN->Int}
noncomputable def Seg(K:fN->Int)(xs:Array fN)(lo hi:Nat):Prop:=∀i j,lo<=i->i<=j->j<hi->K (it xs i)<=K (it xs j)
theorem Rj:it xs i=xs.toList.getD i (dD,dD):=by
 unfold it;by_cases h:i<xs.size;.simp[mP,h]
 .simp[mP,h]
end
section
variable{M:nv}{A:et}{E:bd->bx->Prop}{s:bx}{κ:iD}{ok:fN->Prop}{K:fN->Int}
structure Sx(κ:iD)(ok:fN->Prop)(st:im)(xs:Array fN)(st':im):Prop where
 kind:kindOf st'=κ
 arr:qv st'=xs
 pend:jx st'=jx st
 fail:qq st'=none
 ok:∀x∈xs.toList,ok x
theorem Qq(R:Rk M A E s κ ok K){st a:im}{j:Nat}{Q:Option Bool->im->Prop}(h:Sx κ ok st xs a)(hi:i<xs.size)(b:j<xs.size)(q:Q (ap (decide (K (it xs i)<K (it xs j)))) a):wpS M A E s (ltAt' i j) Q a:=by rw[ltAt'_eq];refine gN (oQ ?_);show wpS M A E s (elem' (qv a) i>>=λx=>elem' (qv a) j>>=λy=>lt' x y) Q a;rw[h.arr];exact gN (Gu hi (gN (Gu b (R.lt (h.ok _ (Lh hi)) (h.ok _ (Lh b)) h.kind q))))
theorem Wv(R:Rk M A E s κ ok K){st g:im}{lo a n:Nat}{Q:Option (Option Nat)×Nat->im->Prop}(h:Sx κ ok st xs g)(u:lo+n<=xs.size)(v:1<=a)(l:a<=n)(hs:Seg K xs lo (lo+a))(q:∀m,a<=m->m<=n->Seg K xs lo (lo+m)->(m=n\/K (it xs (lo+m))<K (it xs (lo+m-1)))->Q (none,m) g):wpS M A E s (forIn [a:n] ((none,a):Option (Option Nat)×Nat) λ_ c=>ltAt' (lo+c.2) (lo+c.2-1)>>=λo=>match o with|some b=>if b=bj then eL (.done (none,c.2))else eL (.yield (none,c.2+1))|_=>eL (.done (ap none,c.2))) Q g:=by
 refine oY (I:=λx c k=>k=g/\c=(none,x)/\Seg K xs lo (lo+x)) ?_ ?_ ⟨rfl,rfl,hs⟩
 . rintro x c k h1 w⟨rfl,rfl,f⟩;try dsimp only
   refine gN (Qq R h (by lia) (by lia) ?_);by_cases c:K (it xs (lo+x))<K (it xs (lo+x-1))
   . rw[decide_eq_true c];try dsimp only
     rw[if_pos rfl];exact jC (q x h1 (by lia) f (.inr c))
   . rw[decide_eq_false c];try dsimp only
     rw[if_neg (by simp)];refine jC ⟨rfl,rfl,λi j p r y=>?_⟩;by_cases t:j<lo+x;.exact f i j p r t
     . have:j=lo+x:=by lia
       subst this;by_cases e:i=lo+x;.rw[e];exact iL _
       .have:=f i (lo+x-1) p (by lia) (by lia);lia
 .rintro c k⟨rfl,rfl,f⟩;rw[show max a n=n by lia]at f ⊢;exact q n l (eU) f (.inl rfl)
end
noncomputable abbrev Rn:=Nat×Nat×Nat
section
variable{K:fN->Int}{xs ys:Array fN}
noncomputable def Rns(K:fN->Int)(xs:Array fN):Nat->List Rn->Nat->Prop|a,[],b=>a=b|a,r::l,b=>r.1=a/\1<=r.2.1/\Seg K xs a (a+r.2.1)/\Rns K xs (a+r.2.1) l b
theorem yj:∀{l k:List Rn}{a b:Nat},Rns K xs a (l++k) b↔∃m,Rns K xs a l m/\Rns K xs m k b
 |[],k,a,b=>⟨λh=>⟨a,rfl,h⟩,λ⟨m,h1,c⟩=>by cases(show a=m from h1);exact c⟩|r::l,k,a,b=>by
   rw[l8];constructor;.rintro⟨h1,c,e,f⟩;obtain⟨m,g,j⟩:=yj.mp f;exact⟨m,⟨h1,c,e,g⟩,j⟩
   .rintro⟨m,⟨h1,c,e,f⟩,g⟩;exact⟨h1,c,e,yj.mpr ⟨m,f,g⟩⟩
end
section
variable{M:nv}{A:et}{E:bd->bx->Prop}{s:bx}{κ:iD}{ok:fN->Prop}{K:fN->Int}
structure SR(κ:iD)(ok:fN->Prop)(K:fN->Int)(x0 ys:Array fN)(l:List Rn)(lo:Nat)(st:im):Prop where
 kind:kindOf st=κ
 arr:qv st=ys
 fail:qq st=none
 pend:(jx st).toList=l
 perm:ys.toList.Perm x0.toList
 ok:∀x∈ys.toList,ok x
 rns:Rns K ys 0 l lo
 le:lo<=ys.size
theorem SR.sx{x0 ys:Array fN}{l:List Rn}{lo:Nat}{st:im}(h:SR κ ok K x0 ys l lo st):Sx κ ok st ys st:=⟨h.kind,h.arr,rfl,h.fail,h.ok⟩
end
end _H
namespace _H
open PySem W PyProof.Rows Calls _L Spec
theorem Rq(a:List Int):bR a a=av:=by cases h:bR a a with|false=>rfl|true=>rw[o9 _ _ h]at h;cases h
theorem KC{a b x:List Int}(h:bR b a=av)(c:bR x a=bj):bR x b=bj:=by cases e:bR x b with|true=>rfl|false=>rw[Df _ _ _ h e]at c;cases c
theorem wK{a:Type}{p q:a->Bool}(h:∀x,p x=bj->q x=bj):∀{l:List a},(∃x,x∈l/\q x=bj/\p x=av)->l.countP p<l.countP q
 |[],⟨x,hx,_⟩=>by cases hx|y::l,⟨x,hx,h1,b⟩=>by
   rw[nq,nq];have m:=oj (l:=l) (p:=p) (q:=q) λx _=>h x;rcases de.mp hx with rfl|hx;.rw[h1,b,if_pos rfl,if_neg (by simp)];lia
   .have:=wK h ⟨x,hx,h1,b⟩;cases hp:p y with|true=>rw[h y hp];lia|false=>rw[if_neg (by simp)];lia
noncomputable def Yc(a:List D)(d:D):Nat:=a.countP λe=>bR (dY e) (dY d)
theorem Jv{a:List D}{d e:D}(hd:d∈a):decide ((Yc a d:Int)<Yc a e)=bR (dY d) (dY e):=by cases h:bR (dY d) (dY e)with|true=>have:=wK (l:=a) (p:=λx=>bR (dY x) (dY d)) (q:=λx=>bR (dY x) (dY e)) (λx b=>KC (o9 _ _ h) b) ⟨d,hd,h,Rq _⟩;rw[decide_eq_true_iff];unfold Yc;lia|false=>have:=oj (l:=a) (p:=λx=>bR (dY x) (dY e)) (q:=λx=>bR (dY x) (dY d)) λx _ b=>KC h b;rw[decide_eq_false_iff_not];unfold Yc;lia
open Classical in
noncomputable def rkK(P:bd->D->Prop)(a:List D)(x:fN):Int:=if h:∃d,d∈a/\P x.1 d then(Yc a h.choose:Int)else 0
theorem Eg{P:bd->D->Prop}{a:List D}{x:fN}{d:D}(fn:∀u d e,P u d->P u e->dY d=dY e)(hd:d∈a)(b:P x.1 d):rkK P a x=Yc a d:=by have h:∃d,d∈a/\P x.1 d:=⟨d,hd,b⟩;unfold rkK;rw[dif_pos h];unfold Yc;rw[fn _ _ _ h.choose_spec.2 b]
noncomputable def pick{a:Type}(d:a)(p:List Nat)(l:List a):List a:=p.map λi=>l.getD i d
theorem pB{a:Type}(d:a)(l:List a):pick d (eu l.length) l=l:=by refine ln (by simp[pick]) λi h1 b=>?_;simp[pick,b]
theorem uE{a:Type}{d:a}{p:List Nat}{l:List a}{n:Nat}(h:p.Perm (eu n)):(pick d p l).length=n:=by rw[pick,dV,h.length_eq,kR]
theorem nJ{P:bd->D->Prop}:∀{b:List bd}{a:List D},Paired P b a->∀i,i<b.length->P (b.getD i .none) (a.getD i .non)/\a.getD i .non∈a|_,_,.cons r _,0,_=>⟨by simpa using r,by simp⟩|_,_,.cons _ t,i+1,hi=>by have:=nJ t i (by simpa using hi);exact⟨by simpa using this.1,by simpa using ei this.2⟩
end _H
namespace _H
open PySem _L Spec PyProof.Rows Calls W
section
variable{prog:c_}{w:eh}{A:et}{E:bd->bx->Prop}{s:bx}{vs:List bd}{κ:iD}{P:bd->D->Prop}{ds:List D}
theorem rE{b fin:Bool}{Q:Bool->bx->Prop}:∀{xs ys:List bd}{is js:List Int}{i:Nat},gl xs is->gl ys js->fin=decide (is.length<js.length)->Q (bR is js) s->KatLex prog w A b fin Q (xs.zip ys) i s
 |_,_,_,_,_,.nil,.nil,e,h=>by subst e;exact kat_nil (by simpa[bR]using h)|_,_,_,_,_,.nil,.cons _ _ _,e,h=>by subst e;exact kat_nil (by simpa[bR]using h)|_,_,_,_,_,.cons _ _ _,.nil,e,h=>by subst e;exact kat_nil (by simpa[bR]using h)|_,_,_,_,i,.cons (ns:=is) x t r,.cons (ns:=js) y u r',e,h=>by
   refine kat_cons (mT ?_);by_cases q:x=y;.subst q;rw[beq_self_eq_true];refine kat_yes (rE r r' (by rw[e];simp) ?_);simpa[bR]using h
   . rw[beq_eq_false_iff_ne.mpr q];refine kat_no ?_;have a:Q (decide (x<y)) s:=by simpa[bR,q]using h
     cases(b&&i==0)with|true=>exact oneLt_int a|false=>exact kat_one _ _ (wpAny_lt_int a)
noncomputable def rR(h:ef)(u:bd)(d:D):Prop:=∃a b is,u=.ref a/\oN h a (o_ b)/\gl b is/\is≠[]/\dY d=is
theorem qe{h h':ef}(k:∀b o,h.get? b=ap o->h'.get? b=ap o){u:bd}{d:D}(t:rR h u d):rR h' u d:=by obtain⟨a,c,is,e,⟨o,h1,f⟩,g⟩:=t;exact⟨a,c,is,e,⟨o,k _ _ h1,f⟩,g⟩
theorem xf{h h':ef}(k:∀b o,h.get? b=ap o->h'.get? b=ap o):∀{a:List bd}{ds:List D},Paired (rR h) a ds->Paired (rR h') a ds|_,_,.nil=>.nil|_,_,.cons r t=>.cons (qe k r) (xf k t)
theorem qX{h:ef}:∀{b:List bd}{ds:List D},Paired (rR h) b ds->∃fs,KatTups h b fs/\fs.length=b.length/\∀f∈fs,∃n t,f=er n t|_,_,.nil=>⟨[],trivial,rfl,by simp⟩|_,_,.cons r t=>by obtain⟨fs,h1,e,g⟩:=qX t;obtain⟨a,i,is,rfl,⟨o,j,k,n,l⟩,hi,c,_⟩:=r;cases hi with|nil=>exact absurd rfl c|cons x m p=>
     refine⟨.int x m::fs,KatTups.cons j k l (by simp) h1,by simp[e],λf hf=>?_⟩;rcases de.mp hf with rfl|hf;.exact⟨_,_,rfl⟩
     .exact g f hf
theorem GJ{ds:List D}(t:Paired (rR s.heap) vs ds)(e:2<=vs.length){C:iD->bx->Prop}(a:C (tuples' (eZ "int"!=eZ "tuple")) s):cH (cM prog w) A (keyKind' vs.toArray) C E s:=by obtain⟨fs,h1,f,b⟩:=qX t;refine kat_kind (T:=.type "int") h1 (by lia) (λv c=>?_) rfl a;obtain⟨n,t,rfl⟩:=b v c;exact Looks.now
theorem Ow{x y:bd}{d e:D}(h:rR s.heap x d)(i:rR s.heap y e){b:Bool}{C:Bool->bx->Prop}(c:C (bR (dY d) (dY e)) s):cH (cM prog w) A (keyLt' (tuples' b) x y) C E s:=by obtain⟨a,j,is,rfl,⟨o,k,r,n,l⟩,hi,m,p⟩:=h;obtain⟨t,its',js,rfl,⟨u,p1,p2,v,p3⟩,f,g,q⟩:=i;refine kat_lt k l p1 p3 ?_;rw[p,q]at c;refine rE (is:=is) (js:=js) (by simpa using hi) (by simpa using f) ?_ c;rw[cS,cS,kx hi,kx f]
end
theorem Ii{xs:List V}{a:List bd}(h:Vals xs a)(i:Nat):RelV (xs.getD i .non) (a.getD i .none):=by
 have f:=h.length;by_cases hi:i<xs.length
 . obtain⟨u,e,r⟩:=h.get (i:=i) (x:=xs[i]) (gi hi);have b:xs.getD i .non=xs[i]:=by simp[hi]
   have c:a.getD i .none=u:=by simp[e]
   rw[b,c];exact r
 . have b:xs.getD i .non=.non:=by simp[mh hi]
   have c:a.getD i .none=.none:=by simp[show a.length<=i by lia]
   rw[b,c];rfl
theorem Aa{f:Nat->V}{g:Nat->bd}(h:∀i,RelV (f i) (g i)):∀l:List Nat,Vals (l.map f) (l.map g)|[]=>.nil|i::l=>.cons (h i) (Aa h l)
theorem JV{p:List Nat}{xs:List V}{a:List bd}(h:Vals xs a):Vals (pick .non p xs) (pick .none p a):=Aa (Ii h) _
theorem zu{K:PySem.W.Frag}{F:Hp}{f:Nat->V}{g:Nat->D}(h:∀i,Rep K F (f i) (g i)):∀l:List Nat,aN K F (l.map f) (l.map g)|[]=>.nil|i::l=>.cons (h i) (zu h l)
theorem Lg{K:PySem.W.Frag}{F:Hp}{p:List Nat}{xs:List V}{a:List D}(h:aN K F xs a):aN K F (pick .non p xs) (pick .non p a):=zu (λi=>by
 have f:=h.length;by_cases hi:i<a.length
 . obtain⟨u,e,r⟩:=h.get (i:=i) (d:=a[i]) (gi hi);have b:a.getD i .non=a[i]:=by simp[hi]
   have c:xs.getD i .non=u:=by simp[e]
   rw[b,c];exact r
 . have b:a.getD i .non=.non:=by simp[mh hi]
   have c:xs.getD i .non=.non:=by simp[show xs.length<=i by lia]
   rw[b,c,Rep]) _
theorem Jh{a:List bd}:∀{ns b:List Int},gl a ns->gl a b->ns=b:=by induction a with|nil=>intro ns b h1 c;cases h1;cases c;rfl|cons u a e=>intro ns b h1 c;cases h1 with|cons n t r=>cases c with|cons m t' f=>rw[e r f]
theorem Qg{h:ef}(u:bd)(d e:D):rR h u d->rR h u e->dY d=dY e:=λ⟨a,f,is,h1,⟨o,g,r,n,i⟩,j,_,k⟩⟨b,l,js,c,⟨s,p1,p2,m,p3⟩,p,_,q⟩=>by rw[h1]at c;cases c;rw[g]at p1;cases p1;rw[i]at p3;cases p3;rw[k,q,Jh j p]
theorem all_ints:∀{a:List D},a.all gk=bj->a=(a.map oO).map D.int
 |[],_=>rfl|d::a,h=>by
   simp only[mE,fb]at h;cases d<;>first|(have q:=h.1;simp[gk]at q;done)|skip
   rw[dQ,dQ,<-all_ints h.2];rfl
theorem intsAre_of:∀{ns:List Int}{a:List bd},Vals (ns.map V.int) a->gl a ns|[],_,.nil=>.nil|n::ns,_,.cons r t=>by obtain⟨b,rfl⟩:=r;exact .cons n b (intsAre_of t)
section
variable{X:Cx}{c:Call}{a:da}{pa:P}{pos:Pos}
theorem boot_sorted:ez "sorted"=ap (.builtin "sorted"):=by decide+kernel
end
end _H
namespace _H
open PySem _L Spec PyProof.Rows Calls
theorem BR(l b:b_)(items a:List bd)(n H:Nat)(dd o:Option b_)(sl r:Array (Option bd))(is js:List Int)(hi:gl items is)(G:gl a js):oI (i3.«tuple.__lt__» ⟨[.ref l,.ref b],[]⟩) (λA R s=>s.heap.get? l=ap {cls:=.type "tuple",dict:=dd,data:=.seq items.toArray n,slots:=sl}/\s.heap.get? b=ap {cls:=.type "tuple",dict:=o,data:=.seq a.toArray H,slots:=r}/\R (.ok (.ret (.bool (bR is js)))) s):=.of_wp λprog w A R s h=>by
  obtain⟨v,g,d,z,os⟩:=s;obtain⟨I,J,h⟩:=h;have f2:=AutoSeq1.sub_tuple_tuple;wp_walk using fw I,fw J,wpAny_forIn_list _ (λf b B=>b.1=none/\B=⟨v,g,d,z,os⟩/\∃xs ys c j,f=xs.zip ys/\gl xs c/\gl ys j/\decide (items.length<a.length)=decide (c.length<j.length)/\R (.ok (.ret (.bool (bR c j)))) ⟨v,g,d,z,os⟩) _;case turn=>rintro⟨y,x⟩f b B⟨i,rfl,xs,ys,c,j,hz,h1,k,C,m⟩;cases h1 with|nil=>cases hz|cons p t h1=>cases k with|nil=>cases hz|cons q u k=>
       injection hz with hyx hrest;cases hyx;refine a_ (mT ?_);by_cases e:p=q;.subst e;rw[beq_self_eq_true];wp_walk;exact⟨rfl,rfl,_,_,_,_,hrest,h1,k,by rw[C];simp,by simpa[bR]using m⟩
       . rw[beq_eq_false_iff_ne.mpr e];have E:R (.ok (.ret (.bool (decide (p<q))))) ⟨v,g,d,z,os⟩:=by simpa[bR,e]using m
         simp only[Bool.not_false,if_true];refine a_ (jD ?_);refine a_ (show cH (cM prog w) A.in1 (ec .Lt (er p t) (er q u)) _ _ _ from wpAny_lt_int ?_);refine a_ (cv ?_);exact cv (cv ⟨_,rfl,E⟩)
  case fin=>
   rintro⟨b1,b2⟩B⟨i,rfl,xs,ys,c,j,hz,h1,k,C,m⟩;simp only at i;subst i;have e:bR c j=decide (items.length<a.length):=by rw[C];cases h1 with|nil=>cases k<;>simp[bR]|cons _ _ _=>cases k with|nil=>simp[bR]|cons _ _ _=>cases hz
   rw[e]at m;wp_walk;exact⟨_,rfl,by simpa[Builtin.Tuple.tupleCompareSizes]using m⟩
  case h=>exact⟨rfl,rfl,items,a,is,js,by simp,hi,G,by rw[kx hi,kx G],h⟩
section
variable{X:Cx}
theorem MK(hu:X.A.units+8<fy):jc X (ec .Lt) (rD X.K (uA .lt)):=by rintro f s σ H x y v u Q I G J⟨F,d,e,r,p,L,M,he,k⟩;obtain⟨t,c,q⟩:=map_some (show(abo d e).map _=ap r from he);subst q;cases d with
 |int i=>cases e with|int j=>exact U5 f s σ H x y v u Q I G J ⟨F,.int i,.int j,_,p,L,M,by have q:Ol (λi j=>decide (i<j)) (.int i) (.int j)=ap t:=c;simp only[q];rfl,k⟩|_=>cases c
 |tup xs=>cases e with|tup ys=>obtain⟨hc,c⟩:=bU (show(if(xs.all gk&&ys.all gk)=bj then ap (bR (xs.map oO) (ys.map oO))else none)=ap t from c);rw[fb]at hc;obtain⟨a,vs,rfl,h1,N,_⟩:=L.tup p;obtain⟨b,ws,rfl,Z,O,_⟩:=M.tup p;cases G;cases J;obtain⟨z,U,it,_⟩:=I.tuple h1;obtain⟨g,W,B,_⟩:=I.tuple Z;rw[all_ints hc.1]at N;rw[all_ints hc.2]at O;rw[mR N]at U;rw[mR O]at W;have i1:=intsAre_of U;have i2:=intsAre_of W;obtain⟨⟨cls,dd,data,sl⟩,ho,h,n,hd⟩:=it;obtain⟨⟨Y,C,data2,E⟩,l,m,n2,o⟩:=B;simp only at h hd m o;subst h hd m o;refine(show cH (cM X.prog X.w) X.A (richCompare .Lt (.ref a) (.ref b)) _ _ s from richCompare_meets_room (op:=.Lt) ⟨_,ho,rfl⟩ ⟨_,l,rfl⟩ PySem.F.slot_tuple_lt PySem.F.entry_tuple_lt (PySem.F.args_tuple_lt_2 _ _) (BR a b z g n n2 dd C sl E _ _ i1 i2) ⟨ho,l,show i5 _≠kB/\_ from⟨(λx=>nomatch x),⟨.bl t,H,I,by rw[<-c];rfl,dg.fK p (gW _) k⟩⟩⟩ (by lia))|_=>cases c
 |_=>cases c
end
end _H
namespace _L
open PySem Spec PyProof.Rows
variable{y:V}{w:eh}{H:Hp}{Q:bd->bx->Prop}{pos:Pos}{X:Cx}
section
variable{κ:Type}[DecidableEq κ]
noncomputable def lQ(kvs:List (κ×V))(k:κ):Option V:=(kvs.find? λa=>decide (a.1=k)).map (·.2)
noncomputable def putK(kvs:List (κ×V))(k:κ)(v:V):List (κ×V):=if(kvs.any λa=>decide (a.1=k))=bj then kvs.map (λa=>if a.1=k then(a.1,v)else a)else kvs++[(k,v)]
theorem pD{p:κ×V}{r:List (κ×V)}{k:κ}(e:p.1=k):lQ (p::r) k=ap p.2:=by simp[lQ,hV,e]
theorem pX{p:κ×V}{r:List (κ×V)}{k:κ}(e:¬ p.1=k):lQ (p::r) k=lQ r k:=by simp[lQ,hV,e]
theorem uJ(k:κ):∀kvs:List (κ×V),(kvs.any λa=>decide (a.1=k))=(lQ kvs k).isSome
 |[]=>rfl|p::r=>by
   rw[mB];by_cases e:p.1=k;.simp only[pD e,decide_eq_true e,Bool.true_or,Option.isSome_some]
   .rw[pX e,decide_eq_false e,Bool.false_or];exact uJ k r
theorem mj(kvs:List (κ×V))(k:κ)(v:V):(putK kvs k v).length<=kvs.length+1:=by
 unfold putK;split;.rw[dV];lia
 .rw[d_,eS,length_nil];lia
theorem rM.kJ{o:Option V}{u:Option bd}(r:rM o u):o.isSome=u.isSome:=by cases o with
 |none=>cases u with|none=>rfl|some _=>exact(show False from r).elim
 |some _=>cases u with|none=>exact(show False from r).elim|some _=>rfl
theorem rM.getD{o:Option V}{u:Option bd}{d:V}{d':bd}(r:rM o u)(a:RelV d d'):RelV (o.getD d) (u.getD d'):=by cases o with
 |none=>cases u with|none=>exact a|some _=>exact(show False from r).elim
 |some _=>cases u with|none=>exact(show False from r).elim|some _=>exact r
theorem KV.val{kvs:List (κ×V)}{vs:List (κ×bd)}(r:KV kvs vs)(k:κ):rM (lQ kvs k) (ml vs k):=by unfold KV at r;induction r with|nil=>exact ki|@cons p q ps a h t f=>
   obtain⟨h1,g⟩:=h;by_cases e:p.1=k
   . have c:q.1=k:=h1.symm.trans e;have b:ml (q::a) k=ap q.2:=by simp[ml,hV,c]
     rw[pD e,b];exact g
   . have c:¬ q.1=k:=λz=>e (h1.trans z);have b:ml (q::a) k=ml a k:=by simp[ml,hV,c]
     rw[pX e,b];exact f
theorem KV.any{kvs:List (κ×V)}{vs:List (κ×bd)}(r:KV kvs vs)(k:κ):(kvs.any λa=>decide (a.1=k))=vs.any λa=>decide (a.1=k):=by unfold KV at r;induction r with|nil=>rfl|cons h t b=>rw[mB,mB,b,h.1]
theorem KV.repl{kvs:List (κ×V)}{vs:List (κ×bd)}(r:KV kvs vs)(k:κ){u:bd}(b:RelV y u):KV (kvs.map λa=>if a.1=k then(a.1,y)else a) (vs.map λa=>if a.1=k then(a.1,u)else a):=by unfold KV at r ⊢;induction r with|nil=>exact .nil|@cons p q ps g h t c=>
   rw[dQ,dQ];refine .cons ?_ c;obtain⟨h1,f⟩:=h;by_cases e:p.1=k;.rw[if_pos e,if_pos (h1.symm.trans e)];exact⟨h1,b⟩
   .rw[if_neg e,if_neg (λz=>e (h1.trans z))];exact⟨h1,f⟩
theorem KV.put{kvs:List (κ×V)}{vs:List (κ×bd)}(r:KV kvs vs)(k:κ){u:bd}(a:RelV y u):KV (putK kvs k y) (stored vs k u):=by
 unfold putK stored;rw[r.any k];by_cases e:(vs.any λb=>decide (b.1=k))=bj;.rw[if_pos e,if_pos e];exact r.repl k a
 .rw[if_neg e,if_neg e];exact Paired.snoc r ⟨rfl,a⟩
theorem KV.length{kvs:List (κ×V)}{vs:List (κ×bd)}(r:KV kvs vs):kvs.length=vs.length:=Paired.length r
end
theorem uU{P:c_}{k:Key}{u:bd}(r:RelV (kV k) u):(bI P w).is k u=bj:=by cases k with|inl i=>obtain⟨t,e⟩:=(show ∃t,u=er i t from r);subst e;exact zq P w i t|inr x=>obtain⟨t,e⟩:=(show ∃t,u=Value.str x t from r);subst e;exact zB P w x t
theorem wZ{P:c_}{w:eh}:∀{ks:List Key}{a:List bd},Vals (ks.map kV) a->ItemsAre (bI P w) ks a|[],_,r=>by rw[ms]at r;cases r;exact .nil|k::ks,_,r=>by rw[dQ]at r;cases r with|cons h t=>exact .cons (uU h) (wZ t)
noncomputable abbrev KT(H:Hp):List (List Key×V)->List (List Key×b_×bd)->Prop:=Paired λp q=>p.1=q.1/\H q.2.1=ap (.tup (p.1.map kV))/\RelV p.2 q.2.2
theorem KT.val{kvs:List (List Key×V)}{xs:List (List Key×b_×bd)}(r:KT H kvs xs)(k:List Key):rM (lQ kvs k) ((nX xs k).map (·.2)):=by induction r with|nil=>exact ki|@cons p q ps a h t f=>
   obtain⟨h1,_,g⟩:=h;by_cases e:p.1=k
   . have c:q.1=k:=h1.symm.trans e;have b:nX (q::a) k=ap q.2:=by simp[nX,hV,c]
     rw[pD e,b];exact g
   . have c:¬ q.1=k:=λz=>e (h1.trans z);have b:nX (q::a) k=nX a k:=by simp[nX,hV,c]
     rw[pX e,b];exact f
theorem KT.repl{kvs:List (List Key×V)}{xs:List (List Key×b_×bd)}(r:KT H kvs xs)(k:List Key){u:bd}(c:RelV y u):KT H (kvs.map λa=>if a.1=k then(a.1,y)else a) (xs.map (putAt k u)):=by induction r with|nil=>exact .nil|@cons p q ps i h t f=>
   rw[dQ,dQ];refine .cons ?_ f;obtain⟨h1,b,g⟩:=h;unfold putAt;by_cases e:p.1=k;.rw[if_pos e,if_pos (h1.symm.trans e)];exact⟨h1,b,c⟩
   .rw[if_neg e,if_neg (λz=>e (h1.trans z))];exact⟨h1,b,g⟩
theorem KT.put{kvs:List (List Key×V)}{xs:List (List Key×b_×bd)}(r:KT H kvs xs)(k:List Key){b:b_}{u:bd}(c:H b=ap (.tup (k.map kV)))(a:RelV y u):KT H (putK kvs k y) (storedH xs k b u):=by
 have e:(kvs.any λf=>decide (f.1=k))=(nX xs k).isSome:=by rw[uJ,(r.val k).kJ,isSome_map]
 unfold putK storedH;rw[e];by_cases q:(nX xs k).isSome=bj;.rw[if_pos q,if_pos q];exact r.repl k a
 .rw[if_neg q,if_neg q];exact Paired.snoc r ⟨rfl,c,a⟩
theorem KT.keeps{H':Hp}{kvs:List (List Key×V)}{xs:List (List Key×b_×bd)}(r:KT H kvs xs)(a:∀b ys,H b=ap (.tup ys)->H' b=ap (.tup ys)):KT H' kvs xs:=Paired.Xy r λ_ _ z=>⟨z.1,a _ _ z.2.1,z.2.2⟩
section
variable{P:c_}{w:eh}{H:Hp}{h:ef}{a:b_}
theorem TY{u:HO}(ok:lO P w H h)(e:Rd H a u):bT P w H h a u:=e.ok ok
theorem vg{kvs:List (Key×V)}(ok:lO P w H h)(e:Rd H a (.dK kvs)):kvs.length<=sizeLine/\(a==gL)=av/\∃vs,KV kvs vs/\h.DictOf (bI P w) a vs:=show bT P w H h a (.dK kvs)from TY ok e
theorem Th{kvs:List (Key×V)}(ok:lO P w H h)(e:H a=ap (.dK kvs)):kvs.length<=sizeLine/\(a==gL)=av/\∃vs,KV kvs vs/\h.DictOf (bI P w) a vs:=vg ok (.inl e)
theorem qd{ks:List Key}(ok:lO P w H h)(e:H a=ap (.tup (ks.map kV))):(lF (bI P w)).is h ks a:=by obtain⟨_,b,r,o,h1,c,n,f⟩:=(show bT P w H h a (.tup (ks.map kV))from ok a _ e);exact⟨o,b.toArray,n,h1,c,f,by simpa using wZ r⟩
theorem uc{kvs:List (List Key×V)}(ok:lO P w H h)(e:Rd H a (.dT kvs)):kvs.length<=sizeLine/\(a==gL)=av/\∃xs,KT H kvs xs/\h.DictOfH (lF (bI P w)) a xs:=by
 obtain⟨z,y,xs,r,o,es,ep,h1,c,f,g,i⟩:=(show bT P w H h a (.dT kvs)from TY ok e);refine⟨z,y,xs,r,o,es,ep,h1,c,f,g,λx hx=>?_,i⟩;have all:∀{l:List (List Key×V)}{m:List (List Key×b_×bd)},KT H l m->∀x∈m,(lF (bI P w)).is h x.1 x.2.1:=by intro l m q;induction q with|nil=>intro x hx;exact nomatch hx|@cons p q ps k b t j=>
    intro x hx;rcases de.mp hx with e|hx;.subst e;exact qd ok (by rw[<-b.1];exact b.2.1)
    .exact j x hx
 exact all r x hx
theorem aaH{kvs:List (List Key×V)}(ok:lO P w H h)(e:H a=ap (.dT kvs)):kvs.length<=sizeLine/\(a==gL)=av/\∃xs,KT H kvs xs/\h.DictOfH (lF (bI P w)) a xs:=uc ok (.inl e)
end
noncomputable def qD(H:Hp)(a:b_)(y:V)(r:Option V):Prop:=(∃kvs k,Rd H a (.dK kvs)/\y=kV k/\r=lQ kvs k)\/∃kvs k b,Rd H a (.dT kvs)/\y=.ref b/\H b=ap (.tup (k.map kV))/\r=lQ kvs k
noncomputable def abj(H:Hp)(a:b_)(y v:V)(H':Hp):Prop:=(∃kvs k,H a=ap (.dK kvs)/\y=kV k/\kvs.length<sizeLine/\H'=upd H a (.dK (putK kvs k v)))\/∃kvs k b,H a=ap (.dT kvs)/\y=.ref b/\H b=ap (.tup (k.map kV))/\kvs.length<sizeLine/\H'=upd H a (.dT (putK kvs k v))
section
variable{X:Cx}{pins:List (b_×Obj)}{σ:St}{H:Hp}{s:bx}{a:b_}{y v:V}{u r:bd}{o:Option V}{A:et}{E:bd->bx->Prop}
theorem Inv.big(I:Inv X pins σ H s):gL<s.heap.objs.size:=by have h:cK<s.heap.objs.size:=(I.mod.glob.keeps I.bk).lt;exact n4 (by decide) h
theorem qK(x:A.units+1<fy)(I:Inv X pins σ H s)(g:qD H a y (ap v))(q:RelV y u)(h:∀f t,Inv X pins σ H t->RelV v f->Q f t):cH (cM X.prog X.w) A (jv (.ref a) u) Q E s:=by
 rcases g with⟨kvs,k,e,i,l⟩|⟨kvs,k,b,e,i,B,l⟩;.subst i;obtain⟨z,hd,vs,c,dd⟩:=vg I.hok e;obtain⟨f,j,m⟩:=rM.some_of (v:=v) (o:=ml vs k) (by rw[l];exact c.val k);exact wpAny_getItem_of (uU q) dd.mapOf j (h f _ (I.tok _) m)
 .subst i;cases(show u=dq b from q);obtain⟨z,hd,xs,c,dd⟩:=uc I.hok e;obtain⟨f,j,m⟩:=rM.some_of (v:=v) (o:=(nX xs k).map (·.2)) (by rw[l];exact c.val k);obtain⟨p,C,n⟩:=eT.mp j;refine wpAny_getItem_heap (ic x) (qd I.hok B) dd C ?_;rw[n];exact h f _ (I.tok _) m
theorem aaO(m:A.units+1<fy)(I:Inv X pins σ H s)(g:qD H a y o)(i:RelV y u)(h:∀j,Inv X pins σ H j->Q (.bool o.isSome) j):cH (cM X.prog X.w) A (ec .In u (.ref a)) Q E s:=by
 rcases g with⟨kvs,k,e,f,l⟩|⟨kvs,k,b,e,f,n,l⟩;.subst f;obtain⟨z,hd,vs,c,dd⟩:=vg I.hok e;refine wpAny_in_of (uU i) hd dd.mapOf ?_;rw[<-(c.val k).kJ,<-l];exact h _ (I.tok _)
 .subst f;cases(show u=dq b from i);obtain⟨z,hd,xs,c,dd⟩:=uc I.hok e;refine wpAny_in_heap (ic m) (qd I.hok n) hd dd ?_;have q:=(c.val k).kJ;rw[isSome_map]at q;rw[<-q,<-l];exact h _ (I.tok _)
theorem Ew(m:A.units+1<fy)(I:Inv X pins σ H s)(g:qD H a y o)(i:RelV y u)(h:∀j,Inv X pins σ H j->Q (.bool (!o.isSome)) j):cH (cM X.prog X.w) A (ec .NotIn u (.ref a)) Q E s:=by
 rcases g with⟨kvs,k,e,f,l⟩|⟨kvs,k,b,e,f,n,l⟩;.subst f;obtain⟨z,hd,vs,c,dd⟩:=vg I.hok e;refine wpAny_notIn_of (uU i) hd dd.mapOf ?_;rw[<-(c.val k).kJ,<-l];exact h _ (I.tok _)
 .subst f;cases(show u=dq b from i);obtain⟨z,hd,xs,c,dd⟩:=uc I.hok e;refine wpAny_notIn_heap (ic m) (qd I.hok n) hd dd ?_;have q:=(c.val k).kJ;rw[isSome_map]at q;rw[<-q,<-l];exact h _ (I.tok _)
theorem yh{h':ef}{t':Nat}{c:HO}(I:Inv X pins σ H s)(f:Mut (H a))(hs:p5 a s.heap h')(he:∃q,h'.get? a=ap q)(new:bT X.prog X.w (upd H a c) h' a c):Inv X pins σ (upd H a c) {s with heap:=h',toks:=t'}:=I.write (x:=a) (e:=a) f (.inl rfl) (λb q g z=>(hs.2 b g).trans z) he new
theorem Kr{P:c_}{H':Hp}{h':ef}{kvs:List (Key×V)}{vs:List (Key×bd)}(z:kvs.length<=sizeLine)(hd:(a==gL)=av)(b:KV kvs vs)(dd:h'.DictOf (bI P w) a vs):bT P w H' h' a (.dK kvs):=⟨z,hd,vs,b,dd⟩
theorem GK{H':Hp}{Q:Unit->bx->Prop}(J:A.units+1<fy)(I:Inv X pins σ H s)(g:abj H a y v H')(t:RelV y u)(x:RelV v r)(h:∀B,Inv X pins σ H' B->Q () B):cH (cM X.prog X.w) A (nB (.ref a) u r) Q E s:=by
 rcases g with⟨kvs,k,e,m,l,n⟩|⟨kvs,k,b,e,m,C,l,n⟩
 . subst m n;obtain⟨z,hd,vs,f,dd⟩:=Th I.hok e;have hz:vs.length<=sizeLine:=by rw[<-f.length];exact z
   have p:(putK kvs k v).length<=sizeLine:=by have:=mj kvs k v;lia
   refine wpAny_setItem_pairs (hsz:=hz) (uU t) dd λh' i hs=>h _ ?_;have he:∃q,h'.get? a=ap q:=let⟨q,_,_,j,_⟩:=i;⟨q,j⟩;exact yh I (by rw[e];exact ki) hs he (Kr p hd (f.put k x) i)
 . subst m n;cases(show u=dq b from t);obtain⟨z,hd,xs,f,dd⟩:=aaH I.hok e;have hz:xs.length<=sizeLine:=by rw[<-Paired.length f];exact z
   have p:(putK kvs k v).length<=sizeLine:=by have:=mj kvs k v;lia
   refine wpAny_setItem_heap (hsz:=hz) (ic J) (qd I.hok C) dd λh' i hs=>h _ ?_;obtain⟨q,es,ep,j,L,M,N,_,O⟩:=i;refine yh I (by rw[e];exact ki) hs ⟨q,j⟩ ⟨p,hd,_,(f.put k C x).keeps λc ys G=>?_,q,es,ep,j,L,M,N,O⟩;rw[aH (aco G e (λz=>nomatch z))];exact G
end
noncomputable def Qn(i:da):Prop:=∀a iv,ng i av a iv=operate [a,iv] (jv a iv)
theorem Gm{prog:c_}{A:et}{E:bd->bx->Prop}{s:bx}{env:Env}{a slice:da}{T id:String}(l:nL (.type T) "__getitem__"=eL (ap (.builtin id)))(hs:Qn slice)(h:cH (cM prog w) A (eg a env) (λo e=>cH (cM prog w) A (eg slice env) (λi b=>b.TypeIs o T/\cH (cM prog w) A (jv o i) Q E b) E e) E s):cH (cM prog w) A (eg (.Subscript a slice pos) env) Q E s:=by
 refine Subscript_ (dS h (λo e g=>dS g (λi b c=>?_) λ_ _ x=>x) λ_ _ x=>x);obtain⟨k,c⟩:=c;unfold oq;refine a_ ?_;rw[getitemInPython_of_ne k.not_modules];refine a_ (nz k l ?_);have fin:cH (cM prog w) A (ng slice av o i) (λr f=>cH (cM prog w) A (letTemporaryGo a o r>>=λ_=>eL r) Q E f) E b:=by rw[hs o i];exact wpAny_operating (dS c (λr f j=>a_ (wpAny_letTemporaryGo (cv j))) λ_ _ x=>x)
 first|exact cv (a_ fin)|exact a_ (cv (a_ fin))|exact a_ fin
theorem mF{c:List (b_×Obj)}{σ:St}{s:bx}{a:b_}{o:Option V}(I:Inv X c σ H s)(g:qD H a y o):s.TypeIs (.ref a) "dict":=by
 rcases g with⟨kvs,k,e,_,_⟩|⟨kvs,k,b,e,_,_,_⟩;.obtain⟨_,_,vs,_,dd⟩:=vg I.hok e;exact dd.typeIs
 .obtain⟨_,_,xs,_,dd⟩:=uc I.hok e;exact dd.typeIs
noncomputable def ab0(c ty:TE):TE:=λσ H Q=>c σ H λx e=>ty σ e λy b=>∃a v,x=.ref a/\qD b a y (ap v)/\Q v b
noncomputable def ag9(ty c:TE):TE:=λσ H Q=>ty σ H λy e=>c σ e λx b=>∃a o,x=.ref a/\qD b a y o/\Q (.bl o.isSome) b
noncomputable def Pu(ty c:TE):TE:=λσ H Q=>ty σ H λy e=>c σ e λx b=>∃a o,x=.ref a/\qD b a y o/\Q (.bl (!o.isSome)) b
noncomputable def abD(c ty e:TE):TS:=λD σ H=>e σ H λv f=>c σ f λx g=>ty σ g λy h=>∃a b,x=.ref a/\abj h a y v b/\D.nx σ b
section
variable{X:Cx}{o i e value:da}{pos pos' tpos:Pos}{td ty tv:TE}
theorem O8(c:X.A.units+1<fy)(ho:PE X o td)(hi:PE X i ty)(hs:Qn i):PE X (.Subscript o i pos) (ab0 td ty):=by intro b s σ H Q I h;refine Gm PySem.F.slot_dict_getitem.lookup hs (cN (ho b s σ H _ I h) λu s1⟨x,H1,I1,rx,q1⟩=>cN (hi b s1 σ H1 _ I1 q1) λiv s2⟨y,H2,I2,ry,a,v,ex,g,q2⟩=>?_);subst ex;obtain rfl:u=dq a:=rx;exact⟨mF I2 g,qK c I2 g ry λk s3 f j=>⟨v,H2,f,j,q2⟩⟩
theorem Xb(c:X.A.units+1<fy)(hi:PE X i ty)(ho:PE X o td):PC X .In i o (ag9 ty td):=by intro b s σ H Q I h;refine cN (hi b s σ H _ I h) λiv s1⟨y,H1,I1,ry,q1⟩=>cN (ho b s1 σ H1 _ I1 q1) λu s2⟨x,H2,I2,rx,a,ov,ex,g,q2⟩=>?_;subst ex;obtain rfl:u=dq a:=rx;exact aaO c I2 g ry λs3 f=>⟨.bl ov.isSome,H2,f,rfl,q2⟩
theorem Hm(c:X.A.units+1<fy)(hi:PE X i ty)(ho:PE X o td):PC X .NotIn i o (Pu ty td):=by intro b s σ H Q I h;refine cN (hi b s σ H _ I h) λiv s1⟨y,H1,I1,ry,q1⟩=>cN (ho b s1 σ H1 _ I1 q1) λu s2⟨x,H2,I2,rx,a,ov,ex,g,q2⟩=>?_;subst ex;obtain rfl:u=dq a:=rx;exact Ew c I2 g ry λs3 f=>⟨.bl (!ov.isSome),H2,f,rfl,q2⟩
theorem DY(c:X.A.units+1<fy)(ho:PE X o td)(hi:PE X i ty)(f:PE X value tv)(hs:eP value (ap (.Subscript o i pos')) pos.line X.env=eL av):PS X (.Assign [.Subscript o i pos'] value pos) (abD td ty tv):=by intro b s σ H D I h;refine wpAny_Assign_Subscript (cN (f b s σ H _ I h) λr s1⟨v,H1,I1,rv,q1⟩=>cN (ho b s1 σ H1 _ I1 q1) λu s2⟨x,H2,I2,rx,q2⟩=>cN (hi b s2 σ H2 _ I2 q2) λiv s3⟨y,H3,I3,ry,a,H4,ex,g,q3⟩=>?_) hs;subst ex;obtain rfl:u=dq a:=rx;exact GK c I3 g ry rv λs4 j=>⟨σ,H4,j,q3⟩
end
theorem Al{P:c_}(h:ef)(a:gL<h.objs.size):bT P w H (h.push {cls:=.type "dict",data:=.dict #[]}) h.objs.size (.dK []):=⟨xu,beq_eq_false_iff_ne.mpr (fk (dP a)),[],.nil,Heap.DictOf.new h⟩
noncomputable def Xu:TE:=λ_ H Q=>∀p,H p=none->Q (.ref p) (upd H p (.dK []))
section
variable{X:Cx}{pos:Pos}
theorem zY:PE X (.Dict [] [] pos) Xu:=λb s σ H Q I h=>wpAny_Dict_empty ⟨.ref s.heap.objs.size,_,I.laid (a:=s.heap.objs.size) (o:=.dK []) (t':=s.toks) (λ_ _ q=>iZ q) (eU) (Al s.heap I.big),rfl,h _ (I.hok.fresh (eU))⟩
end
noncomputable def Bp:List (TE×TE)->St->Hp->(List (V×V)->Hp->Prop)->Prop|[],_,H,Q=>Q [] H|(a,b)::r,σ,H,Q=>a σ H λx c=>b σ c λy e=>Bp r σ e λps f=>Q ((x,y)::ps) f
noncomputable abbrev VV:List (V×V)->List (bd×bd)->Prop:=Paired λp q=>RelV p.1 q.1/\RelV p.2 q.2
noncomputable def PPs(X:Cx)(pos:Pos)(keys:List (Option da))(a:List da)(c:List (TE×TE)):Prop:=∀(b:List (b_ × Obj))(s:bx)(σ:St)(H:Hp)(Q:List (V × V)->Hp->Prop),Inv X b σ H s->Bp c σ H Q->cH (cM X.prog X.w) X.A (evalPairs (pairTrees keys a X.env pos)) (λvs e=>∃ps H',Inv X b σ H' e/\VV ps vs/\Q ps H') X.xe s
theorem FJ:PPs X pos [] [] []:=λa s σ H Q I h=>pairTrees_nil_walk ⟨[],H,I,.nil,h⟩
theorem Ak{k v:da}{ks:List (Option da)}{vs:List da}{b c:TE}{e:List (TE×TE)}(f:PE X k b)(g:PE X v c)(hr:PPs X pos ks vs e):PPs X pos (ap k::ks) (v::vs) ((b,c)::e):=λa s σ H Q I h=>pairTrees_cons_walk (cN (f a s σ H _ I h) λu s1⟨x,H1,I1,rx,q1⟩=>cN (g a s1 σ H1 _ I1 q1) λi s2⟨y,H2,I2,ry,q2⟩=>cN (hr a s2 σ H2 _ I2 q2) λws s3⟨ps,H3,I3,rel,q3⟩=>⟨(x,y)::ps,H3,I3,.cons ⟨rx,ry⟩ rel,q3⟩)
noncomputable def qO(kvs more:List (Key×V)):List (Key×V):=more.foldl (λa b=>putK a b.1 b.2) kvs
theorem KV.merge:∀{more:List (Key×V)}{a:List (Key×bd)}{kvs:List (Key×V)}{vs:List (Key×bd)},KV more a->KV kvs vs->KV (qO kvs more) (merged vs a):=by intro more a kvs vs r;unfold KV at r;induction r generalizing kvs vs with|nil=>intro q;exact q|@cons p q ps c h t b=>
   intro r0;have e:KV (putK kvs p.1 p.2) (stored vs q.1 q.2):=by have:=r0.put p.1 h.2;rw[<-h.1];exact this
   exact b e
theorem oE:∀(more kvs:List (Key×V)),(qO kvs more).length<=kvs.length+more.length|[],kvs=>by show kvs.length<=kvs.length+0;lia|p::r,kvs=>by have h1:=oE r (putK kvs p.1 p.2);have a:=mj kvs p.1 p.2;show(qO (putK kvs p.1 p.2) r).length<=_;rw[eS];lia
theorem vh{P:c_}{w:eh}:∀{kvs:List (Key×V)}{ws:List (bd×bd)},VV (kvs.map λf=>(kV f.1,f.2)) ws->∃e,Carries (bI P w) ws e/\KV kvs e|[],_,r=>by rw[ms]at r;cases r;exact⟨[],ki,.nil⟩|p::kvs,_,r=>by rw[dQ]at r;cases r with|@cons a b as bs h t=>obtain⟨e,c,q⟩:=vh (P:=P) (w:=w) t;obtain⟨b1,b2⟩:=b;exact⟨(p.1,b2)::e,⟨uU h.1,rfl,c⟩,.cons ⟨rfl,h.2⟩ q⟩
noncomputable def abA(c:List (TE×TE)):TE:=λσ H Q=>∀p,H p=none->Bp c σ (upd H p (.dK [])) λps a=>a p=ap (.dK [])/\∃kvs:List (Key×V),ps=kvs.map (λb=>(kV b.1,b.2))/\kvs.length<=15/\Q (.ref p) (upd a p (.dK (qO [] kvs)))
theorem Fv{keys:List (Option da)}{b:List da}{j:List (TE×TE)}(h:PPs X pos keys b j)(f:keys.all (·.isSome)=bj)(l:keys.length=b.length)(h0:keys≠[])(i:keys.length<=15):PE X (.Dict keys b pos) (abA j):=by
 intro g s σ H Q I q;have m:=I.hok.fresh (le_refl s.heap.objs.size);have n:=I.laid (a:=s.heap.objs.size) (o:=.dK []) (h':=s.heap.push {cls:=.type "dict",data:=.dict #[]}) (t':=s.toks) (λ_ _ q=>iZ q) (eU) (Al s.heap I.big);refine wpAny_Dict_walk (knd:=bI X.prog X.w) f l h0 i (cN (h g _ σ _ _ n (q _ m)) λws s2⟨ps,H2,I2,rel,e,kvs,ep,lk,q2⟩=>?_);subst ep;obtain⟨p,c,r⟩:=vh (P:=X.prog) (w:=X.w) rel;obtain⟨z,hd,t,r0,dd⟩:=Th I2.hok e;cases r0;refine⟨p,c,dd,λh' k hs=>⟨.ref s.heap.objs.size,_,?_,rfl,q2⟩⟩;have hz:(qO [] kvs).length<=sizeLine:=by have h1:=oE kvs [];rw[length_nil]at h1;rw[eR];lia
 have he:∃q,h'.get? s.heap.objs.size=ap q:=let⟨q,_,_,hq,_⟩:=k;⟨q,hq⟩;exact yh I2 (by rw[e];exact ki) hs he (Kr hz hd (r.merge .nil) k)
structure M2(X:Cx)(o:da)(m:Str)(apos:Pos)(e f:da)(cpos:Pos):Prop where
 base:g_ o m X.env (eg o X.env)=eg o X.env
 few:((fS cpos (cj [e,f] X.env)).all (λx=>!x.1)&&(mA cpos (kf [] X.env)).all (λx=>x.1.isSome)&&decide (([e,f]:List da).length+([]:List iX).length+(if([]:List iX).isEmpty then 0 else 1)<30))=bj
 line:(apos.endLine==cpos.line)=bj
 trees:fS cpos (cj [e,f] X.env)=[(av,eg e X.env),(av,eg f X.env)]
noncomputable def IsD(H:Hp)(a:b_):Prop:=(∃kvs,Rd H a (.dK kvs))\/∃kvs,Rd H a (.dT kvs)
theorem Wf{f:List (b_×Obj)}{σ:St}{s:bx}{a:b_}(I:Inv X f σ H s)(d:IsD H a):s.TypeIs (.ref a) "dict"/\(∀b,dq a=.ref b->∃c,s.heap.get? b=ap c/\c.dict=none)/\(a==gL)=av:=by
 rcases d with⟨kvs,e⟩|⟨kvs,e⟩;.obtain⟨_,hd,vs,_,dd⟩:=vg I.hok e;refine⟨dd.typeIs,λb q=>?_,hd⟩;cases q;obtain⟨c,_,_,h1,g,_⟩:=dd;exact⟨c,h1,g.2.1⟩
 .obtain⟨_,hd,xs,_,dd⟩:=uc I.hok e;refine⟨dd.typeIs,λb q=>?_,hd⟩;cases q;obtain⟨c,_,_,h1,g,_⟩:=dd;exact⟨c,h1,g.2.1⟩
section
variable{X:Cx}{pins:List (b_×Obj)}{σ:St}{H:Hp}{s:bx}{a:b_}{y d:V}{u r:bd}{o:Option V}{A:et}{E:bd->bx->Prop}
theorem Wx(p:A.units+1<fy)(I:Inv X pins σ H s)(g:qD H a y o)(i:RelV y u)(j:RelV d r)(h:∀m n,Inv X pins σ H n->RelV (o.getD d) m->Q m n):cH (cM X.prog X.w) A (call (.builtin "dict.get") [.ref a,u,r]) Q E s:=by
 rcases g with⟨kvs,k,e,f,l⟩|⟨kvs,k,b,e,f,q,l⟩;.subst f;obtain⟨z,hd,vs,c,dd⟩:=vg I.hok e;refine pV slot_dict_get dd.typeIs PySem.F.entry_dict_get (PySem.F.args_dict_get_3 _ _ _) (meets_dict_get_default (bI X.prog X.w) a (uU i) hd r) ⟨_,dd.mapOf,h _ _ (I.tok _) ?_⟩;rw[l];exact(c.val k).getD j
 .subst f;cases(show u=dq b from i);obtain⟨z,hd,xs,c,dd⟩:=uc I.hok e;refine pV slot_dict_get dd.typeIs PySem.F.entry_dict_get (PySem.F.args_dict_get_3 _ _ _) (meetsH_dict_get_default (lF (bI X.prog X.w)) a b hd r) ⟨ic p,k,xs,qd I.hok q,dd,h _ _ (I.tok _) ?_⟩;rw[l];exact(c.val k).getD j
end
noncomputable def V7(e ty f:TE):TE:=λσ H Q=>e σ H λx b=>∃a,x=.ref a/\IsD b a/\ty σ b λy g=>f σ g λz c=>∃o,qD c a y o/\Q (o.getD z) c
section
variable{X:Cx}{o e f:da}{apos cpos:Pos}{td ty tx:TE}
theorem Kd(c:X.A.units+1<fy)(ho:PE X o td)(he:PE X e ty)(i:PE X f tx)(m:M2 X o "get" apos e f cpos):PE X (.Call (.Attribute o "get" apos) [e,f] [] cpos) (V7 td ty tx):=by intro b s σ H Q I h;refine wpAny_Call_method m.base m.few m.line PySem.F.plainAttrs_dict slot_dict_get PySem.F.type_dict_get (cN (ho b s σ H _ I h) λu s1⟨x,H1,I1,rx,a,ex,d,q1⟩=>?_);subst ex;obtain rfl:u=dq a:=rx;obtain⟨t1,t2,_⟩:=Wf I1 d;refine⟨t1,t2,?_⟩;rw[m.trees];refine kb rfl (kD (ib (cN (he b s1 σ H1 _ I1 q1) λiv s2⟨y,H2,I2,ry,q2⟩=>ib (cN (i b s2 σ H2 _ I2 q2) λl s3⟨z,H3,I3,rz,ov,g,q3⟩=>ji ?_))));exact Wx c I3 g ry rz λn s4 j k=>⟨_,H3,j,k,q3⟩
end
end _L
namespace _H
open PySem _L Spec PyProof.Rows
variable{kvs:List (Int×D)}{es:List (Key×V)}{k:Int}{i:Nat}
inductive KR(K:PySem.W.Frag)(F:Hp):List (Int×D)->List (Key×V)->Prop where|nil:KR K F [] []|cons{k:Int}{d:D}{v:V}{kvs:List (Int×D)}{es:List (Key×V)}(h:Rep K F v d)(t:KR K F kvs es):KR K F ((k,d)::kvs) ((dA k,v)::es)
section
variable{K:PySem.W.Frag}{F F':Hp}
noncomputable def ent(ks:List Int)(vs:List V):List (Key×V):=(ks.zip vs).map λp=>(dA p.1,p.2)
theorem KR.of:∀{kvs:List (Int×D)}{vs:List V},aN K F vs (kvs.map (·.2))->KR K F kvs (ent (kvs.map (·.1)) vs)|[],vs,h=>by rw[ms]at h;rw[h.iY];exact .nil|(k,d)::kvs,vs,h=>by obtain⟨v,r,rfl,h1,a⟩:=h.dB;exact .cons h1 (KR.of a)
theorem KR.to(h:KR K F kvs es):∃vs,es=ent (kvs.map (·.1)) vs/\aN K F vs (kvs.map (·.2)):=by induction h with|nil=>exact⟨[],rfl,.nil⟩|@cons k d v kvs es h t a=>obtain⟨vs,rfl,r⟩:=a;exact⟨v::vs,rfl,.cons h r⟩
theorem KR.oc(h:KR K F kvs es):oA K F (.dK es) (.v kvs):=by obtain⟨vs,rfl,r⟩:=h.to;exact⟨vs,rfl,r⟩
theorem KR.Ur{o:HO}(h:oA K F o (.v kvs)):∃es,o=.dK es/\KR K F kvs es:=by obtain⟨vs,rfl,r⟩:=h;exact⟨_,rfl,.of r⟩
theorem KR.len(h:KR K F kvs es):es.length=kvs.length:=by induction h with|nil=>rfl|cons h t a=>simp[a]
theorem KR.get{d:D}(h:KR K F kvs es)(e:qu kvs k=ap d):∃v,lQ es (dA k:Key)=ap v/\Rep K F v d:=by induction h with|nil=>cases e|@cons j d' v kvs es h t a=>
   unfold qu at e a;rw[hV]at e;by_cases c:j=k;.simp[c]at e;subst e;exact⟨v,pD (by rw[c]),h⟩
   .simp[c]at e;obtain⟨b,h1,f⟩:=a (by simpa using e);exact⟨b,by rw[pX (by simpa using c)];exact h1,f⟩
theorem KR.any{kvs:List (Int×D)}{es:List (Key×V)}(k:Int)(h:KR K F kvs es):(es.any λa=>decide (a.1=(dA k:Key)))=kvs.any λp=>decide (p.1=k):=by induction h with|nil=>rfl|cons h t b=>simp[b]
theorem KR.has(k:Int)(h:KR K F kvs es):(lQ es (dA k:Key)).isSome=(kvs.map (·.1)).contains k:=by rw[<-uJ,h.any k];induction h with|nil=>rfl|@cons j d v kvs es h t a=>rw[mB,a,dQ,List.contains_cons];congr 1;exact Bool.eq_iff_iff.mpr ⟨λz=>by simp at z ⊢;exact z.symm,λz=>by simp at z ⊢;exact z.symm⟩
theorem KR.repl{d:D}{v:V}(r:Rep K F v d)(h:KR K F kvs es):KR K F (kvs.map λp=>if p.1=k then(p.1,d)else p) (es.map λa=>if a.1=(dA k:Key)then(a.1,v)else a):=by induction h with|nil=>exact .nil|@cons j d' e kvs es h t b=>
   by_cases c:j=k;.subst c;simp;exact .cons r b
   . have:¬(dA j:Key)=dA k:=by simpa using c
     simp[c,this];exact .cons h b
theorem KR.snoc{d:D}{v:V}(r:Rep K F v d)(h:KR K F kvs es):KR K F (kvs++[(k,d)]) (es++[(dA k,v)]):=by induction h with|nil=>exact .cons r .nil|cons h t a=>exact .cons h a
theorem KR.put{d:D}{v:V}(r:Rep K F v d)(h:KR K F kvs es):KR K F (jF kvs k d) (putK es (dA k:Key) v):=by
 unfold jF putK;rw[h.any k];split;.exact h.repl r
 .exact h.snoc r
theorem KR.zip{ks:List Int}{a:List D}{vs:List V}(h:aN K F vs a)(b:ks.length=a.length):KR K F (ks.zip a) (ent ks vs):=by induction a generalizing ks vs with
 |nil=>rw[h.iY];cases ks with|nil=>exact .nil|cons _ _=>simp at b
 |cons d a c=>obtain⟨v,r,rfl,h1,e⟩:=h.dB;cases ks with|nil=>simp at b|cons k ks=>exact .cons h1 (c e (by simpa using b))
end
section
variable{K:PySem.W.Frag}{F F1 H H1:Hp}{ρ ρ1 ρ2:List Sl}{σ σ1:_L.St}
theorem GS.agB{x:Nat}{m r:Dc}{a:b_}(g:GS K F ρ σ H)(e:ρ[x]?=ap (.jE m))(s:σ[x]?=ap (ap (.ref a))):aL K F ρ σ H F (ρ.set x (.jE r)) σ (upd H a r.ho):=by
 have hi:x<ρ.length:=(gh e).1;have w:bB ρ σ x a:=⟨⟨_,_,e,rfl⟩,s⟩;obtain⟨J,L,h1,M,y,N⟩:=g.own x _ _ e rfl;rw[s]at h1;cases h1;have f:∀{j:Nat}{c:b_},bB (ρ.set x (.jE r)) σ j c->bB ρ σ j c:=λ{j c}⟨⟨t,h,p,u⟩,q3⟩=>by
  by_cases b:j=x;.subst b;exact⟨⟨_,_,e,rfl⟩,q3⟩
  .rw[gM b]at p;exact⟨⟨t,h,p,u⟩,q3⟩
 refine⟨⟨λc o q=>?_,by simp[g.len],λj A d q=>?_,λj t h q v=>?_,λj k c p u=>g.dis j k c (f p) (f u)⟩,.refl _,λc n B=>absurd n B,λc o q n=>?_,λc⟨j,q⟩=>.inl ⟨j,f q⟩,by simp,λj t q l=>⟨rfl,?_⟩⟩
 . have:c≠a:=by rintro rfl;rw[y]at q;cases q
   rw[aH this];exact g.sub c o q
 . by_cases b:j=x;.subst b;rw[ce hi]at q;cases q
   .rw[gM b]at q;exact g.val j A d q
 . by_cases b:j=x;.subst b;rw[ce hi]at q;cases q;cases v;exact⟨a,_,s,aP,y,rfl⟩
   . rw[gM b]at q;obtain⟨c,C,z,E,G,I⟩:=g.own j t h q v;have:c≠a:=by rintro rfl;exact b (g.dis j x c ⟨⟨t,h,q,v⟩,z⟩ w)
     exact⟨c,C,z,by rw[aH this];exact E,G,I⟩
 . have:c≠a:=by rintro rfl;exact n ⟨x,w⟩
   rw[aH this];exact q
 . by_cases b:j=x;.subst b;rw[e]at q;cases q;cases l
   .exact⟨t,by rw[gM b];exact q,.refl t⟩
theorem GS.newD{m:Dc}{a:b_}(g:GS K F ρ σ H)(e:ρ[i]?=ap .aW)(r:H a=none):aL K F ρ σ H F (ρ.set i (.jE m)) (σ.set i (ap (.ref a))) (upd H a m.ho):=by
 have hi:i<ρ.length:=(gh e).1;have s:i<σ.length:=by rw[<-g.len];exact hi
 have w:F a=none:=by cases q:F a with|none=>rfl|some o=>rw[g.sub a o q]at r;cases r
 have f:∀{j:Nat}{c:b_},j≠i->bB (ρ.set i (.jE m)) (σ.set i (ap (.ref a))) j c->bB ρ σ j c:=λ{j c}b⟨⟨t,ds,e1,e2⟩,e3⟩=>by rw[gM b]at e1 e3;exact⟨⟨t,ds,e1,e2⟩,e3⟩
 have new:∀{c:b_},bB (ρ.set i (.jE m)) (σ.set i (ap (.ref a))) i c->c=a:=λ{c}⟨_,e3⟩=>by rw[ce s]at e3;cases e3;rfl
 have x:∀{j:Nat},¬ bB ρ σ j a:=λ{j}⟨⟨t,ds,e1,e2⟩,e3⟩=>by obtain⟨c,o,h,p,_⟩:=g.own j t ds e1 e2;rw[e3]at h;cases h;rw[r]at p;cases p
 refine⟨⟨λc o q=>?_,by simp[g.len],λj z d q=>?_,λj t A q y=>?_,λj k c h p=>?_⟩,.refl _,λc n B=>absurd n B,λc o q n=>?_,λc⟨j,q⟩=>?_,by simp,λj t q l=>?_⟩
 . have:c≠a:=by rintro rfl;rw[w]at q;cases q
   rw[aH this];exact g.sub c o q
 . by_cases b:j=i;.subst b;rw[ce hi]at q;cases q
   .rw[gM b]at q ⊢;exact g.val j z d q
 . by_cases b:j=i;.subst b;rw[ce hi]at q;cases q;cases y;exact⟨a,_,ce s,aP,w,rfl⟩
   . rw[gM b]at q ⊢;obtain⟨c,o,C,v,E,G⟩:=g.own j t A q y;have:c≠a:=by rintro rfl;rw[r]at v;cases v
     exact⟨c,o,C,by rw[aH this];exact v,E,G⟩
 . by_cases b:j=i
   . by_cases u:k=i;.rw[b,u]
     .subst b;rw[new h]at p;exact absurd (f u p) x
   . by_cases u:k=i;.subst u;rw[new p]at h;exact absurd (f b h) x
     .exact g.dis j k c (f b h) (f u p)
 . have:c≠a:=by rintro rfl;rw[r]at q;cases q
   rw[aH this];exact q
 . by_cases b:j=i;.subst b;rw[new q];exact .inr r
   .exact .inl ⟨j,f b q⟩
 . have b:j≠i:=by rintro rfl;rw[e]at q;cases q;cases l
   exact⟨by rw[gM b],t,by rw[gM b];exact q,.refl t⟩
end
noncomputable def vV(p:Int×Int):Key×V:=(dA p.1,V.int p.2)
theorem JN(i:Int):∀kvs:List (Int×Int),lQ (kvs.map vV) (dA i:Key)=((kvs.find? λb=>decide (b.1=i)).map (·.2)).map V.int
 |[]=>rfl|p::kvs=>by
   have a:=JN i kvs;unfold lQ at a ⊢;rw[dQ,hV,hV];by_cases h:p.1=i
   . have e:decide ((vV p).1=(dA i:Key))=bj:=by simp[vV,h]
     rw[e];simp[h,vV]
   . have e:decide ((vV p).1=(dA i:Key))=av:=by simp[vV,h]
     rw[e];simp only[h,decide_false];exact a
theorem Vp(i v:Int)(kvs:List (Int×Int)):putK (kvs.map vV) (dA i:Key) (V.int v)=(putD kvs i v).map vV:=by
 have e:((kvs.map vV).any λa=>decide (a.1=(dA i:Key)))=kvs.any λa=>decide (a.1=i):=by rw[List.any_map];congr 1;funext p;simp[vV]
 unfold putK putD;rw[e];split
 . rw[fe,fe];refine hU λp _=>?_;by_cases h:p.1=i;.simp[vV,h]
   .simp[vV,h]
 .rw[kQ];rfl
section
variable{X:Cx}{c:Call}{n:Nat}{a b e:da}{pa pb p:P}{pos:Pos}
theorem Mv{H:Hp}{q:b_}{m:Dc}{i:Int}{o:Option Int}(h:Rd H q m.ho)(e:m.get (.int i)=ap o):qD H q (.int i) (o.map V.int):=by cases m with|k kvs=>cases e;exact .inl ⟨kvs.map vV,dA i,h,rfl,(JN i kvs).symm⟩|t kvs=>cases e
theorem sH(hu:X.A.units+8<fy)(N:SX X c a pa)(O:SX X c b pb)(hs:Qn b):SX X c (.Subscript a b pos) (.bin .Dp pa pb):=by refine yN (f:=Fx) (λh1 U=>?_) N O (λρ=>rfl) rfl;intro l s σ H Q I h;refine Gm PySem.F.slot_dict_getitem.lookup hs (cN (h1 l s σ H _ I h) λu s1⟨x,H1,I1,rx,q1⟩=>cN (U l s1 σ H1 _ I1 q1) λiv s2⟨y,H2,I2,ry,q2⟩=>?_);obtain⟨F,d,e,r,w,J,L,he,k⟩:=q2;cases d with
 |fZ m=>have W:=dj (show(m.get e).bind (λo=>o.map λv=>R.val (.int v))=ap r from he);clear he;obtain⟨o,z,he⟩:=W;cases o with|none=>cases he|some v=>
     cases he;obtain⟨i,rfl⟩:∃i,e=.int i:=by cases m with|t kvs=>cases e<;>cases z|k kvs=>cases e<;>first|exact⟨_,rfl⟩|cases z
     obtain⟨q,B,rfl,C⟩:=J.fZ w;rw[L.int]at ry;obtain rfl:u=dq q:=rx;have g:=Mv (.inr ⟨B,C⟩) z;exact⟨mF I2 g,qK (by lia) I2 g ry λY s3 E G=>⟨.int v,H2,E,G,dg.fK w (cL _) k⟩⟩
 |dv ks Z=>cases e with|int j=>obtain⟨d',e5,he⟩:=map_some (show(qu (ks.zip Z) j).map R.val=ap r from he);subst he;obtain⟨q,B,vs,rfl,C,rs,hl⟩:=J.dv w;obtain⟨M,g1,g2⟩:=(KR.zip rs hl).get e5;rw[L.int]at ry;obtain rfl:u=dq q:=rx;have g:qD H2 q (.int j) (ap M):=.inl ⟨_,dA j,.inr ⟨B,C⟩,rfl,g1.symm⟩;exact⟨mF I2 g,qK (by lia) I2 g ry λY s3 E G=>⟨M,H2,E,G,dg.fK w g2 k⟩⟩|_=>cases he
 |_=>cases he
theorem O6{x:Str}{f p2:Pos}(h:X.N.Nodup)(hi:X.N[i]?=ap x)(j:Loc X.env.scope x)(hs:eP (.Dict [] [] p2) (ap (.Name x f)) pos.line X.env=eL av:=by rfl)(l:X.fn x=bj\/X.env.scope.names.lookup x=ap .local:=by first|(left;rfl)|(right;rfl)|assumption):SS X c n (.Assign [.Name x f] (.Dict [] [] p2) pos) (.Nu i av):=by
 refine cU (jX h hi j zY hs l) ?_;rintro D σ H⟨F,ρ,s,o,g,e,k⟩;rw[_H.X18]at e;split at e;.rename_i q;cases e;exact λa r=>k F _ _ (g.newD (m:=.k []) q r)
 .cases e
theorem Xl{x:Str}{B f cpos:Pos}{pk C:P}(hu:X.A.units+8<fy)(W:X.N[i]?=ap x)(Y:vR X.env.scope x)(Z:SX X c a pk)(hb:SX X c b C)(m:M2 X (.Name x B) "get" f a b cpos)(hd:(x==("__debug__":Str))=av:=by decide)(s:(x==("__classdict__":Str))=av:=by decide):SX X c (.Call (.Attribute (.Name x B) "get" f) [a,b] [] cpos) (.Z3 i pk C):=by
 obtain⟨ta,h1,h2⟩:=Z.dG;obtain⟨tb,h3,h4⟩:=hb.dG;refine⟨dh (Kd (by lia) (gb W Y hd s) h1 h3 m) ?_,λi h=>by cases h⟩;rintro σ H Q⟨F,ρ,r,ac,g,e,k⟩;rw[_H.E24]at e;split at e
 . rename_i m0 q;obtain⟨u,ae,e1,E⟩:=aj e;clear e;obtain⟨dd,af,e2,l⟩:=aj E;clear E;obtain⟨G,o0,I,J,w3,w4⟩:=g.own i _ _ q rfl;refine⟨.ref G,I,G,rfl,?_,?_⟩;.cases(show o0=m0.ho from w4);cases m0 with|k kvs=>exact .inl ⟨_,.inl J⟩|t kvs=>exact .inr ⟨_,.inl J⟩
   . refine h2 g e1 λv F1 H1 s1 pv=>h4 s1.gs e2 λz L H2 s2 M=>?_;split at l
     . rename_i m1 q1;obtain⟨O,e3⟩:=aF l;clear l;subst e3;obtain⟨o,y,eD⟩:=dj O;clear O;obtain⟨w,e5,e6⟩:=map_some eD;subst e6;obtain⟨a1,o1,U,y2,y3,y4⟩:=s2.gs.own i _ _ q1 rfl;rw[I]at U;cases U;cases(show o1=m1.ho from y4);obtain⟨j,rfl⟩:∃j,u=.int j:=by cases m1 with|t kvs=>cases u<;>cases y|k kvs=>cases u<;>first|exact⟨_,rfl⟩|cases y
       rw[dZ e5]at M;rw[pv.int,M.int];refine⟨o.map V.int,Mv (.inl y2) y,?_⟩;have:(o.map V.int).getD (V.int w)=V.int (o.getD w):=by cases o<;>rfl
       rw[this];exact k _ L H2 (s1.trans s2) (show Rep X.K L _ _ from cL _)
     .cases l
 .cases e
theorem Rv{x:Str}{C f:Pos}{pk:P}(hu:X.A.units+8<fy)(J:X.N[i]?=ap x)(L:vR X.env.scope x)(M:SX X c a pk)(he:SX X c e p)(hs:eP e (ap (.Subscript (.Name x C) a f)) pos.line X.env=eL av:=by rfl)(hd:(x==("__debug__":Str))=av:=by decide)(s:(x==("__classdict__":Str))=av:=by decide):SS X c n (.Assign [.Subscript (.Name x C) a f] e pos) (.dput i pk p):=by
 obtain⟨ta,h1,O⟩:=M.dG;refine cU (DY (by lia) (gb J L hd s) h1 he.ev hs) ?_;rintro D σ H⟨F,ρ,fl,Q,g,e,k⟩;rw[_H.X19]at e;obtain⟨r,u,U,o⟩:=aj e;clear e;refine⟨F,ρ,r,u,g,U,λv F1 H1 s1 W=>?_⟩;split at o
 . rename_i m0 Y;obtain⟨E,Z,e2,h⟩:=aj o;clear o;obtain⟨z,o0,B,w2,w3,w4⟩:=s1.gs.own i _ _ Y rfl;refine⟨.ref z,B,O s1.gs e2 λy F2 H2 s2 py=>?_⟩;split at h
   . rename_i m w q;split at h;.rename_i G l;cases h;obtain⟨a1,o1,I,y2,y3,y4⟩:=s2.gs.own i _ _ q rfl;rw[B]at I;cases I;cases(show o1=m.ho from y4);cases(show v=.int w by have:Rep X.K F1 v (.int w):=W;rwa[Rep]at this);refine⟨z,upd H2 z G.ho,rfl,?_,k F2 σ _ ((s1.trans s2).trans (s2.gs.agB q B))⟩;cases m with|t kvs=>cases E<;>cases l|k kvs=>cases E with|int j=>obtain⟨hl,l⟩:=bU (show(if kvs.length<lim then ap (Dc.k (putD kvs j w))else none)=ap G from l);subst l;rw[py.int];refine .inl ⟨kvs.map vV,dA j,y2,rfl,by rw[dV,eR];exact hl,?_⟩;rw[Vp];rfl|_=>cases l
     .cases h
   .cases h
 .cases o
end
end _H
namespace _L
open PySem Spec PyProof.Rows
noncomputable def Itk(a:b_)(b:Obj)(kvs:List (Key×V)):It:=⟨λi H=>H a=ap (.eN b (.dK kvs))/\i<kvs.length,λi H x H'=>H'=H/\∃p,kvs[i]?=ap p/\x=kV p.1,λi H=>H a=ap (.eN b (.dK kvs))/\kvs.length<=i⟩
theorem KV.get:∀{κ:Type}{kvs:List (κ×V)}{vs:List (κ×bd)}{i:Nat}{p:κ×V},KV kvs vs->kvs[i]?=ap p->∃v,vs[i]?=ap (p.1,v)|_,_,_,_,_,.nil,e=>by simp at e|_,_,_,0,_,.cons r _,e=>by simp at e;subst e;exact⟨_,by rw[List.getElem?_cons_zero,r.1]⟩|_,_,_,i+1,p,.cons _ t,e=>by obtain⟨v,h⟩:=KV.get (i:=i) (p:=p) t (by simpa using e);exact⟨v,by simpa using h⟩
theorem wg{X:Cx}{b:List (b_×Obj)}{σ:St}{H:Hp}{s:bx}{a:b_}{c:Obj}{kvs:List (Key×V)}{es:Array DictEntry}{ep:Nat}(I:Inv X b σ H s)(h:H a=ap (.eN c (.dK kvs)))(hd:c.data=.dict es ep):(a==gL)=av/\∃vs,KV kvs vs/\s.heap.DictAt (bI X.prog X.w) a vs ep:=by obtain⟨ho,hz,f,vs,r,dd⟩:=(show bT X.prog X.w H s.heap a (.eN c (.dK kvs))from I.hok a _ h);obtain⟨o,g,i,h1,j,e,k⟩:=dd;rw[ho]at h1;cases h1;rw[hd]at e;cases e;exact⟨f,vs,r,⟨c,es,ho,j,hd,k⟩⟩
theorem Wq{P:c_}{w:eh}{k:Key}{u:bd}(h:(bI P w).is k u=bj):RelV (kV k) u:=by
 rcases bY h with⟨i,t,rfl,rfl⟩|⟨x,t,rfl,rfl⟩;.exact⟨t,rfl⟩
 .exact⟨t,rfl⟩
theorem Hh{P:c_}{w:eh}{K:PySem.W.Frag}{B:da}(a it:b_)(y:Obj)(kvs:List (Key×V))(es:Array DictEntry)(ep:Nat)(hd:y.data=.dict es ep):Turn P w K B (Itk a y kvs) [it] it (λi h=>h.IsKeyIter it a i kvs.length ep)where
 mem:=by simp
 obj:=λi h st b g=>by
  have e:b=it:=by simpa using g
  subst e;obtain⟨o,e,c,d⟩:=st;exact⟨o,e,λv z=>by rw[d]at z;cases z⟩
 keep:=λi h h' st k=>st.at λo e=>k it (by simp) o e;item:=by intro X n p q hc i f s σ H E I m st t;subst n p q;obtain⟨x,hi⟩:=t;obtain⟨C,vs,r,dd⟩:=wg I x hd;have l:vs.length=kvs.length:=(Paired.length r).symm;obtain⟨v,G⟩:=KV.get r (show kvs[i]?=ap kvs[i]by simp[hi]);obtain⟨f0,f1,f2,f3,f4,f5⟩:=m it (by simp);refine wpAny_pyNext_dict_item (by rw[l];exact st) dd G λu h' J j L=>?_;have M:Inv X f σ H {s with heap:=h'}:=I.turned (t':=s.toks) (λb o g e=>(L.2 b g).trans e) f0 f1 f3 f4 f5;rw[l]at j;obtain⟨o,e,c,d⟩:=id j;exact⟨u,rfl,Gg (s:={s with heap:=h'}) e c d (by decide) ⟨_,H,M,Wq J,⟨rfl,_,by simp[hi],rfl⟩,j,λb g=>(m b g).1⟩⟩
 done:=by intro X n p q hc i f s σ H E I m st t;subst n p q;obtain⟨x,hi⟩:=t;obtain⟨C,vs,r,dd⟩:=wg I x hd;have l:vs.length=kvs.length:=(Paired.length r).symm;obtain⟨f0,f1,f2,f3,f4,f5⟩:=m it (by simp);refine wpAny_pyNext_dict_end (I.ok.hd hc) (by rw[l];exact st) dd (by simp[l,hi]) λh' he=>⟨rfl,?_⟩;exact I.turned (t':=s.toks) (λb o g e=>he b o g e) f0 f1 f3 f4 f5
 self:=λA i s Q E st N=>wpAny_pyIter_keyiter st N
section
variable{X:Cx}{tg:da}
theorem QF{l:da}{k:TE}(n:PE X l k):PI X tg l (λσ H R=>k σ H λx f=>∃a c kvs,x=.ref a/\f a=ap (.eN c (.dK kvs))/\R (Itk a c kvs) f):=by
 intro g s σ H R I h;refine cN (n g s σ H _ I h) ?_;rintro v s1⟨x,f,j,r1,a,c,kvs,e,p,q⟩;subst e;cases r1;obtain⟨ho,hz,t,vs,r,dd⟩:=(show bT X.prog X.w f s1.heap a (.eN c (.dK kvs))from j.hok a _ p);obtain⟨o,es,ep,h1,u,m,y⟩:=id dd;rw[ho]at h1;cases h1;have i:vs.length=kvs.length:=(Paired.length r).symm;refine wpAny_pyIter_dict (knd:=bI X.prog X.w) (kvs:=vs) (ep:=ep) t ⟨c,es,ho,u,m,y⟩ ?_;refine⟨s1.heap.objs.size,[s1.heap.objs.size],_,_,f,rfl,j.kept (t':=s1.toks) λb o e=>iZ e,Hh a _ c kvs es ep m,⟨_,dl _ rfl,rfl,by rw[i];rfl⟩,λb z=>?_,q⟩;have e:b=s1.heap.objs.size:=by simpa using z
 subst e;exact j.BJ (eU) (j.hok.fresh (eU))
end
end _L
namespace _H
open PySem _L Spec PyProof.Rows
section
variable{X:Cx}{c:Call}{tg e:da}{p:P}
theorem Rf{ks:List Int}{es:List (Key×V)}{j:Nat}{p:Key×V}{i:Int}(h:es.map (·.1)=ks.map (dA:Int->Key))(a:es[j]?=ap p)(b:ks[j]?=ap i):p.1=dA i:=by
 have:(es.map (·.1))[j]?=(ks.map (dA:Int->Key))[j]?:=by rw[h]
 rw[eW,eW,a,b]at this;exact ey this
theorem uC:∀{ks:List Int}{vs:List V},ks.length=vs.length->(ent ks vs).map (·.1)=ks.map (dA:Int->Key)|[],[],_=>rfl|k::ks,v::vs,h=>by have:=uC (ks:=ks) (vs:=vs) (by simpa using h);unfold ent at this ⊢;simpa using this|[],_::_,h=>by simp at h|_::_,[],h=>by simp at h
theorem Qc(h:SX X c e p):SI X c tg e (.blt .keys [p]):=by
 unfold SI;obtain⟨ta,h1,W⟩:=h.dG;refine n6 (QF h1) ?_;rintro σ H R⟨F,ρ,A,B,g,Y,k⟩;obtain⟨r,o,I,Z⟩:=aj (show((_H.ev c (.blt .keys [p]) ρ).bind λr ρ=>lift (items r.d) ρ)=.ok A B from Y);obtain⟨J,e3⟩:=aF Z;subst e3;rw[_H.E17]at I;obtain⟨d,ac,e1,eE⟩:=aj I;obtain⟨y,e4⟩:=aF eE;subst e4;refine W g e1 λv F' H' s L=>?_;have hd:∃(ks:List Int)(es:List (Key×V))(a:b_)(b:Obj),A=ks.map D.int/\v=.ref a/\H' a=ap (.eN b (.dK es))/\es.map (·.1)=ks.map (dA:Int->Key):=by cases d with
  |fZ m=>cases m with|k kvs=>cases y;cases J;obtain⟨a,b,rfl,f⟩:=L.fZ s.gs.sub;exact⟨kvs.map (·.1),kvs.map vV,a,b,by rw[fe];rfl,rfl,f,by rw[fe,fe];rfl⟩|t kvs=>cases y
  |dv ks ae=>cases y;cases J;obtain⟨a,b,vs,rfl,f,rs,hl⟩:=L.dv s.gs.sub;exact⟨ks,ent ks vs,a,b,rfl,rfl,f,uC (by rw[rs.length];exact hl)⟩|_=>cases y
 obtain⟨ks,es,a,b,rfl,rfl,f,u⟩:=hd;have C:es.length=ks.length:=by have:=congrArg kG u;simpa using this
 refine⟨a,b,es,rfl,f,k _ F' H' ⟨s.gs,λn j M o E H2 s2=>?_,λM o E H2 s2=>⟨s.trans s2,λv r rr=>rr.later s⟩⟩⟩;have gm:=s.gs.more (n:=n) (τ:=cp n none) (by simp);have w:=s2.keep a _ f λ⟨j,⟨t,N,q1,q2⟩,q3⟩=>by obtain⟨a',o',O,Q,z3,G⟩:=gm.own j t N q1 q2;rw[q3]at O;cases O;rw[f]at Q;cases Q;cases N with|l A=>obtain⟨xs,z,_⟩:=G;cases z|d m=>cases m<;>cases G|v kvs=>obtain⟨xs,z,_⟩:=G;cases z
 refine⟨λd hd=>?_,λU=>⟨w,by rw[C];simpa using U⟩⟩;have U:j<ks.length:=by have:=(gh hd).1;simpa using this
 refine⟨⟨w,by lia⟩,λx nY⟨e5,q,e6,e7⟩=>?_⟩;subst e5;refine⟨M,.refl s2.gs.sub,?_⟩;rw[eW]at hd;obtain⟨i,e8,e9⟩:=map_some hd;rw[e7,Rf u e6 e8,<-e9];exact cL _
end
end _H
namespace _H
open PySem _L Spec PyProof.Rows Calls W
section
variable{X:Cx}{c:Call}{a:da}{pa:P}{pos:Pos}
theorem pN:∀{ns:List Int}{b:List bd},gl b ns->Vals (ns.map V.int) b|_,_,.nil=>.nil|_,_,.cons n t r=>.cons ⟨t,rfl⟩ (pN r)
theorem xm{K:PySem.W.Frag}{F:Hp}:∀ns:List Int,aN K F (ns.map V.int) (ns.map D.int)|[]=>.nil|n::ns=>.cons (cL n) (xm ns)
end
end _H
namespace _H
open PySem _L Spec PyProof.Rows
theorem Inv.aeY{X:Cx}{c:List (b_×Obj)}{σ:_L.St}{H:Hp}{s:bx}{a:b_}{kvs:List (List Key×V)}(I:_L.Inv X c σ H s)(h:H a=ap (.dT kvs)):∃o,_L.Inv X c σ (upd H a (.eN o (.dT kvs))) s:=by obtain⟨z,y,xs,r,o,es,ep,h1,f,g,i,j⟩:=(show bT X.prog X.w H s.heap a (.dT kvs)from I.hok a _ h);refine⟨o,I.write (h':=s.heap) (t':=s.toks) (by rw[h];exact trivial) (.inl rfl) (λb u _ e=>e) ⟨o,h1⟩ ⟨h1,z,y,xs,KT.keeps r λb ys q=>?_,o,es,ep,h1,f,g,i,j⟩⟩;rw[aH (by rintro rfl;rw[h]at q;cases q)];exact q
section
variable{X:Cx}{c:Call}{n:Nat}{a b e:da}{p pa pb:P}{pos:Pos}{es:List da}{ps:List P}{x1:Nat}{tpos:Pos}
theorem mJ{i:Nat}{x:Str}{z:Pos}(A:X.N[i]?=ap x)(B:vR X.env.scope x)(hd:(x==("__debug__":Str))=av:=by decide)(w:(x==("__classdict__":Str))=av:=by decide):SX X c (.Name x z) (.vw i):=by
 have h:=gb (X:=X) (pos:=z) A B hd w;refine⟨?_,λi h=>by cases h⟩;rintro f s σ H Q I⟨F,ρ,r,C,g,e,k⟩;rw[_H.E25]at e;split at e
 . rename_i m q;cases e;obtain⟨a,h1,j,l⟩:=g.Gv q;refine cN (h f s σ H (λv H'=>v=.ref a/\H'=H) I ⟨.ref a,h1,rfl,rfl⟩) λu s1⟨v,H1,I1,r1,e1,e2⟩=>?_;subst e1 e2;have E:∃o,_L.Inv X f σ (upd H1 a (.eN o m.ho)) s1:=by cases m with|k kvs=>exact Inv.Mp I1 j|t kvs=>exact Inv.aeY I1 j
   obtain⟨o,y⟩:=E;exact⟨.ref a,_,y,r1,k _ _ _ (l o).1 (l o).2⟩
 .rename_i kvs q;cases e;obtain⟨a,vs,h1,j,l⟩:=g.Ec q;refine cN (h f s σ H (λv H'=>v=.ref a/\H'=H) I ⟨.ref a,h1,rfl,rfl⟩) λu s1⟨v,H1,I1,r1,e1,e2⟩=>?_;subst e1 e2;obtain⟨o,y⟩:=Inv.Mp I1 j;exact⟨.ref a,_,y,r1,k _ _ _ (l o).1 (l o).2⟩
 .rename_i b G q;cases e;obtain⟨v,F',h1,j,l⟩:=g.freeze q;exact h f s σ H Q I ⟨v,h1,k v F' H j l⟩
 .rename_i b d q;cases e;obtain⟨v,h1,j⟩:=g.val i b d q;exact h f s σ H Q I ⟨v,h1,k v F H (.refl g) j⟩
 .cases e
end
end _H
namespace _H
open PySem _L Spec PyProof.Rows
section
variable{K:PySem.W.Frag}{F H F' H':Hp}{ρ ρ':List Sl}{σ σ':_L.St}
noncomputable def Kp(ρ:List Sl)(σ:_L.St)(H:Hp)(a:b_)(o:HO):Prop:=H a=ap o/\¬ Own ρ σ a
theorem Kp.stp{a:b_}{o:HO}(h:Kp ρ σ H a o)(s:aL K F ρ σ H F' ρ' σ' H'):Kp ρ' σ' H' a o:=⟨s.keep a o h.1 h.2,λz=>(s.yS a z).elim h.2 λe=>by rw[h.1]at e;cases e⟩
structure Wt(K:PySem.W.Frag)(F:Hp)(ρ:List Sl)(σ:_L.St)(H:Hp)(a:b_)(ds:List D):Prop where
 ex:∃xs,Kp ρ σ H a (.lst xs)/\aN K F xs ds
 fr:F a=none
theorem Wt.stp{a:b_}{b:List D}(h:Wt K F ρ σ H a b)(s:aL K F ρ σ H F' ρ' σ' H'):Wt K F' ρ' σ' H' a b:=by obtain⟨⟨xs,h1,c⟩,e⟩:=h;refine⟨⟨xs,h1.stp s,c.mono s.cG⟩,?_⟩;cases q:F' a with|none=>rfl|some o=>
   rcases s.yR a e (by rw[q];simp)with z|z;.exact absurd z h1.2
   .rw[h1.1]at z;cases z
end
end _H
namespace _H
open PySem _L Spec PyProof.Rows
section
variable{X:Cx}{c:Call}{n:Nat}{e a b d elt tg:da}{p pa pb pe:P}{pos:Pos}{elts:List da}{x1:Nat}{tp:Pos}
noncomputable def Vv(K:PySem.W.Frag)(i:Nat)(f:Ev):TI:=λσ H R=>∃F ρ j g h,GS K F ρ σ H/\Jw i f ρ=.ok (j,g) h/\∀J F1 k,Walk K F ρ σ H (bz g (ap i)) J j F1 h k->R J k
theorem jH{x:Str}{p':Pos}{i:Nat}(hx:x="zip")(hg:Gl X x)(hm:X.mg x=none)(hv:isVar pb=ap i)(ha:SX X c a pa)(hb:SX X c b pb)(hs:cj [a,b] X.env=[(av,eg a X.env),(av,eg b X.env)]:=by rfl)(j:cj [b] X.env=[(av,eg b X.env)]:=by rfl):PI X (.Tuple elts x1 tp) (.Call (.Name x p') [a,b] [] pos) (Vv X.K i (_H.ev c pa)):=by
 subst hx;refine n6 (Jj hg hm (bD ha.ev (bD (hb.var i hv) dC j) (by rw[hs,j])) hs j) ?_;rintro σ H R⟨F,ρ,ds,l,ac,g,e,k⟩;obtain⟨r,J,e1,e⟩:=aj e;obtain⟨es,m,G,e⟩:=aj e;have L:=aF G;clear G;obtain⟨G,e3⟩:=L;subst e3;refine⟨F,ρ,r,J,g,e1,λu F' H' s o=>?_⟩;obtain⟨F2,s2,_,ru⟩:=s.eN o;obtain⟨t2,M,ys,rfl,z,N⟩:=yx ru G;split at e;.rename_i bb d' q;obtain⟨f,ae,I,e⟩:=aj e;have L:=aF I;clear I;obtain⟨I,e5⟩:=L;subst e5;cases e;obtain⟨v',h1,rv⟩:=s2.gs.val i bb d' q;obtain⟨t1,w,xs,rfl,q1,r1⟩:=yx rv I;refine⟨_,h1,t2,t1,M,w,rfl,⟨ys,aJ.sq s2.gs.sub z⟩,⟨xs,aJ.sq s2.gs.sub q1⟩,k _ _ _ ⟨s2.gs,λn k F' A σ' H' h=>sZ (aJ.sq h.gs.sub (aJ.sq h.cG z)) (aJ.sq h.gs.sub (aJ.sq h.cG q1)) (N.mono h.cG) (r1.mono h.cG) h.gs.sub k,λF3 m B H3 s3=>?_⟩⟩;unfold bz;dsimp only;rw[q];exact⟨s2.trans s3,λv r o=>o.later s2⟩
 . rename_i bb f q;cases e;have hi:i<l.length:=(gh q).1;have O:=s2.gs.lend q;have ql:(l.set i (.lent f))[i]?=ap (.lent f):=ce hi;obtain⟨w,xs,h1,Q,w3,w4⟩:=O.pK i _ f ql rfl;refine⟨_,h1,t2,av,M,w,rfl,⟨ys,aJ.sq s2.gs.sub z⟩,⟨xs,gq.of Q⟩,k _ _ _ ⟨O,λn k F' A σ' H' h=>?_,λF3 m B H3 s3=>?_⟩⟩;.obtain⟨C,t,U,W⟩:=h.lk i _ (by rw[dr (by simpa using hi)];exact ql) rfl;cases(show t=.lent f from W);rw[dr (by rw[<-O.len];simpa using hi),h1]at C;obtain⟨a',y,E,Y,u3,Z⟩:=h.gs.pK i _ f U rfl;rw[C]at E;cases E;exact sZ (aJ.sq h.gs.sub (aJ.sq h.cG z)) (show Sq av X.K H' w y from gq.of Y) (N.mono h.cG) Z h.gs.sub k
   .unfold bz;dsimp only;rw[q];obtain⟨y1,y2⟩:=aL.bz s2.gs q s3;exact⟨s2.trans y1,λv r o=>(y2 v r o).later s2⟩
 . rename_i f q;cases e;have hi:i<l.length:=(gh q).1;obtain⟨w,xs,h1,Q,w3,w4⟩:=s2.gs.pK i _ f q rfl;refine⟨_,h1,t2,av,M,w,rfl,⟨ys,aJ.sq s2.gs.sub z⟩,⟨xs,gq.of Q⟩,k _ _ _ ⟨s2.gs,λn k F' A σ' H' h=>?_,λF3 m B H3 s3=>?_⟩⟩;.obtain⟨C,t,U,W⟩:=h.lk i _ (by rw[dr hi];exact q) rfl;cases(show t=.lent f from W);rw[dr (by rw[<-s2.gs.len];exact hi),h1]at C;obtain⟨a',y,E,Y,u3,Z⟩:=h.gs.pK i _ f U rfl;rw[C]at E;cases E;exact sZ (aJ.sq h.gs.sub (aJ.sq h.cG z)) (show Sq av X.K H' w y from gq.of Y) (N.mono h.cG) Z h.gs.sub k
   .unfold bz;dsimp only;rw[q];exact⟨s2.trans s3,λv r o=>o.later s2⟩
 .cases e
variable{scope:iE}{N':List Str}{ifs:List da}{iter:da}
theorem lY{g:TG}{i:Nat}{is:List Nat}{one:Bool}{t:Option P}(hc:X.calm=bj)(ok:gC X scope N' n)(hi:PI X tg iter (Vv X.K i (_H.ev c pb)))(o:∀cl C s₀ H₀ ex,PG (rG X scope N' cl C s₀ H₀ ex) tg g)(j:ou X.K X.N.length is one g)(q:∀cl C s₀ H₀ ex,SQ (rG X scope N' cl C s₀ H₀ ex) c ifs t)(he:∀cl C s₀ H₀ ex,SX (rG X scope N' cl C s₀ H₀ ex) c elt pe)(hs:∀x,eH iter X.env x=eL x:=by intro _;rfl):SX X c (.ListComp elt [⟨tg,iter,ifs,0⟩] scope pos) (.oF i pb n is one t pe):=by
 refine⟨Kv (Fy (tt:=Hk X.K (pq c t)) (te:=yc X.K (_H.ev c pe)) hc ok hi o q (λcl C s₀ H₀ ex=>(he cl C s₀ H₀ ex).ev) hs) ?_,λi h=>by cases h⟩;rintro σ H Q s⟨F,ρ,r,u,v,e,k⟩;rw[_H.E29]at e;obtain⟨⟨w,l⟩,m,y,e⟩:=aj e;dsimp only at e;split at e;.rename_i f;obtain⟨xs,z,A,e⟩:=aj e;cases e;exact vd s j (λR h=>⟨F,ρ,w,l,m,v,y,h⟩) f A k
 .cases e
theorem xG{i j:Nat}{x:Str}{f l:Pos}{nn:Nat}{g:TG}{is:List Nat}{one:Bool}{t:Option P}(hc:X.calm=bj)(A:X.N.Nodup)(q:X.N[i]?=ap x)(B:Loc X.env.scope x)(ok:gC X scope N' n)(hi:PI X tg iter (Vv X.K j (_H.ev c pb)))(E:∀cl C s₀ H₀ ex,PG (rG X scope N' cl C s₀ H₀ ex) tg g)(s:ou X.K X.N.length is one g)(G:∀cl C s₀ H₀ ex,SQ (rG X scope N' cl C s₀ H₀ ex) c ifs t)(he:∀cl C s₀ H₀ ex,SX (rG X scope N' cl C s₀ H₀ ex) c elt pe)(u:eP (.ListComp elt [⟨tg,iter,ifs,0⟩] scope pos) (ap (.Name x f)) l.line X.env=eL bj:=by rfl)(hs:∀x,eH iter X.env x=eL x:=by intro _;rfl)(I:X.fn x=bj\/X.env.scope.names.lookup x=ap .local:=by first|(left;rfl)|(right;rfl)|assumption):SS X c nn (.Assign [.Name x f] (.ListComp elt [⟨tg,iter,ifs,0⟩] scope pos) l) (.asg i (.oF j pb n is one t pe)):=by
 refine JG (yd (tt:=Hk X.K (pq c t)) (te:=yc X.K (_H.ev c pe)) hc A q B ok hi E G (λcl C s₀ H₀ ex=>(he cl C s₀ H₀ ex).ev) u hs I) ?_;rintro D σ H J⟨F,ρ,fl,L,M,e,k⟩;rw[_H.X6]at e;obtain⟨r,O,z,e⟩:=aj e;obtain⟨Q,U,o,e⟩:=aj e;cases e;have W:=aF o;clear o;obtain⟨o,e3⟩:=W;rw[_H.E29]at z;obtain⟨⟨Y,w⟩,y,Z,e⟩:=aj z;dsimp only at e;split at e;.rename_i m;obtain⟨xs,ac,e4,e⟩:=aj e;cases e;exact vd J s (λR h=>⟨F,ρ,Y,w,y,M,Z,h⟩) m e4 λv F1 H1 s1 rr=>k F1 _ H1 (s1.put rr o)
 .cases e
end
end _H
namespace _H
open PySem PyProof.Rows
section
variable{M:nv}{A:et}{E:bd->bx->Prop}{s:bx}{κ:iD}{ok:fN->Prop}{K:fN->Int}
theorem G3(R:Rk M A E s κ ok K){st b:im}{xs:Array fN}{lo n:Nat}{Q:Option Nat->im->Prop}(h:Sx κ ok st xs b)(f:lo+n<=xs.size)(h1:1<=n)(sg:Seg K xs lo (lo+n))(q:Q (ap n) b):wpS M A E s (countRun' lo n) Q b:=by
 have one:∀ys:Array fN,Seg K ys lo (lo+1):=λys i j k l o=>by rw[show i=j by lia];exact iL _
 show wpS M A E s (_>>=_) Q b;refine gN (Wv (a:=1) (n:=n) R h f (le_refl 1) h1 (one xs) λm m1 p r e=>?_);dsimp only;have c1:m=n:=by
  by_cases c:m=n;.exact c
  .have g:=e.resolve_left c;have:=sg (lo+m-1) (lo+m) (by lia) (by lia) (by lia);lia
 subst c1;rw[if_pos (by simp)];exact jC q
theorem SR.aam{x0 ys:Array fN}{l:List Rn}{lo n:Nat}{st:im}(h:SR κ ok K x0 ys l lo st)(h1:1<=n)(a:lo+n<=ys.size)(hs:Seg K ys lo (lo+n)):SR κ ok K x0 ys (l++[(lo,n,0)]) (lo+n) (setPending st ((jx st).push (lo,n,0))):=⟨h.kind,h.arr,h.fail,by show((jx st).push (lo,n,0)).toList=_;rw[Array.toList_push,h.pend],h.perm,h.ok,yj.mpr ⟨lo,h.rns,rfl,h1,hs,rfl⟩,a⟩
theorem wG:∀(f n r:Nat),r<=1->n<64\/n<=f->pE f n r<=n+r/\(64<=n->pE f n r<=n)
 |0,n,r,hr,h=>by have e:pE 0 n r=n+r:=rfl;rw[e];exact⟨eU,λz=>by lia⟩|f+1,n,r,hr,h=>by
   rw[minRun'_succ];by_cases c:n<64;.rw[if_pos c];exact⟨eU,λz=>by lia⟩
   .rw[if_neg c];have a:=wG f (n/2) (max r (n%2)) (by lia) (by lia);exact⟨by lia,λ_=>by lia⟩
theorem JS(R:Rk M A E s κ ok K){x0:Array fN}{Q:Unit->im->Prop}{st:im}(h:SR κ ok K x0 x0 [] 0 st)(sg:Seg K x0 0 x0.size)(h1:1<=x0.size)(q:∀a,qv a=x0->qq a=none->Q () a):wpS M A E s sortRuns' Q st:=by
 rw[sortRuns'_eq];refine gN (oQ ?_);dsimp only;simp only[h.arr];have j:pE x0.size x0.size 0<=x0.size:=(wG x0.size x0.size 0 (by lia) (.inr (eU))).1;generalize pE x0.size x0.size 0=o at j;refine gN (wpS_mono (oY (I:=λx c a=>(c=(none,0)/\SR κ ok K x0 x0 [] 0 a/\x=0)\/(c=(none,x0.size)/\SR κ ok K x0 x0 [(0,x0.size,0)] x0.size a)) (Q:=λc a=>c=(none,x0.size)/\SR κ ok K x0 x0 [(0,x0.size,0)] x0.size a) ?_ ?_ (.inl ⟨rfl,h,rfl⟩)) ?_)
 . rintro x c f _ k(⟨rfl,b,rfl⟩|⟨rfl,b⟩)
   . dsimp only;rw[if_neg (by lia)];refine gN (G3 R b.sx (lo:=0) (n:=x0.size-0) (by lia) (by lia) (by simpa using sg) ?_);dsimp only;rw[if_neg (by lia)];refine gN (oQ ?_);have l:(jx f).back?=none:=by have:jx f=#[]:=lS.mp b.pend;rw[this];rfl
     rw[l];dsimp only;refine gN (wpS_modify (jC (.inr ⟨by simp,?_⟩)));have:=b.aam (n:=x0.size-0) (by lia) (by lia) (by simpa using sg);simpa using this
   .dsimp only;rw[if_pos (eU)];exact jC ⟨rfl,b⟩
 . rintro c f(⟨rfl,b,e⟩|⟨rfl,b⟩);.lia
   .exact⟨rfl,b⟩
 . rintro c f⟨rfl,b⟩;dsimp only;refine gN (wpS_mono (oY (I:=λx c a=>c=(none,())/\SR κ ok K x0 x0 [(0,x0.size,0)] x0.size a) (Q:=λc a=>c=(none,())/\SR κ ok K x0 x0 [(0,x0.size,0)] x0.size a) ?_ (λ_ _ h=>h) ⟨rfl,b⟩) ?_)
   . rintro x c g _ k⟨rfl,i⟩;refine gN (oQ ?_);try dsimp only
     have m:(jx g).size<=1:=by rw[<-iS,i.pend];simp
     rw[if_pos m];exact jC ⟨rfl,i⟩
   .rintro c g⟨rfl,i⟩;dsimp only;exact jC (q g i.arr i.fail)
end
end _H
namespace _H
open PySem W PyProof.Rows Calls _L Spec
section
variable{prog:c_}{w:eh}{A:et}{E:bd->bx->Prop}{s:bx}{vs:List bd}{κ:iD}{P:bd->D->Prop}{ds:List D}
theorem JM{a:b_}{n:Nat}{O:PySem.Fin->bx->Prop}(ho:s.heap.get? a=ap (pz "list" vs.toArray n))(so:sortable ds=bj)(hz:vs.length<=16777216)(L:Paired P vs ds)(fn:∀u d e,P u d->P u e->dY d=dY e)(z:ds.Pairwise λa b=>pO a b=bj)(N:∀h',(∀b o,b≠a->s.heap.get? b=ap o->h'.get? b=ap o)->∀C:iD->bx->Prop,C κ {s with heap:=h'}->2<=vs.length->cH (cM prog w) A (keyKind' vs.toArray) C (λ_ _=>False) {s with heap:=h'})(hl:∀h',(∀b o,b≠a->s.heap.get? b=ap o->h'.get? b=ap o)->∀u v d e,P u d->P v e->∀C:Bool->bx->Prop,C (bR (dY d) (dY e)) {s with heap:=h'}->cH (cM prog w) A (keyLt' κ u v) C (λ_ _=>False) {s with heap:=h'})(h:∀h' c p,(∀b o,b≠a->s.heap.get? b=ap o->h'.get? b=ap o)->p.Perm (eu vs.length)->pick .non p ds=R9 ds->h'.get? a=ap (pz "list" (pick .none p vs).toArray c)->O (.done (.ret .none)) {s with heap:=h'}):cH (cM prog w) A (i3.«list.sort» ⟨[.ref a],[]⟩) O E s:=by
 have ha:a<s.heap.objs.size:=df ho;have B:vs.length=ds.length:=Paired.length L;obtain⟨l,G⟩:∃l,(s.heap.update a (fF λ_=>(#[]:Array bd))).get? a=ap (pz "list" #[] l):=⟨_,get?_update_seq ho λ_=>#[]⟩;rw[list_sort_plain];refine a_ (listItems_at ho rfl ?_);refine a_ (ow ho rfl ?_ (by rw[cS,eR];lia) (xu));refine a_ (qh G rfl ?_);refine a_ (wpAny_newTuple ?_ (by show vs.length<=_;rw[eR];lia));refine a_ (wpAny_newList ?_ (xu));refine fI ?_;generalize hH:(((s.heap.update a (fF λ_=>(#[]:Array bd))).push {cls:=.type "tuple",data:=.seq vs.toArray}).push {cls:=.type "list",data:=.seq #[]}:ef)=m;have g:m.get? a=ap (pz "list" #[] l):=by rw[<-hH];exact iZ (iZ G)
 have keep:∀b o,b≠a->s.heap.get? b=ap o->m.get? b=ap o:=λb o M e=>by rw[<-hH];exact iZ (iZ ((dN _ _ (fk M)).trans e))
 have fin:∀p:List Nat,p.Perm (eu vs.length)->pick .non p ds=R9 ds->O (.done (.ret .none)) {s with heap:=m.update a (fF λ_=>o_ (pick .none p vs))}:=by intro p h1 f;obtain⟨c2,U⟩:∃c2,(m.update a (fF λ_=>o_ (pick dD p vs))).get? a=ap (pz "list" (pick dD p vs).toArray c2):=⟨_,get?_update_seq g λ_=>o_ (pick dD p vs)⟩;exact h _ c2 p (λb o M e=>(dN _ _ (fk M)).trans (keep b o M e)) h1 f U
 show cH (cM prog w) A _ O E {s with heap:=m};dsimp only;by_cases f:vs.toArray.size<2
 . rw[if_pos f,if_pos f];refine a_ (cv ?_);rw[StateT.run_pure];refine a_ (cv ?_);dsimp only;have eo:(qv (SortSt.mk' general' (vs.toArray.zip vs.toArray) #[] 7 none)).map (·.2)=o_ (pick dD (eu vs.length) vs):=by rw[pB];apply lS.mp;show((vs.toArray.zip vs.toArray).map (·.2)).toList=vs;simp[List.map_snd_zip]
   rw[eo];refine a_ (qh g rfl ?_);refine a_ (ow g rfl ?_ (xu) (by rw[cS,uE (.refl _),eR];lia));simp only[bne_self_eq_false,gc,if_false];refine cv (fin _ (.refl _) ?_);rw[B,pB];refine uD so (.refl _) ?_;match ds,(show ds.length<2 by simp at f;lia)with|[],_=>exact .nil|[_],_=>exact List.pairwise_singleton ..|_::_::_,f=>simp at f;lia
 . rw[if_neg f,if_neg f];have W:2<=vs.length:=by simpa using f
   refine a_ (N m keep _ ?_ W|>λq=>dS q (λ_ _ x=>x) λ_ _ x=>x.elim);have H:(vs.toArray.zip vs.toArray).toList=(eu vs.length).map λi=>(vs.getD i dD,vs.getD i dD):=by
    refine ln (by simp) λi h1 f=>?_;have:i<vs.length:=by simpa using f
    simp[this]
   have X:∀x∈(vs.toArray.zip vs.toArray).toList,∃d,d∈ds/\P x.1 d:=λx hx=>by rw[H]at hx;obtain⟨i,hi,rfl⟩:=ej.mp hx;have:=nJ L i (i7.mp hi);exact⟨_,this.2,this.1⟩
   have R:Rk (cM prog w) A E {s with heap:=m} κ (λx=>∃d,d∈ds/\P x.1 d) (rkK P ds):=⟨by rintro x y Q st⟨d,d1,d2⟩⟨e,l,t⟩Y hq;rw[Eg fn d1 d2,Eg fn l t,Jv d1]at hq;rw[lt'_eq];refine gN (oQ ?_);rw[Y];refine gN (wpS_lift (kn (dS (hl m keep x.1 y.1 d e d2 t (λb Z=>Z={s with heap:=m}/\b=bR (dY d) (dY e)) ⟨rfl,rfl⟩) ?_ λ_ _ h=>h.elim)));rintro b Z⟨rfl,rfl⟩;exact⟨rfl,jC hq⟩⟩;have at':∀k,k<vs.length->it (vs.toArray.zip vs.toArray) k=(vs.getD k .none,vs.getD k .none):=λk N=>by rw[Rj,H];simp[N]
   have hsz:(vs.toArray.zip vs.toArray).size=vs.length:=by simp
   have sg:Seg (rkK P ds) (vs.toArray.zip vs.toArray) 0 (vs.toArray.zip vs.toArray).size:=λi j _ ij jn=>by
    rw[hsz]at jn;rw[at' i (by lia),at' j jn];have a1:=nJ L i (by lia);have a2:=nJ L j jn;rw[Eg fn a1.2 a1.1,Eg fn a2.2 a2.1];by_cases e:i=j;.rw[e];exact iL _
    . have I:=List.pairwise_iff_getElem.mp z i j (by lia) (by lia) (by lia);simp only[pO,kP]at I;have l:ds.getD i .non=ds[i]'(by lia):=by simp[show i<ds.length by lia]
      have t:ds.getD j .non=ds[j]'(by lia):=by simp[show j<ds.length by lia]
      rw[<-l,<-t,<-Jv a2.2,decide_eq_false_iff_not]at I;lia
   have run:=JS R (x0:=vs.toArray.zip vs.toArray) (st:=SortSt.mk' κ (vs.toArray.zip vs.toArray) #[] 7 none) (Q:=λ_ r=>∃p:List Nat,p.Perm (eu vs.length)/\pick .non p ds=R9 ds/\(qv r).map (·.2)=(pick dD p vs).toArray/\qq r=none) ⟨rfl,rfl,rfl,rfl,.refl _,X,rfl,xu⟩ sg (by rw[hsz];lia) λr l t=>by
     refine⟨eu vs.length,.refl _,?_,?_,t⟩;.rw[B,pB];exact uD so (.refl _) z
     .rw[l,pB];apply lS.mp;simp[List.map_snd_zip]
   refine a_ (dS run ?_ λ_ _ e=>e);rintro⟨⟨⟩,r⟩Z⟨rfl,p,p1,p2,J,hf⟩;dsimp only;rw[J];refine a_ (qh g rfl ?_);refine a_ (ow g rfl ?_ (xu) (by rw[cS,uE p1,eR];lia));rw[hf];simp only[bne_self_eq_false,gc,if_false];exact cv (fin _ p1 p2)
end
end _H
namespace _H
open PySem _L Spec PyProof.Rows Calls W
noncomputable def Bf(nw:b_->Option HO)(H:Hp):Hp:=λa=>match nw a with|some o=>ap o|none=>H a
theorem xF{nw:b_->Option HO}{H:Hp}{a:b_}{o:HO}(h:nw a=ap o):Bf nw H a=ap o:=by unfold Bf;rw[h]
theorem jJ{nw:b_->Option HO}{H:Hp}{a:b_}(h:nw a=none):Bf nw H a=H a:=by unfold Bf;rw[h]
theorem abv{X:Cx}{g:List (b_×Obj)}{σ:_L.St}{H:Hp}{s:bx}{h':ef}{t':Nat}{nw:b_->Option HO}(I:_L.Inv X g σ H s)(k:∀b u,s.heap.get? b=ap u->h'.get? b=ap u)(i:∀a o,nw a=ap o->s.heap.objs.size<=a)(new:∀a o,nw a=ap o->bT X.prog X.w (Bf nw H) h' a o):_L.Inv X g σ (Bf nw H) {s with heap:=h',toks:=t'}:=by
 have h:∀a,a<s.heap.objs.size->nw a=none:=λa j=>by cases q:nw a with|none=>rfl|some o=>exact absurd (i a o q) (Nat.not_le_of_lt j)
 have f:∀a o,H a=ap o->Bf nw H a=ap o:=λa o e=>by rw[jJ (h a (I.hok.lt e))];exact e
 refine I.un ⟨λb u q _ _ _=>k b u q,λb u q _ _ _=>⟨u.slots,k b u q⟩,λb u q n _=>?_,λb u q _=>⟨u,k b u q⟩,λb xs q=>f b _ q,λb u xs q=>f b _ q,λb ps q=>⟨#[],by rw[f b _ q];simp⟩⟩ λb u e=>?_;.rw[jJ (h b (df q))];exact n
 .cases q:nw b with|some o=>rw[xF q]at e;cases e;exact new b _ q|none=>rw[jJ q]at e;exact(I.hok b u e).stay (λc v _ z=>k c v z) (λc z=>f c _ z) λc xs z=>f c _ z
noncomputable def iv(l d:b_):ef->Prop:=λh=>h.IsItemsView l d
noncomputable def Km:V->List V->Hp->VK->Prop:=λx xs H Q=>∃q a kvs,x=.ref q/\xs=[]/\H q=ap (.eN a (.dK (map vV kvs)))/\∀l,H l=none->Q (.ref l) (upd H l (.ext (iv l q)))
noncomputable def rIt(X:Cx):List V->Hp->VK->Prop:=λxs H Q=>∃l q c kvs,xs=[.ref l]/\H l=ap (.ext (iv l q))/\H q=ap (.eN c (.dK (map vV kvs)))/\(kvs.length<=16777216/\kvs.Pairwise (λa b=>a.1<b.1))/\∃F,aJ F H/\∀v F' H',Ext F H F' H'->dg X.K F' H' H v (.own (kvs.map tW))->Q v H'
theorem Az{P:c_}{w:eh}{h:ef}:∀{kvs:List (Int×Int)}{vs:List (Key×bd)}{as:List b_},KV (kvs.map vV) vs->as.length=vs.length->(∀(j:Nat)(a:b_),as[j]?=ap a->∃key k x,vs[j]?=ap (k,x)/\(bI P w).is k key=bj/\h.get? a=ap {cls:=.type "tuple",data:=.seq #[key,x]})->∀(j:Nat)(a:b_),as[j]?=ap a->∃p,kvs[j]?=ap p/\∃t u,h.get? a=ap {cls:=.type "tuple",data:=.seq #[er p.1 t,er p.2 u]}
 |[],_,as,.nil,f,_,j,a,e=>by cases as with|nil=>cases e|cons _ _=>simp at f
 |p::kvs,_,as,.cons (b:=q) r t,f,hk,j,a,e=>by cases as with|nil=>cases e|cons b as=>cases j with
     |zero=>
       obtain⟨key,k,x,g,m,n⟩:=hk 0 a e;simp at g;have o:k=dA p.1:=by have z:=r.1;rw[g]at z;exact z.symm
       have s:∃u,x=er p.2 u:=by have z:=r.2;rw[g]at z;exact z
       subst o;obtain⟨u,rfl⟩:=s;obtain⟨i,v,l,rfl⟩|⟨_,_,l,_⟩:=bY (show qZ (dA p.1) key=bj from m);.cases l;exact⟨p,rfl,v,u,n⟩
       .cases l|succ j=>exact Az t (by simpa using f) (λi c z=>by simpa using hk (i+1) c (by simpa using z)) j a (by simpa using e)
noncomputable def tpV(p:Int×Int):HO:=.tup [.int p.1,.int p.2]
noncomputable def tu:List b_->List (Int×Int)->b_->Option HO|a::as,p::ps,b=>if b=a then ap (tpV p)else tu as ps b|_,_,_=>none
theorem sy:∀{as:List b_}{ps:List (Int×Int)}{b:b_}{o:HO},tu as ps b=ap o->∃(j:Nat)(p:Int×Int),as[j]?=ap b/\ps[j]?=ap p/\o=tpV p
 |a::as,p::ps,b,o,h=>by
   unfold tu at h;split at h;.rename_i e;cases h;subst e;exact⟨0,p,rfl,rfl,rfl⟩
   .obtain⟨j,q,h1,c,f⟩:=sy h;exact⟨j+1,q,by simpa using h1,by simpa using c,f⟩|[],_,_,_,h=>by simp[tu]at h|_::_,[],_,_,h=>by simp[tu]at h
theorem Gn:∀{as:List b_}{ps:List (Int×Int)},as.Pairwise (·<·)->∀{j:Nat}{b:b_}{p:Int×Int},as[j]?=ap b->ps[j]?=ap p->tu as ps b=ap (tpV p)|[],_,_,_,_,_,h,_=>by simp at h|_::_,[],_,_,_,_,_,h=>by simp at h|a::as,q::ps,c,j,b,p,h1,f=>by unfold tu;cases j with|zero=>cases h1;cases f;rw[if_pos rfl]|succ j=>
     have h1:as[j]?=ap b:=by simpa using h1
     have:=(List.pairwise_cons.mp c).1 b (du h1);rw[if_neg (λe=>by rw[e]at this;exact g9 _ this)];exact Gn (List.pairwise_cons.mp c).2 h1 (by simpa using f)
theorem uI:∀as:List b_,Vals (as.map V.ref) (as.map dq)|[]=>.nil|_::as=>.cons rfl (uI as)
theorem Ft{K:PySem.W.Frag}{F:Hp}:∀{as:List b_}{ps:List (Int×Int)},as.length=ps.length->(∀(j:Nat)(b:b_)(p:Int×Int),as[j]?=ap b->ps[j]?=ap p->F b=ap (tpV p))->aN K F (as.map V.ref) (ps.map tW)|[],[],_,_=>.nil|a::as,p::ps,c,h=>.cons (by have:=h 0 a p rfl rfl;rw[show tW p=.tup [.int p.1,.int p.2]from rfl,Rep];refine⟨a,_,rfl,.inl (.inl this),.cons (by rw[Rep]) (.cons (by rw[Rep]) .nil)⟩) (Ft (by simpa using c) λj b q h1 e=>h (j+1) b q (by simpa using h1) (by simpa using e))|[],_::_,c,_=>by simp at c|_::_,[],c,_=>by simp at c
theorem Fp{h:ef}:∀{as:List b_}{ps:List (Int×Int)},as.length=ps.length->(∀(j:Nat)(b:b_),as[j]?=ap b->∃p,ps[j]?=ap p/\∃t u,h.get? b=ap {cls:=.type "tuple",data:=.seq #[er p.1 t,er p.2 u]})->Paired (rR h) (as.map dq) (ps.map tW)|[],[],_,_=>.nil|a::as,p::ps,c,h=>.cons (by obtain⟨q,e,t,u,g⟩:=h 0 a rfl;cases e;exact⟨a,[er p.1 t,er p.2 u],[p.1,p.2],rfl,⟨_,g,rfl,0,rfl⟩,.cons _ _ (.cons _ _ .nil),by simp,rfl⟩) (Fp (by simpa using c) λj b h1=>by simpa using h (j+1) b (by simpa using h1))|[],_::_,c,_=>by simp at c|_::_,[],c,_=>by simp at c
theorem zH{prog:c_}{w:eh}{A:et}{E:bd->bx->Prop}{s:bx}{v d:b_}{kvs:List (Key×bd)}{ep:Nat}{Q:List bd->bx->Prop}(n:A.handled=none)(i:s.heap.IsItemsView v d)(j:s.heap.DictAt (bI prog w) d kvs ep)(p:kvs.length<=sizeLine)(t:∀(h':ef)(f:Nat)(as:List b_),(∀b o,s.heap.get? b=ap o->h'.get? b=ap o)->s.heap.objs.size<h'.objs.size->as.length=kvs.length->KdxG (bI prog w) kvs s.heap.objs.size h' as->Q (as.map dq) {s with heap:=h',toks:=f}):cH (cM prog w) A (collect (.ref v)) Q E s:=by
 have g:v<s.heap.objs.size:=let⟨_,h1,_⟩:=i;df h1;have h:d<s.heap.objs.size:=j.lt_size;unfold collect;refine a_ (wpAny_runValue (k7 F.entry_proto_collect ?_));rw[iq F.plain_proto_collect _];show cH _ A.in1 (newList []>>=λl=>again (.builtin "list.__iadd__" ⟨[l,.ref v],[]⟩)) _ _ s;refine a_ (ew (cv ⟨l7 F.plain_list_iadd _,k7 F.entry_list_iadd ?_⟩));rw[iq F.plain_list_iadd _];show cH _ A.in1 (ll (.ref s.heap.objs.size) (.ref v) (.ref s.heap.objs.size)) _ _ _;refine kdx_extend (A:=A) (R:=λr k=>match r with
  |.ok (.ret v)=>cH (cM prog w) A (match v with
   |.ref a=>do let o<-load a match o.data with|.seq xs _=>eL xs.toList|_=>m_ "internal:collect"
   |_=>m_ "internal:collect") Q E k|.ok _=>False|.error e=>E e k) (s:={s with heap:=s.heap.push {cls:=.type "list",data:=.seq #[]}}) n (let⟨o,h1,q⟩:=i;⟨o,iZ h1,q⟩) (j.at' λo e=>iZ e) s.heap.objs.size (nV g) (dP h) _ 0 (dl _ rfl) (λh' f u B as x m y z c=>?_) p;refine a_ (wpAny_load m (cv ?_));rw[c];exact t h' f as (λb o e=>x b o (dP (df e)) (iZ e)) (df m) y (z.low (by rw[size_push'];exact le_succ _))
section
variable{X:Cx}{c:Call}{a:da}{pa:P}{pos:Pos}
theorem Kf:MtR X "dict.items" Km:=by rintro f s σ H x xs v t Q I g h⟨q,i,kvs,rfl,rfl,j,k⟩;cases g;cases h;obtain⟨ho,hz,l,vs,r,dd⟩:=(show bT X.prog X.w H s.heap q (.eN i (.dK (kvs.map vV)))from I.hok q _ j);refine pV PySem.F.slot_dict_items dd.typeIs PySem.F.entry_dict_items (PySem.F.args_dict_items_1 _) (meets_dict_items _ q l) ⟨⟨vs,dd⟩,?_⟩;have m:(s.heap.push {cls:=.type "dict_items",data:=.fields #[.ref q]}).IsItemsView s.heap.objs.size q:=⟨_,dl _ rfl,rfl,rfl⟩;refine⟨.ref s.heap.objs.size,_,I.laid (t':=s.toks) (o:=.ext (iv s.heap.objs.size q)) (λb o e=>iZ e) (eU) ⟨m,⟨_,dl _ rfl⟩,λh1 u z k=>?_⟩,rfl,k _ (I.hok.fresh (eU))⟩;obtain⟨o,n,p⟩:=z;exact⟨o,k o n,p⟩
theorem W4(hc:X.calm=bj):eX X (.builtin "sorted") (rIt X):=by
 rintro al s σ H xs us Q I r⟨l,q,ob,kvs,hx,hl,hq,⟨am,ac⟩,F,sm,k⟩;subst hx;have so:sortable (kvs.map tW)=bj:=by
  have:(kvs.map tW).all Ag=bj:=by rw[fg];intro x hx;obtain⟨p,_,rfl⟩:=ej.mp hx;rfl
  simp only[sortable,dV,this,Bool.or_true,Bool.and_true,decide_eq_true_eq];lia
 have J:(kvs.map tW).Pairwise λa b=>pO a b=bj:=by rw[List.pairwise_map];refine ac.imp λ{a b}h=>?_;show(!bR [b.1,b.2] [a.1,a.2])=bj;simp[bR];lia
 have ae:R9 (kvs.map tW)=kvs.map tW:=(uD so (.refl _) J).symm;rw[<-ae]at k;obtain⟨u,rfl,rx⟩:=r.one;cases rx;obtain⟨af,_,_⟩:=(show bT X.prog X.w H s.heap l (.ext (iv l q))from I.hok l _ hl);obtain⟨ho,hz,hS,vs,rv,dd⟩:=(show bT X.prog X.w H s.heap q (.eN ob (.dK (kvs.map vV)))from I.hok q _ hq);have L:vs.length=kvs.length:=by rw[<-Paired.length rv,dV]
 obtain⟨f,es,ep,d1,d2,d3,d4⟩:=dd;have dat:s.heap.DictAt (bI X.prog X.w) q vs ep:=⟨f,es,d1,d2,d3,d4⟩;refine Calls.call_function_entry kind_sorted plain_sorted entry_sorted (args_sorted1 _) ?_;unfold i3.«sorted»;refine a_ (m:=checkCount "sorted" 1 1 _) (cv ?_);refine a_ (zH (A:=X.A.in1) (I.ok.hd hc) af dat (by rw[L,eR];lia) λh1 M as kp hsz N hG=>?_);have hsz:=lm hsz;have g:as.length=kvs.length:=N.trans L;have pr:=Az rv N hG.pairs;have tt:Paired (rR h1) (as.map dq) (kvs.map tW):=Fp g pr;have O:∀a o,tu as kvs a=ap o->s.heap.objs.size<=a:=λa o e=>by obtain⟨j,p,U,_,_⟩:=sy e;exact lm (hG.above a (du U))
 have i:∀a o,tu as kvs a=ap o->H a=none:=λa o e=>I.hok.fresh (O a o e);have B:aJ H (Bf (tu as kvs) H):=λb o e=>by cases z:tu as kvs b with|none=>rw[jJ z];exact e|some f=>rw[i b f z]at e;cases e
 have e0:Ext F H (Bf (tu as kvs) F) (Bf (tu as kvs) H):=by
  refine⟨B,λb o e=>?_,λb o e=>?_,λb n n'=>?_⟩;.cases z:tu as kvs b with|none=>rw[jJ z];exact e|some f=>have n0:=i b f z;rw[sm b o e]at n0;cases n0
  .cases z:tu as kvs b with|none=>rw[jJ z]at e ⊢;exact sm b o e|some f=>rw[xF z]at e ⊢;exact e
  .cases z:tu as kvs b with|none=>rw[jJ z]at n';exact absurd n n'|some f=>rw[i b f z];rfl
 have rs:aN X.K (Bf (tu as kvs) F) (as.map V.ref) (kvs.map tW):=Ft g λj b p h1 h2=>xF (Gn hG.rise h1 h2);have vv:=uI as;have ag:∀b∈as,b<h1.objs.size:=λb hb=>hG.there hb;have W:(as.map dq).length=kvs.length:=by rw[dV];exact g
 refine a_ (wpAny_newList ?_ (by rw[W,eR];lia));generalize Y:(h1.push {cls:=.type "list",data:=.seq (as.map dq).toArray}:ef)=G;have Z:G.get? h1.objs.size=ap (pz "list" (as.map dq).toArray 0):=by rw[<-Y];exact dl _ rfl
 have Nz:∀b o,h1.get? b=ap o->G.get? b=ap o:=λb o e=>by rw[<-Y];exact iZ e
 have E:∀b o,h1.get? b=ap o->b≠h1.objs.size:=λb o e=>dP (df e);show cH _ _ _ _ _ {s with heap:=G,toks:=M};refine a_ (fI (gx slot_list_sort ⟨_,Z,rfl⟩ entry_list_sort ?body (args_list_sort _)));case body=>
  refine JM (s:={s with heap:=G,toks:=M}) (κ:=tuples' (eZ "int"!=eZ "tuple")) Z so (by lia) tt Qg J (λh' k' C hC h2=>?_) (λh' k' u v d e hd he C hC=>?_) λh' cc p k' p1 p2 e=>?_;.exact GJ (s:={s with heap:=h',toks:=M}) (xf (λb o z=>k' b o (E b o z) (Nz b o z)) tt) h2 hC
  .have kk:∀b o,h1.get? b=ap o->h'.get? b=ap o:=λb o z=>k' b o (E b o z) (Nz b o z);exact Ow (s:={s with heap:=h',toks:=M}) (qe kk hd) (qe kk he) hC
  . refine⟨_,rfl,cv ⟨_,rfl,?_⟩⟩;have kk:∀b o,h1.get? b=ap o->h'.get? b=ap o:=λb o z=>k' b o (E b o z) (Nz b o z);have hL:tu as kvs h1.objs.size=none:=by cases z:tu as kvs h1.objs.size with|none=>rfl|some o=>obtain⟨j,p,U,_,_⟩:=sy z;exact absurd (ag _ (du U)) (g9 _)
    have ah:upd (Bf (tu as kvs) H) h1.objs.size (.lst (pick .non p (as.map V.ref)))=Bf (λb=>if b=h1.objs.size then ap (.lst (pick .non p (as.map V.ref)))else tu as kvs b) H:=by
     funext b;unfold upd Bf;by_cases z:b=h1.objs.size;.rw[if_pos z];simp only[if_pos z]
     .rw[if_neg z];simp only[if_neg z]
    have I':=abv (t':=M) (h':=h') (nw:=λb=>if b=h1.objs.size then ap (.lst (pick .non p (as.map V.ref)))else tu as kvs b) I (λb o z=>kk b o (kp b o z)) (λa o z=>by
     by_cases y:a=h1.objs.size;.rw[y];exact hsz
     .simp only[if_neg y]at z;exact O a o z) (λa o z=>by
     by_cases y:a=h1.objs.size;.simp only[if_pos y]at z;cases z;subst y;exact⟨by rw[uE p1,W,eR];lia,pick .none p (as.map dq),cc,JV vv,e⟩
     .simp only[if_neg y]at z;obtain⟨j,p',U,e2,rfl⟩:=sy z;obtain⟨ar,e3,t,u,e4⟩:=pr j a U;rw[e2]at e3;cases e3;exact⟨by rw[eR];simp,[er p'.1 t,er p'.2 u],.cons ⟨t,rfl⟩ (.cons ⟨u,rfl⟩ .nil),⟨_,kk _ _ e4,rfl,0,rfl⟩⟩);rw[<-ah]at I';refine⟨.ref h1.objs.size,_,I',rfl,?_⟩;have ai:aN X.K (Bf (tu as kvs) F) (pick .non p (as.map V.ref)) (R9 (kvs.map tW)):=by rw[<-p2];exact Lg rs
    refine Am e0.sub ai (by rw[jJ hL];exact I.hok.fresh hsz) λv F2 G x rn=>k v F2 G ⟨e0.hs.trans x.hs,e0.fs.trans x.fs,x.sub,λc n n'=>?_⟩ ?_
    . by_cases e:Bf (tu as kvs) F c=none;.have:=x.gr c e n';cases z:H c with|none=>rfl|some o=>rw[B c o z]at this;exact this
      .exact e0.gr c n e
    obtain⟨b,xs,q1,q2,q3,q4,q5⟩:=rn;refine⟨b,xs,q1,q2,q3,q4,?_⟩;cases z:H b with|none=>rfl|some o=>rw[B b o z]at q5;cases q5
theorem M3{o:da}{to:TE}{f cpos:Pos}(ho:PE X o to)(i:g_ o "items" X.env (eg o X.env)=eg o X.env:=by rfl)(j:(f.endLine==cpos.line)=bj:=by rfl):PE X (.Call (.Attribute o "items" f) [] [] cpos) (λσ H Q=>to σ H λx l=>Km x [] l Q):=by intro g s σ H Q I h;refine wpAny_Call_method0_late i j (cN (ho g s σ H _ I h) λv s1⟨x,l,I1,r1,q1⟩=>?_);obtain⟨q,t,kvs,rfl,_,u,k⟩:=id q1;cases r1;obtain⟨ho,hz,y,vs,r,m,es,ep,n,p,z⟩:=(show bT X.prog X.w l s1.heap q (.eN t (.dK (kvs.map vV)))from I1.hok q _ u);refine⟨"dict","dict.items",PySem.F.plainAttrs_dict,PySem.F.slot_dict_items,PySem.F.type_dict_items,⟨m,n,p.1⟩,λb e=>?_,kb rfl (PySem.evalArgs_none (Kf g s1 σ l (.ref q) [] _ [] Q I1 rfl .nil q1))⟩;cases e;exact⟨m,n,p.2.1⟩
theorem Rc{x:Str}{p' f cpos:Pos}{o:da}(N:x="sorted")(hc:X.calm=bj)(O:Gl X x)(U:X.mg x=none)(j:(f.endLine==cpos.line)=bj)(W:SX X c o pa)(p:g_ o "items" X.env (eg o X.env)=eg o X.env:=by rfl):SX X c (.Call (.Name x p') [.Call (.Attribute o "items" f) [] [] cpos] [] pos) (.blt .Nr [pa]):=by
 subst N;obtain⟨ta,h1,Y⟩:=W.dG;refine⟨dh (eY (W4 hc) O U boot_sorted (bD (M3 h1 p j) dC)) ?_,λi h=>by cases h⟩;rintro σ H Q⟨F,ρ,r,A,g,e,k⟩;have e:((dG (isVar pa) (_H.ev c pa) ρ).bind λx ρ=>lift (blt .Nr [x]) ρ)=.ok r A:=e;obtain⟨d,Z,e1,s⟩:=aj e;have zz:=aF s;clear s;obtain⟨s,e3⟩:=zz;subst e3;refine Y g e1 λv F' H' st pv=>?_;obtain⟨kvs,rfl⟩:∃kvs,d=.fZ (.k kvs):=by cases d with
  |fZ m=>cases m with|k kvs=>exact⟨kvs,rfl⟩|t kvs=>cases s
  |_=>cases s
 obtain⟨so,he⟩:=bU (show(if kvs.length<=16777216/\kvs.Pairwise (λa b=>a.1<b.1)then ap (R.own (kvs.map tW))else none)=ap r from s);subst he;obtain⟨q,G,rfl,I⟩:=pv.fZ st.gs.sub;refine⟨q,G,kvs,rfl,rfl,I,λl u=>⟨l,q,G,kvs,rfl,aP,aJ.cY u q _ I,so,F',λb o e=>aJ.cY u b o (st.gs.sub b o e),λw B C y rn=>?_⟩⟩;have J:aJ H' (upd H' l (.ext (iv l q))):=aJ.cY u;have x3:Ext F' H' B C:=⟨J.trans y.hs,y.fs,y.sub,λb n n'=>by
  have:=y.gr b n n';by_cases L:b=l;.subst L;rw[u];rfl
  .rw[aH L]at this;exact this⟩;have E:dg X.K B C H' w (.own (kvs.map tW)):=by obtain⟨b,xs,q1,q2,q3,q4,M⟩:=rn;refine⟨b,xs,q1,q2,q3,q4,?_⟩;cases z:H' b with|none=>rfl|some o=>rw[J b o z]at M;cases M
 exact k w B C (st.trans (x3.stp st.gs)) (.later st (E.qF st.gs))
end
end _H
namespace _H
open PySem _L Spec PyProof.Rows
variable{o:Option V}{rows:List (List D)}
section
variable{K:PySem.W.Frag}{F F' F1 H H' H1 F0 H0:Hp}{ρ ρ' ρ1 ρ0:List Sl}{σ σ' σ1 σ0:_L.St}{x:Nat}{q:b_}{as:List b_}{rows rJ:List (List D)}
noncomputable def Jg:Sl->Bool|.aW=>bj|.hold _=>bj|_=>av
theorem jy{s:Sl}{i:Nat}{b:b_}(g:Jg s=bj)(h:bB (ρ.set x s) (σ.set x o) i b):bB ρ σ i b/\i≠x:=by
 obtain⟨⟨t,j,e,a⟩,f⟩:=h;by_cases c:x=i
 . subst c;rw[mu]at e;rw[if_pos rfl]at e;split at e;.cases e;cases s<;>first|(cases a;done)|(cases g;done)
   .cases e
 .rw[eB c]at e f;exact⟨⟨⟨t,j,e,a⟩,f⟩,λz=>c z.symm⟩
theorem GS.Gi{s:Sl}(f:Jg s=bj)(g:GS K F ρ σ H):GS K F (ρ.set x s) (σ.set x o) H:=by
 refine⟨g.sub,by simp[g.len],λi b d e=>?_,λi t k e h=>?_,λi j a h1 l=>g.dis i j a (jy f h1).1 (jy f l).1⟩
 . by_cases c:x=i
   . subst c;rw[mu,if_pos rfl]at e;split at e;.cases e;cases f
     .cases e
   .rw[eB c]at e ⊢;exact g.val i b d e
 . by_cases c:x=i
   . subst c;rw[mu,if_pos rfl]at e;split at e;.cases e;cases s<;>first|(cases h;done)|(cases f;done)
     .cases e
   .rw[eB c]at e ⊢;exact g.own i t k e h
theorem aL.Gi{s:Sl}{o:Option V}(a:Jg s=bj)(t:aL K F ρ σ H F1 ρ1 σ1 H1)(f:∀s0,ρ[x]?=ap s0->u9 s0=av):aL K F ρ σ H F1 (ρ1.set x s) (σ1.set x o) H1:=by
 refine⟨t.gs.Gi a,t.cG,t.yR,t.keep,λb⟨i,h⟩=>t.yS b ⟨i,(jy a h).1⟩,by simp[t.len],λi g e l=>?_⟩;have c:x≠i:=by rintro rfl;rw[f _ e]at l;cases l
 obtain⟨j,s2,k,m⟩:=t.lk i g e l;exact⟨by rw[eB c];exact j,s2,by rw[eB c];exact k,m⟩
theorem aL.free{i:Nat}{s1:Sl}(t:aL K F ρ σ H F1 ρ1 σ1 H1)(h:ρ1[i]?=ap s1)(a:u9 s1=av):∀s0,ρ[i]?=ap s0->u9 s0=av:=λs0 e=>by cases z:u9 s0 with|false=>rfl|true=>obtain⟨_,s2,b,c⟩:=t.lk i s0 e z;rw[h]at b;cases b;rw[c.u9 z]at a;cases a
structure WL(F:Hp)(ρ:List Sl)(σ:_L.St)(H:Hp)(a:b_)(xs:List V):Prop where kp:Kp ρ σ H a (.lst xs)fr:F a=none
theorem WL.stp{a:b_}{xs:List V}(h:WL F ρ σ H a xs)(s:aL K F ρ σ H F' ρ' σ' H'):WL F' ρ' σ' H' a xs:=by refine⟨h.kp.stp s,?_⟩;cases z:F' a with|none=>rfl|some o=>
   rcases s.yR a h.fr (by rw[z];simp)with y|y;.exact absurd y h.kp.2
   .rw[h.kp.1]at y;cases y
structure Nw(K:PySem.W.Frag)(x:Nat)(q:b_)(as:List b_)(F:Hp)(ρ:List Sl)(σ:_L.St)(H:Hp)(rows:List (List D)):Prop where
 slot:ρ[x]?=ap (.hold rows)val:σ[x]?=ap (ap (.ref q))out:WL F ρ σ H q (as.map V.ref)nd:(q::as).Nodup
 len:as.length=rows.length
 row:∀(k:Nat)(a:b_)(ds:List D),as[k]?=ap a->rows[k]?=ap ds->Wt K F ρ σ H a ds
theorem Nw.stp(w:Nw K x q as F ρ σ H rows)(s:aL K F ρ σ H F' ρ' σ' H'):Nw K x q as F' ρ' σ' H' rows:=by obtain⟨b,s2,c,e⟩:=s.lk x _ w.slot rfl;cases(show s2=.hold rows from e);exact⟨c,b.trans w.val,w.out.stp s,w.nd,w.len,λk a f h1 g=>(w.row k a f h1 g).stp s⟩
structure NB(K:PySem.W.Frag)(x:Nat)(q:b_)(as:List b_)(F0:Hp)(ρ0:List Sl)(σ0:_L.St)(H0:Hp)(F:Hp)(ρ:List Sl)(σ:_L.St)(H:Hp)(rows:List (List D)):Prop where
 stp:aL K F0 ρ0 σ0 H0 F ρ σ H
 fresh:∀b,b∈q::as->Own ρ0 σ0 b\/H0 b=none
 free:∀s0,ρ0[x]?=ap s0->u9 s0=av
 nw:Nw K x q as F ρ σ H rows
theorem NB.step(b:NB K x q as F0 ρ0 σ0 H0 F ρ σ H rows)(s:aL K F ρ σ H F' ρ' σ' H'):NB K x q as F0 ρ0 σ0 H0 F' ρ' σ' H' rows:=⟨b.stp.trans s,b.fresh,b.free,b.nw.stp s⟩
theorem DW{s:Sl}{a:b_}{b:HO}(c:Jg s=bj)(h:Kp ρ σ H a b):Kp (ρ.set x s) (σ.set x o) H a b:=⟨h.1,λ⟨i,z⟩=>h.2 ⟨i,(jy c z).1⟩⟩
theorem Pa{s:Sl}{a:b_}{b:List D}(c:Jg s=bj)(h:Wt K F ρ σ H a b):Wt K F (ρ.set x s) (σ.set x o) H a b:=by obtain⟨⟨xs,h1,e⟩,f⟩:=h;exact⟨⟨xs,DW c h1,e⟩,f⟩
theorem aL.afC{Da:b_}{o:HO}(s:aL K F ρ σ H F1 ρ1 σ1 H1)(h:Own ρ σ Da\/H Da=none)(j:F1 Da=none)(ho:¬ Own ρ1 σ1 Da):aL K F ρ σ H F1 ρ1 σ1 (upd H1 Da o):=by
 refine⟨⟨λb u e=>?_,s.gs.len,s.gs.val,λi t c e f=>?_,s.gs.dis⟩,s.cG,s.yR,λb u e n=>?_,s.yS,s.len,s.lk⟩
 . have:b≠Da:=by rintro rfl;rw[j]at e;cases e
   rw[aH this];exact s.gs.sub b u e
 . obtain⟨a,xs,g,k,l,m⟩:=s.gs.own i t c e f;have:a≠Da:=by rintro rfl;exact ho ⟨i,⟨t,c,e,f⟩,g⟩
   exact⟨a,xs,g,by rw[aH this];exact k,l,m⟩
 . have:b≠Da:=by
    rintro rfl;rcases h with h|h;.exact n h
    .rw[h]at e;cases e
   rw[aH this];exact s.keep b u e n
theorem NB.mut{r:Nat}{a:b_}{row e:List D}{ys:List V}(b:NB K x q as F0 ρ0 σ0 H0 F ρ σ H rows)(g:as[r]?=ap a)(hr:rows[r]?=ap row)(l:aN K F ys e):NB K x q as F0 ρ0 σ0 H0 F (ρ.set x (.hold (rows.set r e))) σ (upd H a (.lst ys)) (rows.set r e):=by
 have w:=b.nw.row r a row g hr;obtain⟨⟨xs,k1,r1⟩,f1⟩:=w;have m:x<ρ.length:=(gh b.nw.slot).1;have sx:σ.set x (ap (.ref q))=σ:=by have:=b.nw.val;obtain⟨h1,f⟩:=gh this;rw[<-f];simp
 have mem:a∈q::as:=dL _ (du g);have s1:=(b.stp.afC (o:=.lst ys) (b.fresh a mem) f1 k1.2).Gi (x:=x) (s:=.hold (rows.set r e)) (o:=ap (.ref q)) rfl b.free;rw[sx]at s1;have n:q≠a:=by have:=(fc.mp b.nw.nd).1;rintro rfl;exact this (du g)
 have own:∀{c:b_},¬ Own ρ σ c->¬ Own (ρ.set x (.hold (rows.set r e))) σ c:=λ{c}h⟨i,z⟩=>h ⟨i,by have:=jy (x:=x) (s:=.hold (rows.set r e)) (o:=ap (.ref q)) (σ:=σ) (ρ:=ρ) rfl (b:=c) (i:=i) (by rw[sx];exact z);exact this.1⟩;refine⟨s1,b.fresh,b.free,⟨ce m,b.nw.val,⟨⟨by rw[aH n];exact b.nw.out.kp.1,own b.nw.out.kp.2⟩,b.nw.out.fr⟩,b.nw.nd,by simp[b.nw.len],λk c p h1 f=>?_⟩⟩;by_cases j:k=r;.subst j;rw[g]at h1;cases h1;have t:k<rows.length:=(gh hr).1;rw[ce t]at f;cases f;exact⟨⟨ys,⟨aP,own k1.2⟩,l⟩,f1⟩
 . rw[eB (λz=>j z.symm)]at f;obtain⟨⟨u,k2,v⟩,f2⟩:=b.nw.row k c p h1 f;have nc:c≠a:=by rintro rfl;have nd:=(fc.mp b.nw.nd).2;obtain⟨B,y⟩:=gh h1;obtain⟨l2,A⟩:=gh g;exact j ((List.getElem_inj nd).mp (y.trans A.symm))
   exact⟨⟨u,⟨by rw[aH nc];exact k2.1,own k2.2⟩,v⟩,f2⟩
noncomputable def Fz(F H:Hp)(bs:List b_):Hp:=λb=>if b∈bs then H b else F b
theorem wu{G:Hp}:∀{as:List b_}{rows:List (List D)},as.length=rows.length->(∀(k:Nat)(a:b_)(c:List D),as[k]?=ap a->rows[k]?=ap c->Rep K G (.ref a) (.lst c))->aN K G (as.map V.ref) (rows.map D.lst)|[],[],_,_=>.nil|a::as,c::rows,h,k=>.cons (k 0 a c rfl rfl) (wu (by simpa using h) λj b es h1 e=>k (j+1) b es (by simpa using h1) (by simpa using e))|[],_::_,h,_=>by simp at h|_::_,[],h,_=>by simp at h
theorem Nw.Te(w:Nw K x q as F ρ σ H rows){b:b_}(hb:b∈q::as):F b=none/\¬ Own ρ σ b:=by
 rcases de.mp hb with rfl|hb;.exact⟨w.out.fr,w.out.kp.2⟩
 . obtain⟨k,a⟩:=k6 hb;have c:k<rows.length:=by rw[<-w.len];exact(gh a).1
   obtain⟨⟨xs,k1,_⟩,f1⟩:=w.row k b rows[k] a (by simp[c]);exact⟨f1,k1.2⟩
theorem Nw.fz(w:Nw K x q as F ρ σ H rows)(c:aJ F H):aJ F (Fz F H (q::as))/\aJ (Fz F H (q::as)) H/\Rep K (Fz F H (q::as)) (.ref q) (.lst (rows.map D.lst)):=by
 have s1:aJ F (Fz F H (q::as)):=λb o e=>by unfold Fz;rw[if_neg λf=>by rw[(w.Te f).1]at e;cases e];exact e
 refine⟨s1,λb o e=>?_,?_⟩
 . unfold Fz at e;split at e;.exact e
   .exact c b o e
 .rw[Rep];refine⟨q,as.map V.ref,rfl,gq.of (by unfold Fz;rw[if_pos gX];exact w.out.kp.1),wu w.len λk a g h1 h=>?_⟩;obtain⟨⟨xs,k1,r1⟩,f1⟩:=w.row k a g h1 h;rw[Rep];exact⟨a,xs,rfl,gq.of (by unfold Fz;rw[if_pos (dL _ (du h1))];exact k1.1),r1.mono s1⟩
theorem NB.eN(b:NB K x q as F0 ρ0 σ0 H0 F ρ σ H rows):aL K F0 ρ0 σ0 H0 (Fz F H (q::as)) (ρ.set x (.val av (.lst (rows.map D.lst)))) σ H:=by
 obtain⟨s1,s2,w⟩:=b.nw.fz b.stp.gs.sub;have g:=b.stp.gs;have s:x<ρ.length:=(gh b.nw.slot).1;have k:∀{j:Nat}{c:b_},bB (ρ.set x (.val av (.lst (rows.map D.lst)))) σ j c->bB ρ σ j c/\x≠j:=λ{j c}⟨⟨t,r,e,m⟩,e1⟩=>by
  by_cases f:x=j;.subst f;rw[ce s]at e;cases e;cases m
  .rw[eB f]at e;exact⟨⟨⟨t,r,e,m⟩,e1⟩,f⟩
 refine⟨⟨s2,by simp[g.len],λi y d e=>?_,λi t r e m=>?_,λi j c h1 p=>g.dis i j c (k h1).1 (k p).1⟩,b.stp.cG.trans s1,λc n u=>?_,b.stp.keep,λc⟨j,h⟩=>b.stp.yS c ⟨j,(k h).1⟩,by simp[b.stp.len],λi t e l=>?_⟩
 . by_cases f:x=i;.subst f;rw[ce s]at e;cases e;exact⟨_,b.nw.val,w⟩
   .rw[eB f]at e;obtain⟨v,h1,p⟩:=g.val i y d e;exact⟨v,h1,p.mono s1⟩
 . by_cases f:x=i;.subst f;rw[ce s]at e;cases e;cases m
   .rw[eB f]at e;obtain⟨a,o,h1,p,z,A⟩:=g.own i t r e m;refine⟨a,o,h1,p,?_,A.mono s1⟩;unfold Fz;rw[if_neg λB=>(b.nw.Te B).2 ⟨i,⟨t,r,e,m⟩,h1⟩];exact z
 . by_cases hc:c∈q::as;.exact(b.fresh c hc).imp id ni
   . have:Fz F H (q::as) c=F c:=by unfold Fz;rw[if_neg hc]
     rw[this]at u;exact b.stp.yR c n u
 . have c:x≠i:=by rintro rfl;rw[b.free _ e]at l;cases l
   obtain⟨C,s3,E,G⟩:=b.stp.lk i t e l;exact⟨C,s3,by rw[eB c];exact E,G⟩
end
inductive Ux(K:PySem.W.Frag)(x:Nat)(f:List Sl->Res Fl)(E:Ends)(σ:_L.St)(H:Hp):Prop where|mk(F0:Hp)(ρ0:List Sl)(σ0:_L.St)(H0 F:Hp)(ρ:List Sl)(q:b_)(as:List b_)(rows:List (List D))(fl:Fl)(ρ':List Sl)(b:NB K x q as F0 ρ0 σ0 H0 F ρ σ H rows)(e:f ρ=.ok fl ρ')(k:∀F' σ' H',aL K F0 ρ0 σ0 H0 F' ρ' σ' H'->aJ F F'->((∀r,fl≠.ret r)->∃rJ,NB K x q as F0 ρ0 σ0 H0 F' ρ' σ' H' rJ)->J3 K E F' ρ' σ' H' ρ0 σ0 H0 fl)
inductive ach(K:PySem.W.Frag)(x:Nat)(f:List Sl->Res Fl)(E:Ends)(σ:_L.St)(H:Hp):Prop where|mk(F0:Hp)(ρ0:List Sl)(σ0:_L.St)(H0 F:Hp)(ρ:List Sl)(q:b_)(as:List b_)(rows:List (List D))(fl:Fl)(ρ':List Sl)(b:NB K x q as F0 ρ0 σ0 H0 F ρ σ H rows)(e:f ρ=.ok fl ρ')(k:∀F' σ' H',aL K F0 ρ0 σ0 H0 F' ρ' σ' H'->J3 K E F' ρ' σ' H' ρ0 σ0 H0 fl)
structure SSN(X:Cx)(c:Call)(n x:Nat)(st:ek)(s:S):Prop where p:PS X st (Ux X.K x (ex c n s))
structure Zq(X:Cx)(c:Call)(n x:Nat)(st:List ek)(s:List S):Prop where p:qp X st (Ux X.K x (fJ c n s))
structure SBT(X:Cx)(c:Call)(n x:Nat)(st:List ek)(s:List S):Prop where p:qp X st (ach X.K x (fJ c n s))
section
variable{X:Cx}{c:Call}{n x:Nat}{e a b d tg iter:da}{p pa pb pd:P}{pos:Pos}{body:List ek}{ss:List S}{st:ek}{s:S}{sts:List ek}
theorem sU:Zq X c n x [] []:=⟨lA su λD σ H⟨f,ρ0,σ0,H0,F,ρ,q,as,rows,fl,ρ',nb,e,k⟩=>by rw[xs0]at e;cases e;exact k F σ H nb.stp (.refl _) λ_=>⟨rows,nb⟩⟩
theorem uZ(h1:SSN X c n x st s)(w:Zq X c n x sts ss):Zq X c n x (st::sts) (s::ss):=by refine⟨lA (jm h1.p w.p) ?_⟩;rintro D σ H⟨h,f,g,i,F,ρ,q,as,rows,y,t,l,e,k⟩;rw[Tt]at e;obtain⟨f1,j,m,e⟩:=aj e;cases f1 with|next=>refine⟨h,f,g,i,F,ρ,q,as,rows,.next,j,l,m,λF1 A L s1 B nn=>?_⟩;obtain⟨C,E⟩:=nn (λr z=>by cases z);exact⟨h,f,g,i,F1,j,q,as,C,y,t,E,e,λG u I s2 J v=>k G u I s2 (B.trans J) v⟩|brk=>cases e;exact⟨h,f,g,i,F,ρ,q,as,rows,.brk,_,l,m,k⟩|cont=>cases e;exact⟨h,f,g,i,F,ρ,q,as,rows,.cont,_,l,m,k⟩|ret r=>cases e;exact⟨h,f,g,i,F,ρ,q,as,rows,.ret r,_,l,m,k⟩
theorem KH(h1:SSN X c n x st s)(w:SBT X c n x sts ss):SBT X c n x (st::sts) (s::ss):=by refine⟨lA (jm h1.p w.p) ?_⟩;rintro D σ H⟨j,g,h,l,F,ρ,q,as,rows,y,v,t,e,k⟩;rw[Tt]at e;obtain⟨f1,m,u,e⟩:=aj e;cases f1 with|next=>refine⟨j,g,h,l,F,ρ,q,as,rows,.next,m,t,u,λF1 f i s1 C nn=>?_⟩;obtain⟨A,B⟩:=nn (λr z=>by cases z);exact⟨j,g,h,l,F1,m,q,as,A,y,v,B,e,k⟩|brk=>cases e;exact⟨j,g,h,l,F,ρ,q,as,rows,.brk,_,t,u,λF1 f i s1 _ _=>k F1 f i s1⟩|cont=>cases e;exact⟨j,g,h,l,F,ρ,q,as,rows,.cont,_,t,u,λF1 f i s1 _ _=>k F1 f i s1⟩|ret r=>cases e;exact⟨j,g,h,l,F,ρ,q,as,rows,.ret r,_,t,u,λF1 f i s1 _ _=>k F1 f i s1⟩
theorem PX(h:SB X c n sts ss):SBT X c n x sts (.eN x::ss):=by refine⟨lA h ?_⟩;rintro D σ H⟨y,l,m,A,F,ρ,q,as,rows,g,f,i,e,k⟩;rw[Tt]at e;obtain⟨f1,u,j,e⟩:=aj e;rw[_H.X25,i.nw.slot]at j;cases j;have t:=i.eN;refine⟨_,_,g,f,t.gs,e,λF' σ' H' s=>?_⟩;have z:=k F' σ' H' (t.trans s);cases g with|next=>exact z|brk=>exact z|cont=>exact z|ret r=>exact λv w=>z v (w.later t)
theorem Wo{r u:List ek}{v w:List S}(hc:ST X c e p)(A:Zq X c n x r v)(B:Zq X c n x u w):SSN X c n x (.If e r u pos) (.ifs p v w):=by refine⟨cU (FT hc A.p B.p) ?_⟩;rintro D σ H⟨C,j,l,E,F,ρ,q,as,rows,y,i,z,e,k⟩;rw[_H.X13]at e;obtain⟨t,g,G,e⟩:=aj e;refine⟨F,ρ,t,g,z.stp.gs,G,λF1 I s1=>?_⟩;have go:∀{f:List Sl->Res Fl},f g=.ok y i->Ux X.K x f D σ I:=λ{f}h=>⟨C,j,l,E,F1,g,q,as,rows,y,i,z.step s1,h,λJ m L s2 M nn=>k J m L s2 (s1.cG.trans M) nn⟩;cases t with|true=>rw[if_pos rfl]at e;exact go e|false=>rw[if_neg dc]at e;exact go e
theorem Ni{ρ:List Sl}(h:lM ρ x=ap rows):ρ[x]?=ap (.hold rows):=by
 unfold lM at h;split at h;.rename_i z;cases h;exact z
 .cases h
noncomputable def WalkN(K:PySem.W.Frag)(J:It)(g:List D)(F1:Hp):Prop:=∀(k:Nat)(F' H':Hp),aJ F1 F'->aJ F' H'->(∀d,g[k]?=ap d->J.go k H'/\∀x h,J.Nm k H' x h->∃f,Ext F' H' f h/\Rep K f x d)/\(g.length<=k->J.stop k H')
inductive agu(K:PySem.W.Frag)(f:Ev)(σ:_L.St)(H:Hp)(R:It->Hp->Prop):Prop where|mk(F:Hp)(ρ:List Sl)(r:_H.R)(ρ1:List Sl)(ds:List D)(g:GS K F ρ σ H)(e:f ρ=.ok r ρ1)(e2:items r.d=ap ds)(k:∀J F1 H1,aL K F ρ σ H F1 ρ1 σ H1->WalkN K J ds F1->R J H1)
structure SIN(X:Cx)(c:Call)(tg e:da)(p:P):Prop where p:PI X tg e (agu X.K (_H.ev c p))
theorem QS(h:SX X c e p):SIN X c tg e p:=by refine⟨n6 (yK h.ev) ?_⟩;rintro σ H R⟨F,ρ,r,m,y,g,e,i,k⟩;refine⟨F,ρ,r,m,g,e,λv F' H' s t=>?_⟩;obtain⟨z,s2,_,j⟩:=s.eN t;cases hd:r.d with|tup es=>rw[hd]at j i;cases i;rw[Rep]at j;obtain⟨a,xs,rfl,h1,q⟩:=j;exact⟨a,rfl,.inr ⟨⟨xs,aJ.jq s2.gs.sub h1⟩,k _ _ _ s2 λk u w f l=>Ej (aJ.jq l (aJ.jq f h1)) (q.mono f) l k⟩⟩|lst es=>rw[hd]at j i;cases i;rw[Rep]at j;obtain⟨a,xs,rfl,h1,q⟩:=j;exact⟨a,rfl,.inl ⟨⟨xs,s2.gs.sub.seq h1⟩,k _ _ _ s2 λk u w f l=>uM (l.seq (f.seq h1)) (q.mono f) l k⟩⟩|_=>rw[hd]at i;cases i
theorem G6{K:PySem.W.Frag}{F1:Hp}(i j:Int):WalkN K (YQ i (j-i).toNat) ((eu (j-i).toNat).map λ(k:Nat)=>D.int (i+(k:Int))) F1:=by
 refine λk F' H' _ g=>⟨λd hd=>?_,λh=>?_⟩;.rw[eW]at hd;obtain⟨m,l,q⟩:=map_some hd;obtain⟨h1,f⟩:=gh l;rw[List.getElem_range]at f;subst f;subst q;rw[kR]at h1;refine⟨h1,?_⟩;rintro x u⟨r,t⟩;subst r;subst t;exact⟨F',.refl g,cL _⟩
 .rw[dV,kR]at h;exact h
theorem J6{x:Str}{p':Pos}(m:x="range")(q:Gl X x)(t:X.mg x=none)(u:SX X c a pa)(hs:cj [a] X.env=[(av,eg a X.env)]:=by rfl):SIN X c tg (.Call (.Name x p') [a] [] pos) (.vD (.con (.int 0)) pa):=by
 subst m;obtain⟨L,h1,w⟩:=u.dG;refine⟨n6 (xj q t (bD h1 dC hs) hs) ?_⟩;rintro σ H R⟨F,ρ,r,y,M,g,l,z,k⟩;rw[_H.E21]at l;obtain⟨N,A,B,f⟩:=aj l;have C:=aF f;clear f;obtain⟨f,E⟩:=C;subst E;obtain⟨O,G,I,h⟩:=aj B;cases h;obtain⟨i,f1,f⟩:=dj f;obtain⟨j,f2,f⟩:=dj f;obtain⟨⟨b1,b2,b3,b4⟩,f⟩:=bU f;have f1:i=0:=by cases f1;rfl
 subst f1;subst f;cases z;cases dZ f2;refine w g I λv F' H' s J=>⟨j,by rw[J.int],by lia,by lia,?_⟩;have:=G6 (K:=X.K) (F1:=F') 0 j;rw[qc]at this;refine k _ F' H' s ?_;rw[qc];exact this
theorem EY{g:TG}{is:List Nat}{one:Bool}(hp:gy (cM X.prog X.w) X.A X.env X.xe)(hc:X.calm=bj)(hi:SIN X c tg iter p)(hg:PG X tg g)(ae:G5 X.K (λρ d=>cO ρ is one d) g)(hb:Zq X c n x body ss)(hs:∀x,eH iter X.env x=eL x:=by intro _;rfl):SSN X c n x (.For tg iter body [] pos) (.Ik p is one ss):=by
 refine⟨cU (Bj hp hc hi.p hg hb.p hs) ?_⟩;rintro D σ H⟨F0,G,I,H0,F,ρ,q,as,rows,fl,U,nb,e,k⟩;rw[_H.X24]at e;obtain⟨r,W,e1,e⟩:=aj e;obtain⟨j,ai,e9,e2⟩:=aj e;have zz:=aF e9;clear e9;obtain⟨e9,af⟩:=zz;subst af;refine⟨F,ρ,r,W,j,nb.stp.gs,e1,e9,λJ F1 H1 s1 w=>?_⟩;refine⟨λi m u Hi=>∃E f Q,NB X.K x q as F0 G I H0 E f u Hi Q/\aJ F1 E/\m=j.length-i/\i<=j.length/\lB is one (fJ c n ss) (j.drop i) f=.ok fl U,⟨_,F1,W,rows,nb.step s1,.refl _,rfl,xu,e2⟩,?_⟩;rintro i m u Hi⟨E,f,Q,t,L,rfl,al,l⟩;obtain⟨w1,w2⟩:=w i E Hi L t.stp.gs.sub;by_cases B:i<j.length
 . right;have hd:j[i]?=ap j[i]:=by simp[B]
   obtain⟨go,step⟩:=w1 _ hd;refine⟨go,λσ' H'=>∃m',m'<j.length-i/\∃E f Q,NB X.K x q as F0 G I H0 E f σ' H' Q/\aJ F1 E/\m'=j.length-(i+1)/\i+1<=j.length/\lB is one (fJ c n ss) (j.drop (i+1)) f=.ok fl U,λσ' H' z=>z,λy H' yy=>?_⟩;obtain⟨F2,ext,rx⟩:=step y H' yy;have t2:=ext.stp t.stp.gs;rw[f_ B,Di]at l;cases hbd:cO f is one j[i]with|none=>rw[hbd]at l;cases l|some Y=>rw[hbd]at l;obtain⟨Z,M,eb,l⟩:=aj l;refine ae y _ F2 f Y u H' _ t2.gs rx hbd λam sb=>?_;have t3:=t2.trans sb;refine⟨F0,G,I,H0,F2,Y,q,as,Q,Z,M,t.step t3,eb,λF4 ac H4 s4 ag N=>?_⟩;have C:aJ F1 F4:=L.trans (ext.fs.trans ag);cases Z with|next=>obtain⟨NP,O⟩:=N (λr z=>by cases z);exact⟨_,by lia,F4,M,NP,O,C,rfl,B,l⟩|cont=>obtain⟨NP,O⟩:=N (λr z=>by cases z);exact⟨_,by lia,F4,M,NP,O,C,rfl,B,l⟩|brk=>cases l;exact k F4 ac H4 s4 (s1.cG.trans C) λ_=>N (λr z=>by cases z)|ret r=>cases l;exact λv rr=>k F4 ac H4 s4 (s1.cG.trans C) (λh=>(h r rfl).elim) v rr
 . left;have ah:j.drop i=[]:=by rw[i_];lia
   rw[ah,MT]at l;cases l;exact⟨w2 (by lia),k E u Hi t.stp (s1.cG.trans L) λ_=>⟨Q,t⟩⟩
end
section
variable{X:Cx}{c:Call}{n:Nat}{e a b d i j:da}{p pa pb pd pi pj:P}{pos:Pos}
theorem Q3{ρ f:List Sl}{x:Nat}{o:Option (List (List D))}{g:Fl}(h:Hv ρ x o=.ok g f):∃rows,o=ap rows/\g=.next/\f=ρ.set x (.hold rows):=by cases o with|none=>cases h|some rows=>cases h;exact⟨rows,rfl,rfl,rfl⟩
section
variable{K:PySem.W.Frag}{F H F0 H0:Hp}{ρ ρ0:List Sl}{σ σ0:_L.St}{x:Nat}{q:b_}{as:List b_}{rows rJ:List (List D)}
theorem NB.hold(f:NB K x q as F0 ρ0 σ0 H0 F ρ σ H rows)(h:lM ρ x=ap rJ):rJ=rows:=by have:=Ni h;rw[f.nw.slot]at this;cases this;rfl
theorem NB.at{k:Int}{r:Nat}{row:List D}(f:NB K x q as F0 ρ0 σ0 H0 F ρ σ H rows)(h1:_H.lR rows.length k=ap r)(h:rows[r]?=ap row):∃a ys,as[r]?=ap a/\Hu (as.map V.ref) k=ap (.ref a)/\H a=ap (.lst ys)/\aN K F ys row:=by
 have g:r<as.length:=by rw[f.nw.len];exact(gh h).1
 obtain⟨⟨ys,k1,r1⟩,_⟩:=f.nw.row r as[r] row (by simp[g]) h;refine⟨as[r],ys,by simp[g],?_,k1.1,r1⟩;unfold Hu;rw[dV,f.nw.len];rw[show _L.lR rows.length k=ap r from h1];simp[g]
theorem NB.ye{g:D}{row:List D}(l:NB K x q as F0 ρ0 σ0 H0 F ρ σ H rows)(h:_H.ye ρ x g=ap row):∃k a,(∃r:Nat,as[r]?=ap a)/\Hu (as.map V.ref) k=ap (.ref a)/\g=.int k/\∃ys,H a=ap (.lst ys)/\aN K F ys row:=by unfold _H.ye at h;obtain⟨f,h1,h⟩:=dj h;cases l.hold h1;obtain⟨k,m,h⟩:=dj h;obtain⟨r,s,t⟩:=dj h;obtain⟨a,ys,u,v,w,y⟩:=l.at s t;exact⟨k,a,⟨r,u⟩,v,dZ m,ys,w,y⟩
end
theorem Hz{l:List (List D)}{k:Int}{f:List D->Option (List D)}(h:lV rows k f=ap l):∃r row g,_H.lR rows.length k=ap r/\rows[r]?=ap row/\f row=ap g/\l=rows.set r g:=by unfold lV at h;obtain⟨r,h1,h⟩:=dj h;obtain⟨row,m,h⟩:=dj h;obtain⟨g,q,h⟩:=map_some h;exact⟨r,row,g,h1,m,q,h.symm⟩
theorem M4{x:Str}{k:Nat}{t f g cpos:Pos}(hN:X.N[k]?=ap x)(hv:vR X.env.scope x)(hi:SX X c i pi)(he:SX X c e p)(G:o8 i:=by intro _ _;rfl)(h:(g.endLine==cpos.line)=bj:=by rfl)(hs:cj [e] X.env=(av,eg e X.env)::cj [] X.env:=by rfl)(l:g_ (.Subscript (.Name x t) i f) "append" X.env (eg (.Subscript (.Name x t) i f) X.env)=eg (.Subscript (.Name x t) i f) X.env:=by rfl)(u:((fS cpos (cj [e] X.env)).all (λx=>!x.1)&&(mA cpos (kf [] X.env)).all (λx=>x.1.isSome)&&decide ([e].length+([]:List iX).length+(if([]:List iX).isEmpty then 0 else 1)<30))=bj:=by rfl)(I:eP (.Call (.Attribute (.Subscript (.Name x t) i f) "append" g) [e] [] cpos) none pos.line X.env=eL av:=by rfl)(hd:(x==("__debug__":Str))=av:=by decide)(J:(x==("__classdict__":Str))=av:=by decide):SSN X c n k (.Expr (.Call (.Attribute (.Subscript (.Name x t) i f) "append" g) [e] [] cpos) pos) (.Ny k pi p):=by obtain⟨ti,L,M⟩:=hi.dG;refine⟨cU (tG (Ga plainAttrs_list PySem.F.slot_list_append PySem.F.type_list_append qM (Gp xU (gb hN hv hd J) L G) (bD he.ev dC hs) l u h hs) I) ?_⟩;rintro E σ H⟨F0,ai,al,H0,F,ρ,q,as,rows,fl,am,O,e,kk⟩;rw[_H.X23]at e;obtain⟨dk,Q,e2,e⟩:=aj e;obtain⟨ag,ah,B,e⟩:=aj e;have zz:=aF B;clear B;obtain⟨B,U⟩:=zz;subst U;obtain⟨r,W,e3,e⟩:=aj e;obtain⟨rs,w,rfl,rfl⟩:=Q3 e;refine⟨.ref q,O.nw.val,M O.stp.gs e2 λvi F1 H1 s1 pi=>?_⟩;have C:=O.step s1;obtain⟨k0,a,g1,g2,g0,ys,g3,g4⟩:=C.ye B;rw[g0]at pi;refine⟨q,_,k0,_,rfl,pi.int,gq.of C.nw.out.kp.1,g2,.inl ⟨rfl,ys,gq.of g3⟩,F1,Q,r,W,C.stp.gs,e3,λv F2 H2 s2 rr=>?_⟩;obtain⟨F3,s3,_,rp⟩:=s2.eN rr;have s:=C.step s3;obtain⟨Y,e5,w⟩:=dj w;cases s.hold e5;obtain⟨k1,e6,w⟩:=dj w;obtain⟨m,row,nW,f1,f2,f3,rfl⟩:=Hz w;obtain⟨Z,rfl⟩:=bU f3;have:=dZ e6;rw[g0]at this;cases this;obtain⟨a',ac,ae,y,af,z⟩:=s.at f1 f2;rw[g2]at y;cases y;have A:=s.mut ae f2 (z.append (.cons rp .nil));exact⟨a,ac,v,rfl,rfl,af,by rw[z.length];exact Z,kk F3 σ _ A.stp (s1.cG.trans s3.cG) λ_=>⟨_,A⟩⟩
end
section
variable{K:PySem.W.Frag}{F H F1 H1:Hp}{ρ ρ1:List Sl}{σ σ1:_L.St}
theorem aL.since{b:b_}(s:aL K F ρ σ H F1 ρ1 σ1 H1)(h:H1 b=none):Own ρ σ b\/H b=none:=by
 by_cases ho:Own ρ σ b;.exact .inl ho
 .right;cases e:H b with|none=>rfl|some o=>rw[s.keep b o e ho]at h;cases h
theorem NB.mk'{x:Nat}{q:b_}{as:List b_}{s1:Sl}(s:aL K F ρ σ H F1 ρ1 σ1 H1)(e:ρ1[x]?=ap s1)(g:u9 s1=av)(h:WL F1 ρ1 σ1 H1 q (as.map V.ref))(nd:(q::as).Nodup)(len:as.length=rows.length)(row:∀(k:Nat)(a:b_)(c:List D),as[k]?=ap a->rows[k]?=ap c->Wt K F1 ρ1 σ1 H1 a c)(fr:∀b,b∈q::as->Own ρ σ b\/H b=none):NB K x q as F ρ σ H F1 (ρ1.set x (.hold rows)) (σ1.set x (ap (.ref q))) H1 rows:=by
 have hi:x<ρ1.length:=(gh e).1;have f:x<σ1.length:=by rw[<-s.gs.len];exact hi
 exact⟨s.Gi rfl (s.free e g),fr,s.free e g,⟨ce hi,ce f,⟨DW rfl h.kp,h.fr⟩,nd,len,λk a c h1 i=>Pa rfl (row k a c h1 i)⟩⟩
end
theorem M5{K:PySem.W.Frag}{F H:Hp}{ρ e l:List Sl}{σ:_L.St}{ul:List Sl->List Sl}{ti:TI}{is:List Nat}{one:Bool}{c:Call}{el:Ev}{g:TG}{Q:VK}{f:List D}{m n:Nat}(hm:σ.length=m)(ay:ou K m is one g)(aE:∀R:It->Hp->Prop,(∀J F1 X,Walk K F ρ σ H ul J f F1 e X->R J X)->ti σ H R)(bq:f.length<=lim)(e2:jl is one el f [] (e++cp n .aW)=.ok rows l)(k:∀ q as F' H',aL K F ρ σ H F' (ul (l.take e.length)) σ H'->WL F' (ul (l.take e.length)) σ H' q (as.map V.ref)->(q::as).Nodup->as.length=rows.length->(∀(k:Nat)(a:b_)(f:List D),as[k]?=ap a->rows[k]?=ap f->Wt K F' (ul (l.take e.length)) σ H' a f)->(∀b,b∈q::as->Own ρ σ b\/H b=none)->Q (.ref q) H'):wQ n ti g (Hk K (pq c none)) (yc K el) σ H Q:=by
 refine aE _ λJ F1 X w Da Y=>?_;have aI:e.length=σ.length:=w.gs.len;have gm:=w.gs.more (n:=n) (τ:=cp n none) (by simp);have fD:F1 Da=none:=by cases q:F1 Da with|none=>rfl|some o=>rw[w.gs.sub Da o q]at Y;cases Y
 have nO:¬ Own (e++cp n .aW) (σ++cp n none) Da:=λ⟨i,⟨t,dt,q1,q2⟩,q3⟩=>by obtain⟨a,ys,z1,z2,_⟩:=gm.own i t dt q1 q2;rw[q3]at z1;cases z1;rw[Y]at z2;cases z2
 refine⟨λi mm ys j M=>∃N u B as,aL K F1 (e++cp n .aW) (σ++cp n none) X N u j M/\j.take m=σ/\ys=as.map V.ref/\M Da=ap (.lst ys)/\N Da=none/\¬ Own u j Da/\(Da::as).Nodup/\as.length=B.length/\(∀(k:Nat)(a:b_)(f:List D),as[k]?=ap a->B[k]?=ap f->Wt K N u j M a f/\(Own (e++cp n .aW) (σ++cp n none) a\/X a=none))/\B.length<=i/\mm=f.length-i/\i<=f.length/\jl is one el (f.drop i) B u=.ok rows l,⟨_,F1,_,[],[],(aL.refl gm).Mw Y fD nO,by rw[mi (by lia),iA (by lia)],rfl,aP,fD,nO,by simp,rfl,λk a f h=>by simp at h,xu,rfl,xu,e2⟩,?_⟩;rintro i mm ys j M⟨N,u,B,as,si,am,Z,hD,hF,hO,ac,C,I,br,rfl,bt,G⟩;refine⟨hD,?_⟩;have stay:∀{F2 H2:Hp}{ae:List Sl}{L:_L.St},aL K N u j M F2 ae L H2->H2 Da=ap (.lst ys)/\F2 Da=none/\¬ Own ae L Da:=λ{F2 H2 ae L}s=>by have:=(WL.stp (xs:=ys) ⟨⟨hD,hO⟩,hF⟩ s);exact⟨this.kp.1,this.fr,this.kp.2⟩
 obtain⟨s1,s2⟩:=w.src n i N u j M si;by_cases af:i<f.length
 . right;have hd:f[i]?=ap f[i]:=by simp[af]
   obtain⟨go,step⟩:=s1 _ hd;refine⟨go,λx H2 y=>?_⟩;obtain⟨F2,ext,rx⟩:=step x H2 y;have t2:=ext.stp si.gs;rw[f_ af,Mu]at G;cases hbd:cO u is one f[i]with|none=>rw[hbd]at G;cases G|some U=>rw[hbd]at G;obtain⟨re,ag,ee,G⟩:=aj G;cases re with|val _=>cases G|own ah=>
     replace G:jl is one el (f.drop (i+1)) (B++[ah]) ag=.ok rows l:=G;refine ay x _ F2 u U j H2 _ t2.gs rx hbd λL sb aS=>?_;have t3:=t2.trans sb;refine⟨F2,U,bj,U,t3.gs,by rw[pq],λF4 H4 s4=>?_⟩;have t4:=t3.trans s4;refine(show yc K el L H4 _ from⟨F4,U,.own ah,ag,t4.gs,ee,λv F5 H5 s5 rr=>?_⟩);have t6:=t4.trans s5;obtain⟨y1,y2,y3⟩:=stay t6;obtain⟨z1,z2,z3⟩:=stay t4;have ai:ys.length<sizeLine:=by have O:lim=sizeLine:=rfl;rw[Z,dV];lia
     obtain⟨A,xs,rfl,a1,a2,a3,a4,a5⟩:=rr;have ar:A≠Da:=by
      rintro rfl;rcases a5 with z|z;.exact z3 z
      .rw[z1]at z;cases z
     have nA:A∉as:=λhA=>by
      obtain⟨k0,E⟩:=k6 hA;have al:k0<B.length:=by rw[<-C];exact(gh E).1
      obtain⟨⟨zs,k1,_⟩,_⟩:=(I k0 A B[k0] E (by simp[al])).1.stp t4;rcases a5 with z|z;.exact k1.2 z
      .rw[k1.1]at z;cases z
     have fA:Own (e++cp n .aW) (σ++cp n none) A\/X A=none:=by
      have t:=si.trans t4;rcases a5 with z|z;.exact t.yS A z
      .exact t.since z
     refine⟨y1,ai,_,by lia,F5,ag,B++[ah],as++[A],(si.trans t6).Mw Y y2 y3,aS.trans am,by rw[Z];simp,aP,y2,y3,?_,by simp[C],λk0 a0 aT h1 O=>?_,by simp;lia,rfl,af,G⟩
     . rw[<-l8,lJ];refine⟨ac,by simp,λp hp r hr=>?_⟩;simp at hr;subst hr;rcases de.mp hp with rfl|hp;.exact λz=>ar z.symm
       .rintro rfl;exact nA hp
     . by_cases E:k0<as.length
       . rw[dr E]at h1;rw[dr (by lia)]at O;obtain⟨w0,f0⟩:=I k0 a0 aT h1 O;obtain⟨⟨zs,k1,r1⟩,g1⟩:=w0.stp t6;have na:a0≠Da:=by rintro rfl;exact(fc.mp ac).1 (du h1)
         exact⟨⟨⟨zs,⟨by rw[aH na];exact k1.1,k1.2⟩,r1⟩,g1⟩,f0⟩
       . rw[fT (by lia)]at h1;rw[fT (by lia)]at O;have:k0-as.length=0:=by have:=(gh h1).1;simp at this;exact this
         rw[this]at h1;rw[<-C,this]at O;cases h1;cases O;exact⟨⟨⟨xs,⟨by rw[aH ar];exact a1,a4⟩,a3⟩,a2⟩,fA⟩
 . left;have bi:f.drop i=[]:=by rw[i_];lia
   rw[bi,Kq]at G;cases G;refine⟨s2 (by lia),?_⟩;have hst:j.take e.length=σ:=by rw[aI,hm];exact am
   obtain⟨l1,l2⟩:=aL.less (m:=e.length) rfl w.gs (by simp) si;rw[hst]at l1;obtain⟨z1,z2⟩:=w.fin _ _ _ _ l1--the outer list:with nothing in it,it is like any new one
   have bn:=si.Mw (o:=.lst []) Y hF hO;obtain⟨aw,Z4⟩:=aL.less (m:=e.length) rfl w.gs (by simp) bn;rw[hst]at aw;obtain⟨bv,bo⟩:=w.fin _ _ _ _ aw;have rr:dR K N l j (upd M Da (.lst [])) (e++cp n .aW) (σ++cp n none) X (.ref Da) (.own []):=⟨Da,[],rfl,aP,hF,.nil,hO,.inr Y⟩;have Ud:=Z4 _ _ rr;rw[hst]at Ud;obtain⟨_,_,q0,_,q3,_,q5,q6⟩:=bo _ _ Ud;cases q0;have ax:∀(k:Nat)(a:b_)(f:List D),as[k]?=ap a->rows[k]?=ap f->Wt K N (ul (l.take e.length)) σ M a f/\(Own ρ σ a\/H a=none):=λk a f h1 O=>by obtain⟨⟨⟨xs,k1,r1⟩,f1⟩,f2⟩:=I k a f h1 O;have rr:dR K N l j M (e++cp n .aW) (σ++cp n none) X (.ref a) (.own f):=⟨a,xs,rfl,k1.1,f1,r1,k1.2,f2⟩;have Ud:=l2 _ _ rr;rw[hst]at Ud;obtain⟨a',bp,q0,q2,q3,q4,q5,q6⟩:=z2 _ _ Ud;cases q0;exact⟨⟨⟨bp,⟨q2,q5⟩,q4⟩,q3⟩,q6⟩
   refine k Da as N M z1 ⟨⟨by rw[hD,Z],q5⟩,q3⟩ ac C (λk a f h1 O=>(ax k a f h1 O).1) λb hb=>?_;rcases de.mp hb with rfl|hb;.exact q6
   . obtain⟨k0,E⟩:=k6 hb;have al:k0<rows.length:=by rw[<-C];exact(gh E).1
     exact(ax k0 b rows[k0] E (by simp[al])).2
section
variable{X:Cx}{c:Call}{nn n:Nat}{tg iter elt:da}{ps pe:P}{pos:Pos}{sts:List ek}{ss:List S}{scope:iE}{N':List Str}
theorem QG{i:Nat}{x:Str}{b f:Pos}{g:TG}{is:List Nat}{one:Bool}(hc:X.calm=bj)(A:X.N.Nodup)(m:X.N[i]?=ap x)(B:Loc X.env.scope x)(ok:gC X scope N' n)(hi:SI X c tg iter ps)(E:∀cl C s₀ H₀ ex,PG (rG X scope N' cl C s₀ H₀ ex) tg g)(r:ou X.K X.N.length is one g)(G:∀cl C s₀ H₀ ex,SQ (rG X scope N' cl C s₀ H₀ ex) c [] none)(he:∀cl C s₀ H₀ ex,SX (rG X scope N' cl C s₀ H₀ ex) c elt pe)(J:SBT X c nn i sts ss)(t:eP (.ListComp elt [⟨tg,iter,[],0⟩] scope pos) (ap (.Name x b)) f.line X.env=eL bj:=by rfl)(hs:∀x,eH iter X.env x=eL x:=by intro _;rfl)(L:X.fn x=bj\/X.env.scope.names.lookup x=ap .local:=by first|(left;rfl)|(right;rfl)|assumption):SB X c nn (.Assign [.Name x b] (.ListComp elt [⟨tg,iter,[],0⟩] scope pos) f::sts) (.Nv i ps n is one pe::ss):=by
 have h0:=yd (tt:=Hk X.K (pq c none)) (te:=yc X.K (_H.ev c pe)) hc A m B ok hi E G (λcl C s₀ H₀ ex=>(he cl C s₀ H₀ ex).ev) t hs L;refine λj s σ H D I q=>jm h0 J.p j s σ H D I ?_;have M:σ.length=X.N.length:=I.len;obtain⟨F,ρ,O,u,Q,e,kk⟩:=q;rw[Tt]at e;obtain⟨f1,U,a,e⟩:=aj e;rw[_H.X22]at a;obtain⟨W,w,Y,a⟩:=aj a;split at a;.rename_i k;obtain⟨rows,Z,e3,a⟩:=aj a;obtain⟨ac,z,l,a⟩:=aj a;cases a;have zz:=aF l;clear l;obtain⟨l,_⟩:=zz;obtain⟨s1,h1,h2,rfl⟩:=uq l;refine(show wQ n (tIt X.K (isVar ps) (_H.ev c ps)) g (Hk X.K (pq c none)) (yc X.K (_H.ev c pe)) σ H (λv H1=>lZ i v σ H1 (ach X.K i (fJ c nn ss) D))from M5 (c:=c) (ul:=bz ρ (isVar ps)) M r (λR h=>⟨F,ρ,W,w,Q,Y,h⟩) k e3 λq as F' H' s wq nd len row fr=>?_);exact⟨F,ρ,σ,H,F',_,q,as,rows,O,u,NB.mk' s h1 h2 wq nd len row fr,e,λF2 y H2 s2=>kk F2 y H2 s2⟩
 .cases a
end
end _H
namespace _H
open PySem _L Spec PyProof.Rows Calls W
variable{i:Nat}{x:Str}
section
variable{K:PySem.W.Frag}{F F1 H H1:Hp}{ρ ρ1 ρ2:List Sl}{σ σ1:_L.St}
theorem GS.agm{x:Nat}{kvs f:List (Int×D)}{a:b_}{y:HO}(g:GS K F ρ σ H)(e:ρ[x]?=ap (.dM kvs))(s:σ[x]?=ap (ap (.ref a)))(r:oA K F y (.v f)):aL K F ρ σ H F (ρ.set x (.dM f)) σ (upd H a y):=by
 have hi:x<ρ.length:=(gh e).1;have z:bB ρ σ x a:=⟨⟨_,_,e,rfl⟩,s⟩;obtain⟨M,N,h1,O,A,Q⟩:=g.own x _ _ e rfl;rw[s]at h1;cases h1;have h:∀{j:Nat}{c:b_},bB (ρ.set x (.dM f)) σ j c->bB ρ σ j c:=λ{j c}⟨⟨t,m,p,u⟩,q3⟩=>by
  by_cases b:j=x;.subst b;exact⟨⟨_,_,e,rfl⟩,q3⟩
  .rw[gM b]at p;exact⟨⟨t,m,p,u⟩,q3⟩
 refine⟨⟨λc o q=>?_,by simp[g.len],λj C d q=>?_,λj t m q w=>?_,λj k c p u=>g.dis j k c (h p) (h u)⟩,.refl _,λc n E=>absurd n E,λc o q n=>?_,λc⟨j,q⟩=>.inl ⟨j,h q⟩,by simp,λj t q l=>⟨rfl,?_⟩⟩
 . have:c≠a:=by rintro rfl;rw[A]at q;cases q
   rw[aH this];exact g.sub c o q
 . by_cases b:j=x;.subst b;rw[ce hi]at q;cases q
   .rw[gM b]at q;exact g.val j C d q
 . by_cases b:j=x;.subst b;rw[ce hi]at q;cases q;cases w;exact⟨a,_,s,aP,A,r⟩
   . rw[gM b]at q;obtain⟨c,G,B,I,J,L⟩:=g.own j t m q w;have:c≠a:=by rintro rfl;exact b (g.dis j x c ⟨⟨t,m,q,w⟩,B⟩ z)
     exact⟨c,G,B,by rw[aH this];exact I,J,L⟩
 . have:c≠a:=by rintro rfl;exact n ⟨x,z⟩
   rw[aH this];exact q
 . by_cases b:j=x;.subst b;rw[e]at q;cases q;cases l
   .exact⟨t,by rw[gM b];exact q,.refl t⟩
theorem GS.newV{kvs:List (Int×D)}{a:b_}{z:HO}{s0:Sl}(g:GS K F ρ σ H)(e:ρ[i]?=ap s0)(w:u9 s0=av)(r:oA K F z (.v kvs))(p:H a=none):aL K F ρ σ H F (ρ.set i (.dM kvs)) (σ.set i (ap (.ref a))) (upd H a z):=by
 have hi:i<ρ.length:=(gh e).1;have s:i<σ.length:=by rw[<-g.len];exact hi
 have A:F a=none:=by cases q:F a with|none=>rfl|some o=>rw[g.sub a o q]at p;cases p
 have f:∀{j:Nat}{c:b_},j≠i->bB (ρ.set i (.dM kvs)) (σ.set i (ap (.ref a))) j c->bB ρ σ j c:=λ{j c}b⟨⟨t,ds,e1,e2⟩,e3⟩=>by rw[gM b]at e1 e3;exact⟨⟨t,ds,e1,e2⟩,e3⟩
 have new:∀{c:b_},bB (ρ.set i (.dM kvs)) (σ.set i (ap (.ref a))) i c->c=a:=λ{c}⟨_,e3⟩=>by rw[ce s]at e3;cases e3;rfl
 have B:∀{j:Nat},¬ bB ρ σ j a:=λ{j}⟨⟨t,ds,e1,e2⟩,e3⟩=>by obtain⟨c,o,h,m,_⟩:=g.own j t ds e1 e2;rw[e3]at h;cases h;rw[p]at m;cases m
 refine⟨⟨λc o q=>?_,by simp[g.len],λj E d q=>?_,λj t G q C=>?_,λj k c h m=>?_⟩,.refl _,λc n I=>absurd n I,λc o q n=>?_,λc⟨j,q⟩=>?_,by simp,λj t q l=>?_⟩
 . have:c≠a:=by rintro rfl;rw[A]at q;cases q
   rw[aH this];exact g.sub c o q
 . by_cases b:j=i;.subst b;rw[ce hi]at q;cases q
   .rw[gM b]at q ⊢;exact g.val j E d q
 . by_cases b:j=i;.subst b;rw[ce hi]at q;cases q;cases C;exact⟨a,_,ce s,aP,A,r⟩
   . rw[gM b]at q ⊢;obtain⟨c,o,J,y,L,M⟩:=g.own j t G q C;have:c≠a:=by rintro rfl;rw[p]at y;cases y
     exact⟨c,o,J,by rw[aH this];exact y,L,M⟩
 . by_cases b:j=i
   . by_cases u:k=i;.rw[b,u]
     .subst b;rw[new h]at m;exact absurd (f u m) B
   . by_cases u:k=i;.subst u;rw[new m]at h;exact absurd (f b h) B
     .exact g.dis j k c (f b h) (f u m)
 . have:c≠a:=by rintro rfl;rw[p]at q;cases q
   rw[aH this];exact q
 . by_cases b:j=i;.subst b;rw[new q];exact .inr p
   .exact .inl ⟨j,f b q⟩
 . have b:j≠i:=by rintro rfl;rw[e]at q;cases q;rw[w]at l;cases l
   exact⟨by rw[gM b],t,by rw[gM b];exact q,.refl t⟩
end
section
variable{X:Cx}{c:Call}{n:Nat}{a b e:da}{pa pb p:P}{pos:Pos}
theorem Eb{f p2:Pos}(m:X.N.Nodup)(hi:X.N[i]?=ap x)(o:Loc X.env.scope x)(hs:eP (.Dict [] [] p2) (ap (.Name x f)) pos.line X.env=eL av:=by rfl)(r:X.fn x=bj\/X.env.scope.names.lookup x=ap .local:=by first|(left;rfl)|(right;rfl)|assumption):SS X c n (.Assign [.Name x f] (.Dict [] [] p2) pos) (.Il i):=by
 refine cU (jX m hi o zY hs r) ?_;rintro D σ H⟨F,ρ,s,h,g,e,k⟩;rw[_H.X26]at e;have go:∀s0,ρ[i]?=ap s0->u9 s0=av->s=.next->h=ρ.set i (.dM [])->∀a,H a=none->D.nx (σ.set i (ap (.ref a))) (upd H a (.dK [])):=λs0 q t j l a u=>by subst j l;exact k F _ _ (g.newV (kvs:=[]) q t (KR.oc .nil) u)
 split at e;.rename_i q;cases e;exact go _ q rfl rfl rfl
 .rename_i q;cases e;exact go _ q rfl rfl rfl
 .rename_i q;cases e;exact go _ q rfl rfl rfl
 .cases e
theorem tV{w f:Pos}{pk:P}(hu:X.A.units+8<fy)(C:X.N[i]?=ap x)(E:vR X.env.scope x)(G:SX X c a pk)(he:SX X c e p)(hs:eP e (ap (.Subscript (.Name x w) a f)) pos.line X.env=eL av:=by rfl)(hd:(x==("__debug__":Str))=av:=by decide)(m:(x==("__classdict__":Str))=av:=by decide):SS X c n (.Assign [.Subscript (.Name x w) a f] e pos) (.jF i pk p):=by
 obtain⟨ta,h1,I⟩:=G.dG;refine cU (DY (by lia) (gb C E hd m) h1 he.ev hs) ?_;rintro D σ H⟨F,ρ,fl,J,g,e,k⟩;rw[_H.X28]at e;obtain⟨r,o,L,l⟩:=aj e;clear e;refine⟨F,ρ,r,o,g,L,λv F1 H1 s1 M=>?_⟩;obtain⟨F2,s2,_,O⟩:=s1.eN M;split at l
 . rename_i Q U;obtain⟨kd,W,Y,h⟩:=aj l;clear l;obtain⟨s,o0,t,w2,w3,w4⟩:=s2.gs.own i _ _ U rfl;refine⟨.ref s,t,I s2.gs Y λy Z H3 s3 py=>?_⟩;split at h
   . rename_i kvs j q;split at h;.rename_i hl;cases h;obtain⟨a1,o1,z,y2,y3,y4⟩:=s3.gs.own i _ _ q rfl;rw[t]at z;cases z;obtain⟨es,rfl,B⟩:=KR.Ur y4;have u:=B.put (k:=j) (O.mono s3.cG);refine⟨s,upd H3 s (.dK (putK es (dA j:Key) v)),rfl,?_,k Z σ _ ((s2.trans s3).trans (s3.gs.agm q t u.oc))⟩;rw[py.int];exact .inl ⟨es,dA j,y2,rfl,by rw[B.len,eR];exact hl,rfl⟩
     .cases h
   .cases h
 .cases l
theorem Ca{y:Pos}{pk:P}(hu:X.A.units+8<fy)(z:X.N[i]?=ap x)(B:vR X.env.scope x)(C:SX X c a pk)(hs:Qn a)(hd:(x==("__debug__":Str))=av:=by decide)(l:(x==("__classdict__":Str))=av:=by decide):SX X c (.Subscript (.Name x y) a pos) (.T7 i pk):=by
 obtain⟨ta,h1,E⟩:=C.dG;refine⟨dh (O8 (by lia) (gb z B hd l) h1 hs) ?_,λi h=>by cases h⟩;rintro σ H Q⟨F,ρ,r,G,g,e,k⟩;rw[_H.E26]at e;split at e
 . rename_i I q;obtain⟨kd,J,L,f⟩:=aj e;clear e;obtain⟨m,o0,o,w2,w3,w4⟩:=g.own i _ _ q rfl;refine⟨.ref m,o,E g L λv F1 M s1 s=>?_⟩;split at f;.rename_i kvs O;obtain⟨t,U⟩:=aF f;clear f;subst U;obtain⟨j,W,Y⟩:=dj t;clear t;obtain⟨d,Z,e6⟩:=map_some Y;subst e6;rw[dZ W]at s;obtain⟨a1,o1,u,y2,y3,y4⟩:=s1.gs.own i _ _ O rfl;rw[o]at u;cases u;obtain⟨es,rfl,kr⟩:=KR.Ur y4;obtain⟨w,g1,g2⟩:=kr.get Z;rw[s.int];exact⟨m,w,rfl,.inl ⟨es,dA j,.inl y2,rfl,g1.symm⟩,k w F1 M s1 (show Rep X.K F1 _ _ from g2)⟩
   .cases f
 .cases e
theorem V5{G:Pos}{pk:P}{neg:Bool}{op:ny}(t:(op=.In/\neg=av)\/(op=.NotIn/\neg=bj))(hu:X.A.units+8<fy)(w:X.N[i]?=ap x)(z:vR X.env.scope x)(J:SX X c a pk)(hd:(x==("__debug__":Str))=av:=by decide)(m:(x==("__classdict__":Str))=av:=by decide):PC X op a (.Name x G) (yc X.K (_H.ev c (.T9 i pk neg))):=by
 obtain⟨L,h1,M⟩:=J.dG;have l:∀{σ:_L.St}{H:Hp}{Q:VK},yc X.K (_H.ev c (.T9 i pk neg)) σ H Q->L σ H λy u=>V9 i σ u λx B=>∃a o,x=.ref a/\qD B a y o/\Q (.bl (if neg then !o.isSome else o.isSome)) B:=λ{σ H Q}⟨F,ρ,r,ρ',g,e,k⟩=>by
  rw[_H.E27]at e;obtain⟨kd,O,U,q⟩:=aj e;clear e;refine M g U λv F1 u s1 C=>?_;split at q;.rename_i kvs W;obtain⟨Y,Z⟩:=aF q;clear q;subst Z;obtain⟨j,e4,e5⟩:=map_some Y;subst e5;rw[dZ e4]at C;obtain⟨E,o1,y1,y2,y3,y4⟩:=s1.gs.own i _ _ W rfl;obtain⟨es,rfl,kr⟩:=KR.Ur y4;rw[C.int];refine⟨.ref E,y1,E,_,rfl,.inl ⟨es,dA j,.inl y2,rfl,rfl⟩,?_⟩;rw[kr.has j];exact k _ F1 u s1 (show Rep X.K F1 _ _ from gW _)
  .cases q
 rcases t with⟨rfl,rfl⟩|⟨rfl,rfl⟩;.exact λf s σ H Q I h=>Xb (by lia) h1 (gb w z hd m) f s σ H Q I (l h)
 .exact λf s σ H Q I h=>Hm (by lia) h1 (gb w z hd m) f s σ H Q I (l h)
end
theorem rC{P:c_}{w:eh}:∀{ks:List Int}{es:List (Key×V)}{vs:List (Key×bd)}{a:List bd},es.map (·.1)=ks.map (dA:Int->Key)->KV es vs->a.length=vs.length->(∀(j:Nat)(v:bd),a[j]?=ap v->∃(k:Key)(x:bd),vs[j]?=ap (k,x)/\(bI P w).is k v=bj)->gl a ks
 |[],es,_,a,he,r,h,_=>by cases es with
   |nil=>cases r;cases a with|nil=>exact .nil|cons _ _=>simp at h
   |cons _ _=>simp at he
 |i::ks,es,_,a,he,r,h,k=>by cases es with|nil=>simp at he|cons p es=>cases r with|@cons _ q _ _ r t=>rw[dQ,dQ]at he;cases a with|nil=>simp at h|cons v a=>
         obtain⟨f,x,c,g⟩:=k 0 v rfl;simp at c;have l:f=dA i:=by have z:=r.1;rw[c]at z;rw[<-(List.cons.inj he).1];exact z.symm
         subst l;obtain⟨n,m,b,rfl⟩|⟨_,_,b,_⟩:=bY (show qZ (dA i) v=bj from g);.cases b;exact .cons _ m (rC (List.cons.inj he).2 t (by simpa using h) λj v e=>k (j+1) v (by simpa using e))
         .cases b
section
variable{X:Cx}{c:Call}{n:Nat}{a b e:da}{pa pb p:P}{pos:Pos}
theorem aa3(hc:X.calm=bj):eX X (.type "list") (Qf X.K λx=>blt .Z2 [x]):=by rintro m s σ H xs us Q I r⟨x,A,F,d,B,t,C,he,k⟩;cases d with|dv ks ds=>
   obtain⟨E,he⟩:=bU (show(if ks.length<=16777216 then ap (R.own (ks.map D.int))else none)=ap B from he);subst he;obtain⟨q,G,g,rfl,J,L,M⟩:=C.dv t;subst A;obtain⟨u,rfl,N⟩:=r.one;cases N;obtain⟨ho,hz,O,vs,y,dd⟩:=(show bT X.prog X.w H s.heap q (.eN G (.dK (ent ks g)))from I.hok q _ J);obtain⟨ep,dd⟩:=dd.dictAt;have z:=uC (ks:=ks) (vs:=g) (by rw[L.length];exact M);have l:vs.length=ks.length:=by rw[<-Paired.length y];have:=congrArg kG z;simpa using this
   refine kdl_call (kdl_dict (knd:=bI X.prog X.w) (kvs:=vs) (ep:=ep) O) (I.ok.hd hc) dd (by rw[l,eR];lia) λh' U h W kp Y f=>?_;have Z:gl h.toList ks:=rC (P:=X.prog) (w:=X.w) z y (by rw[iS];exact f.1) λj v e=>f.2 j v (by rw[<-Array.getElem?_toList];exact e);refine⟨.ref s.heap.objs.size,_,I.laid (t':=U) (o:=.lst (ks.map V.int)) (h':=h') kp (eU) ⟨by rw[dV,eR];lia,h.toList,W,pN Z,by rw[Array.toArray_toList];exact Y⟩,rfl,?_⟩;exact Am t (xm ks) (I.hok.fresh (eU)) k|_=>cases he
theorem J1{p':Pos}(f:x="list")(hc:X.calm=bj)(g:Gl X x)(j:X.mg x=none)(k:SX X c a pa)(hs:cj [a] X.env=(av,eg a X.env)::cj [] X.env:=by rfl):SX X c (.Call (.Name x p') [a] [] pos) (.blt .Z2 [pa]):=by subst f;exact qY (λh=>qG (aa3 hc) g j (by decide+kernel) h (he:=hs)) k (λρ=>rfl) rfl hs
theorem Rm{neg:Bool}{op:ny}(f:(op=.In/\neg=av)\/(op=.NotIn/\neg=bj))(M:X.A.units+8<fy):jc X (ec op) (rD X.K (zZ neg)):=by rintro o s σ H x y v u Q I h w⟨F,d,e,r,l,z,B,he,k⟩;cases d with
 |int j=>cases e with|dv ks N=>
     cases he;obtain⟨q,C,vs,rfl,E,G,J⟩:=B.dv l;have L:=KR.zip G J;rw[z.int]at h;obtain rfl:u=dq q:=w;have g:qD H q (.int j) (lQ (ent ks vs) (dA j:Key)):=.inl ⟨_,dA j,.inr ⟨C,E⟩,rfl,rfl⟩;have t:(lQ (ent ks vs) (dA j:Key)).isSome=ks.contains j:=by rw[L.has j];congr 1;rw[List.map_fst_zip (by lia)]
     rcases f with⟨rfl,rfl⟩|⟨rfl,rfl⟩;.refine aaO (by lia) I g h λs3 m=>⟨.bl (lQ (ent ks vs) (dA j:Key)).isSome,H,m,rfl,?_⟩;rw[t];exact dg.fK l (gW _) k
     .refine Ew (by lia) I g h λs3 m=>⟨.bl (!(lQ (ent ks vs) (dA j:Key)).isSome),H,m,rfl,?_⟩;rw[t];exact dg.fK l (gW _) k|_=>cases he
 |_=>cases he
end
end _H
namespace PySem
section
variable{prog:c_}{w:eh}{A:et}{E:bd->bx->Prop}{s:bx}
theorem yp{Q:List bd->bx->Prop}{I l:b_}{items:Array bd}(u:A.handled=none)(f:s.heap.IsRevIter I l ((items.size:Int)-1))(p:s.heap.IsList l items)(k:l≠I)(g:items.size<=2^24)(x:∀h' m c,(∀b o,b≠I->s.heap.get? b=ap o->h'.get? b=ap o)->s.heap.objs.size<h'.objs.size->ItemsOf (λi v=>items[items.size-1-i]?=ap v) c items.size->Q c.toList {s with heap:=h',toks:=m}):
 cH (cM prog w) A (collect (.ref I)) Q E s:=by have h:I<s.heap.objs.size:=let⟨_,ho,_⟩:=f;df ho;have n:l<s.heap.objs.size:=let⟨_,ho,_⟩:=p;df ho;unfold collect;refine a_ (wpAny_runValue (k7 F.entry_proto_collect ?_));rw[iq F.plain_proto_collect _];show cH _ A.in1 (newList []>>=λl=>again (.builtin "list.__iadd__" ⟨[l,.ref I],[]⟩)) _ _ s;refine a_ (ew ?_);refine cv ⟨l7 F.plain_list_iadd _,k7 F.entry_list_iadd ?_⟩;rw[iq F.plain_list_iadd _];show cH _ A.in1 (ll (.ref s.heap.objs.size) (.ref I) (.ref s.heap.objs.size)) _ _ _;refine pC (A:=A) (R:=λr q=>match r with
  |.ok (.ret v)=>cH (cM prog w) A (match v with
   |.ref a=>do let o<-load a match o.data with|.seq xs _=>eL xs.toList|_=>m_ "internal:collect"
   |_=>m_ "internal:collect") Q E q|.ok _=>False|.error e=>E e q) (s:={s with heap:=s.heap.push {cls:=.type "list",data:=.seq #[]}}) u (f.at λo e=>iZ e) (p.at λo e=>iZ e) k g s.heap.objs.size (fk (dP h)) (fk (dP n)) _ 0 (dl _ rfl) λh' m c B y t j=>?_;refine a_ (wpAny_load t ?_);exact cv (x h' m c (λb o z e=>y b o (dP (df e)) z (iZ e)) (df t) j)
end
theorem mG(I l:b_)(items:Array bd)(i:l≠I)(hsz:items.size<=2^24):oI (i3.«tuple.__new__» ⟨[.type "tuple",.ref I],[]⟩) (λA R s=>A.handled=none/\s.heap.IsRevIter I l ((items.size:Int)-1)/\s.heap.IsList l items/\∀(h':ef)(p:Nat),(∀b o,b≠I->s.heap.get? b=ap o->h'.get? b=ap o)->s.heap.objs.size<h'.objs.size->∀a:Array bd,a=items.reverse->R (.ok (.ret (.ref h'.objs.size))) {s with heap:=h'.push {cls:=.type "tuple",data:=.seq a},toks:=p}):=.of_wp λprog w A R s h=>by
  obtain⟨r,f,t,h⟩:=h;have q:=sub_tuple_self;have k:=init_tuple_lookup;have u:=madeHere_tuple;have x:Shared.TypeIs s (.ref I) "list_reverseiterator":=f.typeIs;obtain⟨o,ho,hc,hd⟩:=id f;obtain⟨C,g,d,p,os⟩:=s;wp_walk using AutoSeq1.wpAny_loadPart' ho,kN x,yp (A:=A.in1) r f t i hsz;intro h' m a y n c;show cH _ _ (iN a.toList.toArray>>=λv=>ret v) _ _ _;have e:a.toList.toArray=a:=by simp
  have z:a=items.reverse:=by refine Array.ext (by rw[c.1,Array.size_reverse]) λj h1 E=>?_;have:=c.2 j _ (Array.getElem?_eq_getElem h1);rw[Array.getElem_reverse];have B:=fE.mp this;exact B.2.symm
  rw[e];unfold iN;refine a_ (ew ?_ (by show a.size<=sizeLine;rw[c.1,eR];lia));exact cv ⟨_,rfl,h h' m y n a z⟩
section
variable{prog:c_}{w:eh}{A:et}{E:bd->bx->Prop}{s:bx}
theorem rQ{I l:b_}{items:Array bd}{Q:bd->bx->Prop}(i:A.handled=none)(a:s.heap.IsRevIter I l ((items.size:Int)-1))(j:s.heap.IsList l items)(c:l≠I)(hsz:items.size<=2^24)(h:∀(h':ef)(f:Nat),(∀b o,b≠I->s.heap.get? b=ap o->h'.get? b=ap o)->s.heap.objs.size<h'.objs.size->Q (.ref h'.objs.size) {s with heap:=h'.push {cls:=.type "tuple",data:=.seq items.reverse},toks:=f}):cH (cM prog w) A (call (.type "tuple") [.ref I]) Q E s:=p4 F.called_tuple (by decide) (F.typeCall_tuple_1 _) (F.newCall_tuple_1 _) (λobj=>F.args_object_init_2 obj _) F.entry_tuple_new (mG I l items c hsz) ⟨i,a,j,λh' f k g m e=>by subst e;exact⟨⟨_,dl _ rfl,rfl⟩,h h' f k g⟩⟩
end
end PySem
namespace _L
open PySem Spec PyProof.Rows
section
variable{X:Cx}{pins:List (b_×Obj)}{σ:St}{H:Hp}{s:bx}{E:bd->bx->Prop}
theorem Bw{a:da}{B:TE}{p pos p2 g:Pos}(hc:X.calm=bj)(n:Gl X "tuple")(t:X.mg "tuple"=none)(J:Gl X "reversed")(L:X.mg "reversed"=none)(M:PE X a B)(hs:cj [a] X.env=[(av,eg a X.env)]:=by rfl)(i:cj [.Call (.Name "reversed" p) [a] [] pos] X.env=[(av,eg (.Call (.Name "reversed" p) [a] [] pos) X.env)]:=by rfl):PE X (.Call (.Name "tuple" p2) [.Call (.Name "reversed" p) [a] [] pos] [] g) (λσ H Q=>B σ H λx f=>∃ad xs,x=.ref ad/\gq X.K f ad xs/\∀l,f l=none->Q (.ref l) (upd f l (.tup xs.reverse))):=by
 intro pins s σ H Q I h;refine Call_ (lq I n t zc (eI ?_ i rfl));rw[i];show cH _ _ (spliced ((av,eg (.Call (.Name "reversed" p) [a] [] pos) X.env)::[])) _ _ _;refine ib (Call_ (lq I J L uK (eI (cN ((bD M dC hs) pos pins s σ H (λvs f=>match vs with|[x]=>∃ad xs,x=.ref ad/\gq X.K f ad xs/\∀l,f l=none->Q (.ref l) (upd f l (.tup xs.reverse))|_=>False) I h) ?_) hs rfl)));rintro Z s1⟨vs,f,m,r1,v⟩;obtain⟨ad,xs,N,q,w⟩:∃ad xs,gq X.K f ad xs/\(∀l,f l=none->Q (.ref l) (upd f l (.tup xs.reverse)))/\vs=[.ref ad]:=by cases vs with|nil=>cases v|cons x r=>cases r with|nil=>obtain⟨ad,xs,rfl,q,O⟩:=v;exact⟨ad,xs,q,O,rfl⟩|cons _ _=>cases v
 subst w;obtain⟨u,rfl,U⟩:=r1.one;cases U;obtain⟨c,C,y,hz⟩:=m.list N;have hsz:c.toArray.size=xs.length:=by rw[cS,<-C.length]
 refine call_reversed_list y.isList (ji ?_);have z:ad≠s1.heap.objs.size:=dP (let⟨_,ho,_⟩:=y.isList;df ho);have A:(s1.heap.push (revObj ad ((c.toArray.size:Int)-1))).IsList ad c.toArray:=y.isList.at λo e=>iZ e;refine rQ (m.ok.hd hc) (I:=s1.heap.objs.size) (l:=ad) (items:=c.toArray) ⟨_,dl _ rfl,rfl,rfl⟩ A z (by rw[hsz];exact gT hz (by decide)) λh' W G j=>?_;have k:(s1.heap.push (revObj ad ((c.toArray.size:Int)-1))).objs.size=s1.heap.objs.size+1:=h9 ..;dsimp only at G j ⊢;rw[k]at j;have Y:c.toArray.reverse=c.reverse.toArray:=by simp
 rw[Y];refine⟨.ref h'.objs.size,_,m.laid (t':=W) (o:=.tup xs.reverse) (h':=h'.push {cls:=.type "tuple",data:=.seq c.reverse.toArray}) (λb o e=>iZ (G b o (dP (df e)) (iZ e))) (by lia) ?_,rfl,q _ (m.hok.fresh (by lia))⟩;exact⟨by rw[List.length_reverse];exact hz,_,C.reverse,kH _ _⟩
end
end _L
namespace _H
open PySem _L Spec PyProof.Rows
section
variable{X:Cx}{c:Call}{a:da}{pa:P}{pos:Pos}
theorem BX{x y:Str}{p' o b:Pos}(p:y="tuple")(q:x="reversed")(hc:X.calm=bj)(j:Gl X y)(m:X.mg y=none)(t:Gl X x)(u:X.mg x=none)(w:SX X c a pa)(hs:cj [a] X.env=[(av,eg a X.env)]:=by rfl)(n:cj [.Call (.Name x p') [a] [] pos] X.env=[(av,eg (.Call (.Name x p') [a] [] pos) X.env)]:=by rfl):SX X c (.Call (.Name y o) [.Call (.Name x p') [a] [] pos] [] b) (.blt .rvT [pa]):=by subst q p;obtain⟨Y,h1,z⟩:=w.dG;refine⟨dh (Bw hc j m t u h1 hs n) ?_,λi h=>by cases h⟩;rintro σ H Q⟨F,ρ,r,A,g,e,k⟩;rw[_H.E17]at e;obtain⟨d,B,C,f⟩:=aj e;have E:=aF f;clear f;obtain⟨f,G⟩:=E;subst G;cases d with|lst Z=>cases f;refine z g C ?_;rintro v F' H' s I;obtain⟨ad,xs,rfl,J,L⟩:=I.lst s.gs.sub;exact⟨ad,xs,rfl,J,λl M=>Dh s.gs.sub (aN.rev L) M λv N O U W=>k v N O (s.trans (U.stp s.gs)) (.later s (W.qF s.gs))⟩|_=>cases f
end
end _H
namespace _L
open PySem Spec PyProof.Rows Calls
section
variable{X:Cx}
theorem KN:aaz X (aaE X.K):=by
 intro a s σ H x y v u Q I g k h;obtain⟨p,xs,i,z,rfl,rfl,l,he,q⟩:=h;cases g;obtain⟨t,rfl⟩:=k;obtain⟨b,r,e,hz⟩:=I.list l;obtain⟨j,h1,m,C,n,o⟩:=yL he;obtain⟨w,f,A⟩:=r.get m;have B:=r.length;have E:=vB;have fin:EP X a σ Q w s:=⟨z,H,I,A,q⟩;by_cases h0:0<=i
 . have c:i.toNat=j:=by rw[nk h0 o]at h1;exact ey h1
   exact wpAny_getItem_list e.isList h0 (by lia) (by rw[c];simpa using f) fin
 . have c:(i+(b.toArray.size:Int)).toNat=j:=by rw[mn (by lia) n]at h1;rw[cS,<-B];exact ey h1
   exact o3 e.isList (by lia) (by rw[cS]<;>lia) (by lia) (by rw[c];simpa using f) fin
end
end _L
namespace _H
open PySem _L Spec PyProof.Rows Calls W
section
variable{X:Cx}{c:Call}{n:Nat}{a b e:da}{pa pb p:P}{pos:Pos}
set_option maxHeartbeats 800000 in
theorem Eh{k e:Int}{t1 t2 p1 p2 p3}:SX X c (.Dict [ap (.Constant (.int k) t1 p1)] [.Constant (.int e) t2 p2] p3) (.Dq k e):=by
 refine⟨?_,λi h=>by cases h⟩;intro f s σ H Q I h;obtain⟨F,ρ,r,x,g,m,kk⟩:=h;rw[_H.E28]at m;cases m;have y:qO [] [((dA k:Key),V.int e)]=ent [k] [.int e]:=rfl;have A:=Fv (X:=X) (pos:=p3) (Ak (oM (i:=k) (j:=t1) (pos:=p1)) (oM (i:=e) (j:=t2) (pos:=p2)) FJ) rfl rfl (by simp) (by simp);refine cN (A f s σ H (λv H'=>∃q,v=.ref q/\H q=none/\H'=upd H q (Gw [k] [.int e])) I ?_) λu s1⟨v,H1,I1,r1,q,e1,hn,e2⟩=>?_;.intro q B;refine⟨aP,[(dA k,.int e)],rfl,by simp,q,rfl,B,?_⟩;rw[yo,y];rfl
 subst e1 e2;obtain⟨o,t⟩:=Inv.Mp I1 (a:=q) (kvs:=ent [k] [.int e]) aP;rw[yo]at t;have C:F q=none:=by cases z:F q with|none=>rfl|some o=>rw[g.sub q o z]at hn;cases hn
 have E:aJ F (upd F q (.eN o (Gw [k] [.int e]))):=aJ.cY C;refine⟨.ref q,_,t,r1,kk _ (upd F q (.eN o (Gw [k] [.int e]))) _ (Ext.stp g ⟨aJ.cY hn,E,λb o e=>?_,λb n w=>?_⟩) ?_⟩
 . by_cases l:b=q;.subst l;rw[aP]at e ⊢;exact e
   .rw[aH l]at e ⊢;exact g.sub b o e
 . by_cases l:b=q;.subst l;exact ni hn
   .rw[aH l]at w;exact absurd n w
 .show Rep X.K _ _ (.dv [k] [.int e]);rw[Rep];exact⟨q,o,[.int e],rfl,aP,.cons (cL _) .nil,rfl⟩
theorem sX{x:Str}{k:Nat}{px m:Pos}{op:lx}{sub:Bool}(ho:S8 X op (Zd λi j=>if sub then i-j else i+j))(hN:X.N[k]?=ap x)(hv:vR X.env.scope x)(hi:SX X c b pb)(he:SX X c e p)(ha:∀y iv new,augStore b y iv new=(do jp [new,y,iv] (nB y iv new);release [new,y,iv] [];eL .next):=by intros;rfl)(hd:(x==("__debug__":Str))=av:=by decide)(C:(x==("__classdict__":Str))=av:=by decide):SS X c n (.AugAssign (.Subscript (.Name x px) b m) op e pos) (.Nt k pb sub p):=by
 obtain⟨ti,E,G⟩:=hi.dG;obtain⟨te,I,J⟩:=he.dG;refine cU (Qh (gb hN hv hd C) E KN I ho set_list ha) ?_;rintro D σ H⟨F,ρ,fl,ac,g,e,kk⟩;rw[_H.X17]at e;obtain⟨x0,ae,o,Y⟩:=aj e;clear e;obtain⟨e0,Im⟩:=aF o;clear o;subst Im;obtain⟨dk,L,e1,Z⟩:=aj Y;clear Y;obtain⟨l,af,f,eC⟩:=aj Z;clear Z;obtain⟨A,M⟩:=aF f;clear f;subst M;obtain⟨ra,ag,r,eD⟩:=aj eC;clear eC;obtain⟨e3,O⟩:=aF r;clear r;subst O;obtain⟨db,ah,e4,s⟩:=aj eD;clear eD;obtain⟨Q,Tt,h,_⟩:=Gx g e0;refine⟨.ref Q,h,G g e1 λvi F1 H1 s1 pi=>?_⟩;split at s
 . rename_i u v bb ds kz q;split at s
   . rename_i j hj;cases s;obtain⟨B,f3,f5⟩:=dj e3;have U:B=kz:=by cases f3;rfl
     subst U;have f:pk L k=ap (.lst l):=by
      unfold Iu at A;split at A;.rename_i z;cases A;exact z
      .cases A
     obtain⟨o',t,po⟩:=s1.gs.pk f;rw[h]at t;cases t;obtain⟨ad,xs,hr,hL,rs⟩:=po.lst s1.gs.sub;cases hr;obtain⟨j0,h1,h2⟩:=M9 f5;obtain⟨w,h3,h4⟩:=rs.get h2;have W:Hu xs B=ap w:=by unfold Hu;rw[rs.length,h1];exact h3
     have hw:w=.int u:=by rw[Rep]at h4;exact h4
     subst hw;refine⟨Q,xs,B,.int u,rfl,pi.int,hL,W,J s1.gs e4 λvb F2 H2 s2 pb=>⟨u,v,rfl,pb.int,?_⟩⟩;obtain⟨ai,zs,z1,z2,z3,z4⟩:=s2.gs.pK k _ ds q rfl;rw[h]at z1;cases z1;refine⟨Q,zs,B,j,rfl,pi.int,z2,by rw[z4.length];exact hj,?_⟩;exact kk F2 σ _ ((s1.trans s2).trans (s2.gs.mut q h (z4.set (cL _) j)))
   .cases s
 .cases s
end
section
variable{X:Cx}{c:Call}{n:Nat}{a b e:da}{pa pb p:P}{pos:Pos}
theorem QL{neg:Bool}{o:Op}{op:ny}(h:(op=.In/\neg=av)\/(op=.NotIn/\neg=bj))(j:vW o=zZ neg)(l:X.A.units+8<fy)(m:SX X c a pa)(y:SX X c b pb)(B:fq op b=av):ST X c (.Compare a [op] [b] pos) (.bin o pa pb):=by obtain⟨C,E,h1,G,I⟩:=m.kI y;refine Ab (Gf (Rm h l) h1 G B) λσ H Q q=>qH (t:=Vh (rD X.K (zZ neg)) C E) (λQ z=>?_) q;obtain⟨F,ρ,r,J,g,e,k⟩:=z;rw[_H.E4]at e;obtain⟨i,L,M,f⟩:=aj e;have N:=aF f;clear f;obtain⟨f,O⟩:=N;subst O;rw[j]at f;refine I g M λv u F' H' s U W=>⟨F',i.1,i.2,r,s.gs.sub,U,W,f,λw Y Z x rn=>?_⟩;exact k w Y Z (s.trans (x.stp s.gs)) (.later s (rn.qF s.gs))
theorem WY(f:X.A.units+8<fy)(g:SX X c a pa)(h:SX X c b pb)(i:fq .In b=av):ST X c (.Compare a [.In] [b] pos) (.bin .din pa pb):=QL (.inl ⟨rfl,rfl⟩) rfl f g h i
theorem VG{i:Nat}{x:Str}{h:Pos}{pk:P}{neg:Bool}{op:ny}(f:(op=.In/\neg=av)\/(op=.NotIn/\neg=bj))(j:X.A.units+8<fy)(k:X.N[i]?=ap x)(l:vR X.env.scope x)(m:SX X c a pk)(o:fq op (.Name x h)=av)(hd:(x==("__debug__":Str))=av:=by decide)(g:(x==("__classdict__":Str))=av:=by decide):ST X c (.Compare a [op] [.Name x h] pos) (.T9 i pk neg):=Ab (Jm (V5 f j k l m hd g) o) λσ H Q q=>qH (λ_ z=>z) q
end
end _H
namespace _H
open PySem _L Spec PyProof.Rows
section
variable{X:Cx}{c:Call}{n:Nat}{pos:Pos}
noncomputable def afc(k e:Int):TE:=λ_ H Q=>∀p,H p=none->Q (.ref p) (upd H p (.dK [(dA k,.int e)]))
theorem Xn{k e:Int}{t1 t2 p1 p2 p3}:PE X (.Dict [ap (.Constant (.int k) t1 p1)] [.Constant (.int e) t2 p2] p3) (afc k e):=by refine dh (Fv (X:=X) (pos:=p3) (Ak (oM (i:=k) (j:=t1) (pos:=p1)) (oM (i:=e) (j:=t2) (pos:=p2)) FJ) rfl rfl (by simp) (by simp)) ?_;intro σ H Q h q a;refine⟨aP,[(dA k,.int e)],rfl,by simp,?_⟩;rw[yo];exact h q a
set_option maxHeartbeats 1000000 in
theorem Rb{i:Nat}{x:Str}{k e:Int}{t1 t2 p1 p2 p3}{b:Pos}(m:X.N.Nodup)(hi:X.N[i]?=ap x)(o:Loc X.env.scope x)(hs:eP (.Dict [ap (.Constant (.int k) t1 p1)] [.Constant (.int e) t2 p2] p3) (ap (.Name x b)) pos.line X.env=eL av:=by rfl)(p:X.fn x=bj\/X.env.scope.names.lookup x=ap .local:=by first|(left;rfl)|(right;rfl)|assumption):SS X c n (.Assign [.Name x b] (.Dict [ap (.Constant (.int k) t1 p1)] [.Constant (.int e) t2 p2] p3) pos) (.RM i k e):=by
 have h0:=jX m hi o (Xn (X:=X) (k:=k) (e:=e) (t1:=t1) (t2:=t2) (p1:=p1) (p2:=p2) (p3:=p3)) hs p;show PS X _ _;refine cU h0 ?_;rintro D σ H⟨F,ρ,r,h,g,f,kk⟩;rw[_H.X27]at f;have go:∀s0,ρ[i]?=ap s0->u9 s0=av->r=.next->h=ρ.set i (.dM [(k,.int e)])->∀a,H a=none->D.nx (σ.set i (ap (.ref a))) (upd H a (.dK [(dA k,.int e)])):=λs0 q s j l a t=>by subst j l;exact kk F _ _ (g.newV (kvs:=[(k,.int e)]) q s (KR.oc (.cons (cL _) .nil)) t)
 split at f;.rename_i q;cases f;exact go _ q rfl rfl rfl
 .rename_i q;cases f;exact go _ q rfl rfl rfl
 .rename_i q;cases f;exact go _ q rfl rfl rfl
 .cases f
end
end _H
namespace _H
open PySem _L Spec PyProof.Rows
variable{y:Str}{es:List da}
section
variable{X:Cx}{c:Call}{n:Nat}{W:Nat->Hp->Prop}{e:da}{pos:Pos}
theorem nu{cl:Nat->b_}{kk g np:Nat}{p' cpos:Pos}{ps:List P}(a:X.ex=[])(i:sG X (EW cl W))(j:di X.prog X.w X.K X.mg X.base cl kk c g y np)(hr:jo kk X.A)(k:SG X c (e::es) ps)(l:Gl X y:=by rfl)(m:(e::es).length=np:=by rfl)(b:(y==("__debug__":Str))=av:=by rfl)(he:cj (e::es) X.env=(av,eg e X.env)::cj es X.env:=by exact aZ rfl)(hpl:(fS cpos (cj es X.env)).any (·.1)=av:=by rfl)(f:ps.length=(e::es).length:=by rfl):XE X c W (.Call (.Name y p') (e::es) [] cpos) (.call g ps):=by obtain⟨te,h1,o⟩:=zJ (p':=p') (cpos:=cpos) a i j hr k l m b he hpl f;exact dh h1 λσ H Q h=>o σ H Q h
theorem yt{p:P}(h:XE X c W e p):Oz X c n W (.Return (ap e) pos) (.ret p):=cU (Cv h) λD σ H⟨F,ρ,k,ρ',g,e0,q⟩=>⟨F,ρ,k,ρ',g,(by rw[xV]at e0;exact e0),q⟩
end
section
variable{X:Cx}{c:Call}{n:Nat}{W:Nat->Hp->Prop}{e a:da}{p q:P}{pos p2:Pos}{lo hi:Option da}{pl ph:P}
theorem Lr{k f np:Nat}{p' cpos:Pos}{ps:List P}(g:aY X.prog X.w X.K X.mg X.base k c f y np)(hr:jo k X.A)(h1:XE X c W e q)(i:SG X c es ps)(j:Gl X y:=by rfl)(b:(y==("__debug__":Str))=av:=by rfl)(he:cj (e::es) X.env=(av,eg e X.env)::cj es X.env:=by exact aZ rfl)(hpl:(fS cpos (cj es X.env)).any (·.1)=av:=by rfl):XE X c W (.Call (.Name y p') (e::es) [] cpos) q:=by obtain⟨m,fd,o,f1,f2,f3,f4,f5⟩:=g.ex;have l:=tZ (p:=p') (pos:=cpos) (E:=E0) f1 hr j f2 f3 f4 .nil SM (bD h1 i he) b he hpl;exact dh l λσ H Q h=>h
theorem Jd(h:XE X c W a q)(b:SO X c lo pl)(f:SO X c hi ph):XE X c W (.Subscript a (.Slice lo hi none p2) pos) q:=by obtain⟨i,g,l2⟩:=b;obtain⟨th,h1,j⟩:=f;exact dh (vy V6 h g h1) λσ H Q h=>h
theorem tL{i:Nat}{x:Str}{b:Pos}(j:X.N.Nodup)(hi:X.N[i]?=ap x)(l:Loc X.env.scope x)(he:SX X c e p)(hs:eP e (ap (.Name x b)) pos.line X.env=eL av:=by rfl)(m:X.fn x=bj\/X.env.scope.names.lookup x=ap .local:=by first|(left;rfl)|(right;rfl)|assumption):SS X c n (.Assign [.Name x b] e pos) (.Bc i p q):=by refine cU (jX j hi l he.ev hs m) ?_;rintro D σ H⟨F,ρ,B,o,g,e,k⟩;rw[_H.X29]at e;obtain⟨r,h,s,e⟩:=aj e;obtain⟨t,u,f,e⟩:=aj e;cases e;have w:=aF f;clear f;obtain⟨f,C⟩:=w;exact⟨F,ρ,r,h,g,s,λv F1 z s1 A=>k F1 _ z (s1.put A f)⟩
theorem zr{i:Nat}{x:Str}{b:Pos}(l:X.N.Nodup)(hi:X.N[i]?=ap x)(m:Loc X.env.scope x)(h:XE X c W e q)(hs:eP e (ap (.Name x b)) pos.line X.env=eL av:=by rfl)(o:X.fn x=bj\/X.env.scope.names.lookup x=ap .local:=by first|(left;rfl)|(right;rfl)|assumption):Oz X c n W (.Assign [.Name x b] e pos) (.Bc i p q):=by refine cU (jX l hi m h hs o) ?_;rintro D σ H⟨F,ρ,k,f,g,j,z⟩;exact⟨F,ρ,k,f,g,by rw[xV]at j;exact j,z⟩
end
section
variable{X:Cx}
noncomputable def rN(b:Bool):Bool:=b
theorem vz:∀bs:List Bool,(bs.map V.bl).all wJ=bj|[]=>rfl|b::bs=>by rw[dQ,mE,vz bs];rfl
theorem wM:∀{bs:List Bool}{a:List bd},Vals (bs.map V.bl) a->a.countP (Qo (.bl bj))=bs.countP rN|[],_,r=>by cases r;rfl|b::bs,_,r=>by cases r with|cons r c=>cases r;rw[nq,nq,wM c];cases b<;>rfl
theorem By:∀{bs:List Bool}{a:List bd},Vals (bs.map V.bl) a->∀(i:Nat)(h:i<a.length)(c:i<bs.length),Qo (.bl bj) a[i]=bs[i]|[],_,r,i,h,c=>by cases c|b::bs,_,r,i,h,c=>by cases r with|cons r e=>cases r;cases i with|zero=>cases b<;>rfl|succ i=>simpa using By e i (by simpa using h) (by simpa using c)
noncomputable def Ry(K:PySem.W.Frag):V->List V->Hp->VK->Prop:=λx vs H Q=>∃(l:b_)(bs:List Bool),x=.ref l/\vs=[.bl bj]/\gq K H l (bs.map V.bl)/\Q (.int (bs.countP rN:Nat)) H
theorem Hc:MtR X "list.count" (Ry X.K):=by
 intro c s σ H x vs v o Q I f g h;obtain⟨l,bs,rfl,rfl,i,q⟩:=h;cases f;obtain⟨u,rfl,j⟩:=g.one;cases j;obtain⟨a,r,k,_⟩:=I.list i;obtain⟨⟨cls,dd,data,sl⟩,n,ho,hc,b,hd⟩:=k;simp only at hc hd b;subst hc hd b;refine jS PySem.F.slot_list_count ⟨_,ho,rfl⟩ PySem.F.entry_list_count (PySem.F.args_list_count_2 _ _) (SeqAt.list_countAt l a.toArray n none sl (.bool bj) (Qo (.bl bj))) ⟨ho,λy m=>ur (x:=.bl bj) rfl rfl r (vz bs) y (by simpa using m),?_⟩;have e:a.toArray.toList.countP (Qo (.bl bj))=bs.countP rN:=by simpa using wM r
 rw[e];exact⟨.int (bs.countP rN:Nat),H,I.tok _,⟨_,rfl⟩,q⟩
noncomputable def Qv(K:PySem.W.Frag):V->List V->Hp->VK->Prop:=λx vs H Q=>∃(l:b_)(bs:List Bool)(j:Nat),x=.ref l/\vs=[.bl bj]/\gq K H l (bs.map V.bl)/\bs.length<=1000/\bs[j]?=ap bj/\(∀i,i<j->bs[i]?=ap av)/\Q (.int (j:Nat)) H
theorem HF:MtR X "list.index" (Qv X.K):=by
 intro k s σ H x vs v C Q I o p h;obtain⟨l,bs,j,rfl,rfl,t,hz,w,c,q⟩:=h;cases o;obtain⟨u,rfl,z⟩:=p.one;cases z;obtain⟨a,r,A,_⟩:=I.list t;have m:bs.length=a.length:=by have:=r.length;simpa using this
 obtain⟨e,f⟩:=gh w;obtain⟨⟨cls,dd,data,sl⟩,n,ho,hc,b,hd⟩:=A;simp only at hc hd b;subst hc hd b;refine jS PySem.F.slot_list_index ⟨_,ho,rfl⟩ PySem.F.entry_list_index (PySem.F.args_list_index_2 _ _) (SeqAt.list_indexAt l a.toArray n none sl (.bool bj) (Qo (.bl bj)) j (by simp;lia) (by lia) ?_ ?_) ⟨ho,λy B=>ur (x:=.bl bj) rfl rfl r (vz bs) y (by simpa using B),?_⟩;.show Qo (.bl bj) a[j]=bj;rw[By r j (by lia) e];exact f
 .intro i hi g;show Qo (.bl bj) a[i]=av;rw[By r i (by simpa using hi) (by lia)];exact(gh (c i g)).2
 .exact⟨.int (j:Nat),H,I.tok _,⟨_,rfl⟩,q⟩
end
section
variable{X:Cx}{c:Call}{n i j k:Nat}{ea:b_}{pos:Pos}
theorem wN{p1 m h f:Pos}{k0}(p:X.N[j]?=ap y)(r:vR X.env.scope y)(b:(m.endLine==h.line)=bj)(hs:cj [.Constant (.bool bj) k0 f] X.env=(av,eg (.Constant (.bool bj) k0 f) X.env)::cj [] X.env)(e:g_ (.Name y p1) "count" X.env (eg (.Name y p1) X.env)=eg (.Name y p1) X.env)(g:((fS h (cj [.Constant (.bool bj) k0 f] X.env)).all (λx=>!x.1)&&(mA h (kf [] X.env)).all (λx=>x.1.isSome)&&decide ([Expr.Constant (.bool bj) k0 f].length+([]:List iX).length+(if([]:List iX).isEmpty then 0 else 1)<30))=bj)(hd:(y==("__debug__":Str))=av)(l:(y==("__classdict__":Str))=av):PE X (.Call (.Attribute (.Name y p1) "count" m) [.Constant (.bool bj) k0 f] [] h) (λσ H Q=>∃(a:b_)(bs:List Bool),σ[j]?=ap (ap (V.ref a))/\H a=ap (.lst (bs.map V.bl))/\Q (.int (bs.countP rN:Nat)) H):=by refine dh (Ga plainAttrs_list PySem.F.slot_list_count PySem.F.type_list_count Hc (gb p r hd l) (bD J4 dC hs) e g b hs) ?_;rintro σ H Q⟨a,bs,h1,o,q⟩;exact⟨_,h1,.inl ⟨rfl,_,gq.of o⟩,a,bs,rfl,rfl,gq.of o,q⟩
theorem wD{p1 o h f:Pos}{k0}(r:X.N[j]?=ap y)(s:vR X.env.scope y)(b:(o.endLine==h.line)=bj)(hs:cj [.Constant (.bool bj) k0 f] X.env=(av,eg (.Constant (.bool bj) k0 f) X.env)::cj [] X.env)(e:g_ (.Name y p1) "index" X.env (eg (.Name y p1) X.env)=eg (.Name y p1) X.env)(g:((fS h (cj [.Constant (.bool bj) k0 f] X.env)).all (λx=>!x.1)&&(mA h (kf [] X.env)).all (λx=>x.1.isSome)&&decide ([Expr.Constant (.bool bj) k0 f].length+([]:List iX).length+(if([]:List iX).isEmpty then 0 else 1)<30))=bj)(hd:(y==("__debug__":Str))=av)(l:(y==("__classdict__":Str))=av):PE X (.Call (.Attribute (.Name y p1) "index" o) [.Constant (.bool bj) k0 f] [] h) (λσ H Q=>∃(a:b_)(bs:List Bool)(m:Nat),σ[j]?=ap (ap (V.ref a))/\H a=ap (.lst (bs.map V.bl))/\bs.length<=1000/\bs[m]?=ap bj/\(∀i,i<m->bs[i]?=ap av)/\Q (.int (m:Nat)) H):=by refine dh (Ga plainAttrs_list PySem.F.slot_list_index PySem.F.type_list_index HF (gb r s hd l) (bD J4 dC hs) e g b hs) ?_;rintro σ H Q⟨a,bs,m,h1,p,hz,t,u,q⟩;exact⟨_,h1,.inl ⟨rfl,_,gq.of p⟩,a,bs,m,rfl,rfl,gq.of p,hz,t,u,q⟩
noncomputable def P0(X:Cx)(es:List da)(ss:List Str):Prop:=PA X es (λ_ H Q=>Q (ss.map V.str) H)
theorem Av:P0 X [] []:=lU dC λ_ _ _ h=>h
theorem gf{s:Str}{k0}{a:Pos}{ss:List Str}(h:P0 X es ss)(hs:cj (.Constant (.str s) k0 a::es) X.env=(av,eg (.Constant (.str s) k0 a) X.env)::cj es X.env:=by exact aZ rfl):P0 X (.Constant (.str s) k0 a::es) (s::ss):=lU (bD Cd h hs) λ_ _ _ h=>h
noncomputable def FW(b0:Bool)(bs:List Bool)(ss:List Str)(s0 s:Str):Prop:=if b0=bj/\bs.countP rN=1 then ∃m:Nat,bs[m]?=ap bj/\(∀i,i<m->bs[i]?=ap av)/\ss[m]?=ap s else s=s0
theorem Em{b0:Bool}{bs:List Bool}{ss:List Str}{s0 s:Str}(a:b0=bj)(hc:bs.countP rN=1)(m:Nat)(h1:bs[m]?=ap bj)(b:∀i,i<m->bs[i]?=ap av)(e:ss[m]?=ap s):FW b0 bs ss s0 s:=by rw[FW,if_pos ⟨a,hc⟩];exact⟨m,h1,b,e⟩
theorem VN{W:Nat->Hp->Prop}{e:da}{f:Nat}{ps:List P}{z:Int}{ik}{a:Pos}(h:XE X c W e (.call f ps))(b:o8 (.Constant (.int z) ik a):=by intro _ _;rfl):XE X c W (.Subscript e (.Constant (.int z) ik a) pos) (.idx (.call f ps) (.con (.int z))):=dh (Gp aas h oM b) λσ H Q h=>h
theorem V0{ps:List P}{a:List D}{ρ:List Sl}(b:evs c ps ρ=.ok a ρ):_H.ev c (.lst ps) ρ=.ok (.own a) ρ:=by rw[_H.E13,b];rfl
theorem UL{d:D}{ρ:List Sl}:_H.ev c (.con d) ρ=.ok (.val d) ρ:=by rw[_H.E2]
theorem Ai{b o:Str}{xs:List da}{x0:da}{b0:Bool}{bs:List Bool}{ps:List P}{ss:List Str}{s0 s:Str}{pa pb pc lp E p1 p2 G h I l q1 U q3 q4 q5 q6 t u Y J:Pos}{k1 k2 k3 k4}(Z:X.N.Nodup)(ac:i≠j)(ae:i≠k)(af:j≠k)(hj:X.N[j]?=ap b)(ag:Loc X.env.scope b)(aI:vR X.env.scope b)(hk:X.N[k]?=ap o)(L:Loc X.env.scope o)(ha:GA X i ea xs bs)(hp:∀ρ,evs c ps ρ=.ok (bs.map D.bl) ρ)(h0:GT X i ea x0 b0)(ah:P0 X es ss)(hz:bs.length<=1000)(aS:ss.length<=1000)(w:FW b0 bs ss s0 s)(hC:PE X (.Call (.Attribute (.Name b p1) "count" G) [.Constant (.bool bj) k1 q1] [] I) (λσ H Q=>∃(a:b_)(bs:List Bool),σ[j]?=ap (ap (V.ref a))/\H a=ap (.lst (bs.map V.bl))/\Q (.int (bs.countP rN:Nat)) H))(hI:PE X (.Call (.Attribute (.Name b p2) "index" h) [.Constant (.bool bj) k2 U] [] l) (λσ H Q=>∃(a:b_)(bs:List Bool)(m:Nat),σ[j]?=ap (ap (V.ref a))/\H a=ap (.lst (bs.map V.bl))/\bs.length<=1000/\bs[m]?=ap bj/\(∀i,i<m->bs[i]?=ap av)/\Q (.int (m:Nat)) H))(hpl:o8 (.Call (.Attribute (.Name b p2) "index" h) [.Constant (.bool bj) k2 U] [] l))(ai:eP (.List xs lp) (ap (.Name b pa)) t.line X.env=eL av)(al:X.fn b=bj\/X.env.scope.names.lookup b=ap .local)(am:eP (.Constant (.str s0) k3 q3) (ap (.Name o pb)) u.line X.env=eL av)(M:X.fn o=bj\/X.env.scope.names.lookup o=ap .local)(ar:eP (.Subscript (.List es E) (.Call (.Attribute (.Name b p2) "index" h) [.Constant (.bool bj) k2 U] [] l) q4) (ap (.Name o pc)) J.line X.env=eL av):HB X c n i ea [.Assign [.Name b pa] (.List xs lp) t,.Assign [.Name o pb] (.Constant (.str s0) k3 q3) u,.If (.BoolOp .And [x0,.Compare (.Call (.Attribute (.Name b p1) "count" G) [.Constant (.bool bj) k1 q1] [] I) [.Eq] [.Constant (.int 1) k4 q5] q6] pos) [.Assign [.Name o pc] (.Subscript (.List es E) (.Call (.Attribute (.Name b p2) "index" h) [.Constant (.bool bj) k2 U] [] l) q4) J] [] Y] [.asg j (.lst ps),.asg k (.con (.str s))]:=by
 refine lA (jm (jX Z hj ag (Dk ha) ai al) (jm (jX Z hk L Cd am M) (Fw (FT (PW.pt (JW h0 (Eo (Jm (Us hC oM))))) (Fw (jX Z hk L (Gp xU (Dk ah) hI hpl) ar M)) su)))) ?_;rintro D σ H⟨g,F,ρ,aT,gs,f,q⟩;rw[Tt]at f;obtain⟨bi,bn,B,f⟩:=aj f;rw[_H.X6,V0 (hp _)]at B;obtain⟨r,bo,e2,B⟩:=aj B;cases e2;obtain⟨bp,bq,O,B⟩:=aj B;cases B;have zz:=aF O;clear O;obtain⟨O,e4⟩:=zz;replace f:=FN f;rw[_H.X6,UL]at f;obtain⟨r,br,e5,f⟩:=aj f;cases e5;obtain⟨bt,bv,W,f⟩:=aj f;cases f;have zz:=aF W;clear W;obtain⟨W,e7⟩:=zz;refine⟨g,λH1 s1=>⟨by simp[eR];lia,λp aw=>?_⟩⟩;have st:aL X.K F ρ σ H F ρ σ H1:=Ext.stp gs ⟨s1,.refl _,gs.sub.trans s1,λ_ x y=>absurd x y⟩;have ax:j<σ.length:=by obtain⟨s0,h0,_⟩:=uq O;rw[<-gs.len];exact(gh h0).1
 have fin:∀e,aJ (upd H1 p (.lst (bs.map V.bl))) e->D.nx ((σ.set j (ap (.ref p))).set k (ap (.str s))) e:=Am (K:=X.K) (Q:=λv H'=>∀e,aJ H' e->D.nx ((σ.set j (ap v)).set k (ap (.str s))) e) st.gs.sub (Kl bs) aw λv F2 H2 xt rn e s4=>by have A:=(st.trans (xt.stp st.gs)).put (.later st (rn.qF st.gs)) O;have ay:=Ext.stp (F':=F2) (H':=e) A.gs ⟨s4,.refl _,A.gs.sub.trans s4,λ_ x y=>absurd x y⟩;exact q F2 _ e ((A.trans ay).put (v:=.str s) (r:=.val (.str s)) (by show Rep X.K F2 _ _;rw[Rep]) W)
 have hS:∀e,aJ (upd H1 p (.lst (bs.map V.bl))) e->e p=ap (.lst (bs.map V.bl)):=λe s4=>s4 p _ aP;have gj:((σ.set j (ap (V.ref p))).set k (ap (V.str s0)))[j]?=ap (ap (V.ref p)):=by rw[gM af,ce ax]
 refine⟨?_,λC s3=>?_⟩;.show((σ.set j _).set k _)[i]?=_;rw[gM ae,gM ac];exact g
 unfold FW at w
 cases b0 with|false=>
   have hs:s=s0:=by rw[if_neg (λz=>by cases z.1)]at w;exact w
   subst hs;exact fin C s3|true=>
   by_cases hc:bs.countP rN=1
   . rw[if_pos ⟨rfl,hc⟩]at w;obtain⟨m,m1,m2,m3⟩:=w;refine⟨p,bs,gj,hS C s3,(bs.countP rN:Nat),1,rfl,rfl,bj,by rw[hc];rfl,?_⟩;show(if bj=bj then _ else _);rw[if_pos rfl];refine⟨by simp[eR];lia,λp2 aE=>?_⟩;have s5:aJ C (upd C p2 (.lst (ss.map V.str))):=aJ.cY aE;refine⟨p,bs,m,gj,hS _ (s3.trans s5),hz,m1,m2,p2,ss.map V.str,(m:Int),.str s,rfl,rfl,gq.of aP,?_,?_⟩;.have hm:m<ss.length:=(gh m3).1;show Hu (ss.map V.str) (m:Int)=_;unfold Hu;unfold _L.lR;rw[if_pos (by lia),if_pos (by simp;lia)];simp[m3]
     .show D.nx (((σ.set j (ap (V.ref p))).set k (ap (V.str s0))).set k (ap (.str s))) _;rw[List.set_set];exact fin _ (s3.trans s5)
   . have hs:s=s0:=by rw[if_neg (λz=>hc z.2)]at w;exact w
     subst hs;refine⟨p,bs,gj,hS C s3,(bs.countP rN:Nat),1,rfl,rfl,av,by show V.bl (decide (((bs.countP rN:Nat):Int)=1))=_;rw[decide_eq_false (by lia)],?_⟩;show(if av=bj then _ else _);rw[if_neg (by decide)];exact fin C s3
end
end _H
noncomputable section
set_option maxHeartbeats 4000000
namespace _T
open PySem _L Spec PyProof.Rows _H
local macro_rules|`(term|⇑$n)=>`(P.con (.int $n))
local macro_rules|`(term|↑$n)=>`(P.var $n)
local macro_rules|`(tactic|ac_rfl)=>`(tactic|first|exact dy rfl|exact ei (dy rfl))
set_option hygiene false
local macro_rules|`(term|↥($a,$b,$d))=>`(iJ Pg w K mg base Jc (k+1) f fd $a (PB K $b (λargs=>enter c n $d args)))
local macro_rules|`(term|↥($a,$b,$d,0))=>`(aY Pg w K mg base k c $a $b $d)
set_option hygiene true
local macro_rules|`(term|⇑($x))=>`(λ_ _ _ _ _=>$x)
local macro_rules|`(tactic|exists$e)=>`(tactic|with_reducible refine$e)
local macro_rules|`(tactic|rfl')=>`(tactic|with_reducible refine aQ ?_ ?_)
set_option hygiene false
local macro_rules|`(tactic|exists$i,$e)=>`(tactic|((with_reducible refine lW (i:=$i) ?_ ?_ ?_ ?_ ?_ ?_);exact nd;exact rfl;exact oi;rotate_left;rfl;exact oi;exact$e))
local macro_rules|`(tactic|exists$i,$e,0)=>`(tactic|((with_reducible refine yE (i:=$i) ?_ ?_ ?_ ?_ ?_ ?_ ?_ ?_ ?_);exact eA;exact hc;exact nd;exact rfl;exact oi;exact$e;rotate_left;(· intro _;rfl);exact oi))
local macro_rules|`(tactic|exists$a,$b,0,0)=>`(tactic|(refine abx $a $b rfl rfl λcdv A outer s H E hr=>?_;have nd:=($b).nd))
local macro_rules|`(tactic|exists(),$e)=>`(tactic|((with_reducible refine WM ?_);exact$e))
set_option hygiene true
local macro_rules|`(term|‹$l›)=>`((show(($l):List Str).Nodup by decide+kernel))
theorem hc:bj=bj:=rfl
theorem oi{b:Type}{a:b}{p:Prop}:a=a\/p:=.inl rfl
theorem aD{X:Cx}{c:Call}{a:da}{es:List da}{b:P}{ps:List P}(e:SX X c a b)(hr:SG X c es ps)(h:nst a=bj):SG X c (a::es) (b::ps):=Rw e hr (aZ h)
theorem cI{X:Cx}{c:Call}{a:da}{es:List da}{b:P}{ps:List P}(e:SX X c a b)(hr:SA X c es ps)(h:nst a=bj):SA X c (a::es) (b::ps):=tH e hr (aZ h)
variable{Pg:c_}{w:eh}{K:PySem.W.Frag}{mg:Str->Option bd}{base:ef}{f:b_}{fd:gz}{k n:Nat}{c:Call}{cl:Nat->b_}
noncomputable def top(i:Nat):ek:=PySem.Challenge.pw_hourhaul_k85_nets_laned_and_open.main.body.getD i (.Pass ⟨0,0,0,0⟩)
noncomputable abbrev s0:ek:=top 8
noncomputable def b0:List S:=[.asg 2 (.idx (.idx ↑0 ⇑1) (.idx ↑1 ⇑0)),.ret (.T6 (.idx ↑1 ⇑1) (.tup [.idx ↑2 ⇑0,.idx ↑2 ⇑1]) (.tup [.idx ↑2 ⇑1,.idx ↑2 ⇑0]))]
noncomputable def f0:Fd:=⟨2,3,b0⟩
theorem sc0:aO ["net","step","way"] ["net","step"] (aA s0):={}
include cl in
theorem d0(a:gn K "step_places" "step_places" s0 f fd):↥(["net","step"],2,f0):=by
 exists a,sc0,0,0;refine aQ ?_ ?_;.exists 2,au (au (sv 0) aa) (au (sv 1) aa)
 rfl';.exists(),oJ (gA (au (sv 1) aa)) (bJ (cI (au (sv 2) aa) (cI (au (sv 2) aa) aM rfl) rfl)) (bJ (cI (au (sv 2) aa) (cI (au (sv 2) aa) aM rfl) rfl))
 exact aq
noncomputable abbrev s1:ek:=top 9
noncomputable def b1:List S:=[.asg 2 (.idx (.idx (.idx ↑0 ⇑1) (.idx ↑1 ⇑0)) ⇑3),.ret (.T6 (.idx ↑1 ⇑1) ↑2 (.neg ↑2))]
noncomputable def f1:Fd:=⟨2,3,b1⟩
theorem sc1:aO ["net","step","hours"] ["net","step"] (aA s1):={}
include cl in
theorem d1(a:gn K "step_hours" "step_hours" s1 f fd):↥(["net","step"],2,f1):=by
 exists a,sc1,0,0;refine aQ ?_ ?_;.exists 2,au (au (au (sv 0) aa) (au (sv 1) aa)) aa
 rfl';.exists(),oJ (gA (au (sv 1) aa)) (sv 2) (mz (sv 2))
 exact aq
noncomputable abbrev s2:ek:=top 10
noncomputable def b2:List S:=[.asg 3 (.idx ↑1 (.idx ↑2 ⇑0)),.ret (.T6 (.idx ↑2 ⇑1) (.bin .sub (.idx (.idx (.idx ↑0 ⇑1) (.idx ↑2 ⇑0)) ⇑2) ↑3) ↑3)]
noncomputable def f2:Fd:=⟨3,4,b2⟩
theorem sc2:aO ["net","stream","step","loads"] ["net","stream","step"] (aA s2):={}
include cl in
theorem d2(a:gn K "step_room" "step_room" s2 f fd):↥(["net","stream","step"],3,f2):=by
 exists a,sc2,0,0;refine aQ ?_ ?_;.exists 3,au (sv 1) (au (sv 2) aa)
 rfl';.exists(),oJ (gA (au (sv 2) aa)) (az dm (au (au (au (sv 0) aa) (au (sv 2) aa)) aa) (sv 3)) (sv 3)
 exact aq
noncomputable abbrev s3:ek:=top 11
noncomputable def b3:List S:=[.ret (.blt .sum [.comp ↑1 1 [2] bj none (.call 1 [↑0,↑2])])]
noncomputable def f3:Fd:=⟨2,2,b3⟩
theorem sc3:aO ["net","steps"] ["net","steps"] (aA s3):={}
include cl in
theorem d3(a:gn K "steps_hours" "steps_hours" s3 f fd)(lN:mg "sum"=none)(b:↥(1,"step_hours",2,0)):↥(["net","steps"],2,f3):=by
 exists a,sc3,0,0;refine aQ ?_ ?_;.exists(),xx rfl hc (by rfl) lN (fG (N':=["net","steps","step"]) hc (qU rfl (by rfl)) (cJ (sv 1)) ⇑(aB (i:=2) ‹["net","steps","step"]› rfl (dy rfl) (ei rfl)) (cW (eU)) ⇑(bO) ⇑((bW b hr (aD (sv 0) (aD (sv 2) ao rfl) rfl))))
 exact aq
noncomputable abbrev s4:ek:=top 12
noncomputable def b4:List S:=[.Nv 2 (.vD ⇑0 (.idx ↑0 ⇑0)) 1 [5] bj (.lst []),.Ik (.vD ⇑0 (.blt .len [.idx ↑0 ⇑1])) [3] bj [.Ik (.tup [.tup [↑3,.con (.bl bj)],.tup [↑3,.con (.bl av)]]) [4] bj [.ifs (.cmp .gt (.call 2 [↑0,↑1,↑4]) ⇑0) [.Ny 2 (.idx (.call 0 [↑0,↑4]) ⇑0) ↑4] []]],.eN 2,.ret ↑2]
noncomputable def f4:Fd:=⟨2,5,b4⟩
theorem sc4:aO ["net","stream","steps","number","step"] ["net","stream"] (aA s4):={}
include cl in
theorem d4(a:gn K "open_steps" "open_steps" s4 f fd)(aR:mg "len"=none)(bK:mg "range"=none)(b:↥(0,"step_places",2,0))(e:↥(2,"step_room",3,0)):↥(["net","stream"],2,f4):=by exists a,sc4,0,0;exact(by(refine QG (i:=2) (N':=["net","stream","steps","number","step","place"]) (g:=lZ 5) ?_ ?_ ?_ ?_ ?_ ?_ ?_ ?_ ?_ ?_ ?_ ?_ ?_ ?_);exact hc;exact nd;exact rfl;exact oi;exact qU rfl (by rfl);exact iy rfl (by rfl) bK (au (sv 0) aa);exact ⇑(aB (i:=5) ‹["net","stream","steps","number","step","place"]› rfl (dy rfl) (ei rfl));exact cW (eU);exact ⇑(bO);exact ⇑((dI aM));(· exists KH ?_ ?_;(· exists EY (g:=lZ 3) ?_ ?_ ?_ ?_ ?_ ?_ ?_;exact eA;exact hc;(· exists J6 ?_ ?_ ?_ ?_ ?_;exact rfl;rfl;exact bK;exact cu rfl (by rfl) aR (au (sv 0) aa);rfl);exact aB (i:=3) nd rfl oi oi;(· rw[qj];exact xY 3);(· exists uZ ?_ ?_;(· exists EY (g:=lZ 4) ?_ ?_ ?_ ?_ ?_ ?_ ?_;exact eA;exact hc;exact QS (bJ (cI (bJ (cI (sv 3) (cI pR aM rfl) rfl)) (cI (bJ (cI (sv 3) (cI pR aM rfl) rfl)) aM rfl) rfl));exact aB (i:=4) nd rfl oi oi;(· rw[qj];exact xY 4);(· exists uZ ?_ ?_;(· exists Wo ?_ ?_ ?_;exact bC jR (bW e hr (aD (sv 0) (aD (sv 1) (aD (sv 4) ao rfl) rfl) rfl)) aa (bf _);(· exists uZ ?_ ?_;(· exists M4 (k:=2) ?_ ?_ ?_ ?_ ?_ ?_ ?_ ?_ ?_ ?_ ?_ ?_;exact rfl;(· first|exact dy rfl|exact ei (dy rfl));exact au (bW b hr (aD (sv 0) (aD (sv 4) ao rfl) rfl)) aa;exact sv 4;(· intro _ _;rfl);rfl;rfl;rfl;rfl;rfl;rfl;rfl);exact sU);exact sU);exact sU);(· intro _;rfl));exact sU);(· intro _;rfl));(· exists PX ?_;(· rfl';(· exists(),sv 2);exact aq)));rfl;(· intro _;rfl);exact oi)
noncomputable abbrev s5:ek:=top 13
noncomputable def b5:List S:=[.asg 3 (.call 4 [↑0,↑1]),.Il 4,.j6 (.blt .keys [↑2]) [5] bj [.jF 4 ↑5 (.tup [.bin .Dp ↑2 ↑5,⇑0,.con .non])],.asg 6 (.blt .Z2 [↑2]),.whl (.cmp .gt (.blt .len [↑6]) ⇑0) [.Il 7,.j6 ↑6 [5] bj [.j6 (.idx ↑3 ↑5) [8] bj [.asg 9 (.idx (.call 0 [↑0,↑8]) ⇑1),.asg 10 (.tup [.bin .add (.idx (.T7 4 ↑5) ⇑0) (.call 1 [↑0,↑8]),.bin .add (.idx (.T7 4 ↑5) ⇑1) ⇑1]),.ifs (.or (.T9 4 ↑9 bj) (.cmp .lt ↑10 (.slice (.T7 4 ↑9) (.con .non) ⇑2))) [.jF 4 ↑9 (.bin .add ↑10 (.tup [↑8])),.jF 7 ↑9 (.con (.bl bj))] []]],.asg 6 (.blt .Z2 [.vw 7])],.ret ↑4]
noncomputable def f5:Fd:=⟨3,11,b5⟩
theorem sc5:aO ["net","stream","begun","steps","come","place","row","changed","step","to","found"] ["net","stream","begun"] (aA s5):={}
include cl in
theorem d5(a:gn K "shortest_come" "shortest_come" s5 f fd)(aR:mg "len"=none)(fL:mg "list"=none)(b:↥(4,"open_steps",2,0))(e:↥(1,"step_hours",2,0))(g:↥(0,"step_places",2,0)):↥(["net","stream","begun"],3,f5):=by
 exists a,sc5,0,0;refine aQ ?_ ?_;.exists 3,bW b hr (aD (sv 0) (aD (sv 1) ao rfl) rfl)
 rfl';.exact(Eb (i:=4) nd rfl oi (by rfl) (dy rfl))
 rfl';.exists 5,Qc (sv 2),0;(· rfl';exact tV (i:=4) (bh hr) rfl (by ac_rfl) (sv 5) (bJ (cI (sH (bh hr) (sv 2) (sv 5) (λ_ _=>rfl)) (cI aa (cI Ly aM rfl) rfl) rfl)) (by rfl);exact aq)
 rfl';.exists 6,J1 rfl hc (by rfl) fL (sv 2)
 rfl';.exact(yg eA (bC jR (cu rfl (by rfl) aR (sv 6)) aa (bf _)) (by rfl';exact Eb (i:=7) nd rfl oi (by rfl) (dy rfl);(· rfl';(· exists 5,cJ (sv 6),0;(· rfl';(· exists 8,cJ (au (sv 3) (sv 5)),0;(· rfl';(· exists 9,au (bW g hr (aD (sv 0) (aD (sv 8) ao rfl) rfl)) aa);(· rfl';(· exists 10,bJ (cI (az aG (au (Ca (i:=4) (bh hr) rfl (by ac_rfl) (sv 5) (λ_ _=>rfl)) aa) (bW e hr (aD (sv 0) (aD (sv 8) ao rfl) rfl))) (cI (az aG (au (Ca (i:=4) (bh hr) rfl (by ac_rfl) (sv 5) (λ_ _=>rfl)) aa) aa) aM rfl) rfl));(· rfl';(· exists dF ?_ ?_ ?_;exact SW.st (JD (VG (i:=4) (ei ⟨rfl,rfl⟩) (bh hr) rfl (by ac_rfl) (sv 9) (by with_unfolding_all rfl)) (CN (bC (MK (bh hr)) (sv 10) (fM (Ca (i:=4) (bh hr) rfl (by ac_rfl) (sv 9) (λ_ _=>rfl)) gw (gH aa)) (bf _))));(· rfl';exact tV (i:=4) (bh hr) rfl (by ac_rfl) (sv 9) (az aG (sv 10) (bJ (cI (sv 8) aM rfl))) (by rfl);(· rfl';exact tV (i:=7) (bh hr) rfl (by ac_rfl) (sv 9) pR (by rfl);exact aq));exact aq);exact aq))));exact aq));(· rfl';(· exists 6,J1 rfl hc (by rfl) fL (mJ (i:=7) rfl (by ac_rfl)));exact aq))))
 rfl';.exists(),sv 4
 exact aq
noncomputable abbrev s6:ek:=top 14
noncomputable def b6:List S:=[.asg 3 (.lst []),.asg 4 ↑2,.whl (.cmp .RJ (.idx (.bin .Dp ↑1 ↑4) ⇑2) (.con .non)) [.asg 5 (.idx (.bin .Dp ↑1 ↑4) ⇑2),.app 3 ↑5,.asg 4 (.idx (.call 0 [↑0,↑5]) ⇑0)],.ret (.blt .rvT [↑3])]
noncomputable def f6:Fd:=⟨3,6,b6⟩
theorem sc6:aO ["net","come","place","steps","here","step"] ["net","come","place"] (aA s6):={}
include cl in
theorem d6(a:gn K "steps_to" "steps_to" s6 f fd)(oX:mg "reversed"=none)(bu:mg "tuple"=none)(b:↥(0,"step_places",2,0)):↥(["net","come","place"],3,f6):=by
 exists a,sc6,0,0;refine aQ ?_ ?_;.exists 3,dI aM
 rfl';.exists 4,sv 2
 rfl';.exact(yg eA (bC O4 (au (sH (bh hr) (sv 1) (sv 4) (λ_ _=>rfl)) aa) Ly (bf _)) (by rfl';(· exists 5,au (sH (bh hr) (sv 1) (sv 4) (λ_ _=>rfl)) aa);(· rfl';exact bZ (k:=3) rfl (by ac_rfl) (sv 5);(· rfl';(· exists 4,au (bW b hr (aD (sv 0) (aD (sv 5) ao rfl) rfl)) aa);exact aq))))
 rfl';.exists(),BX rfl rfl hc (by rfl) bu (by rfl) oX (sv 3)
 exact aq
noncomputable abbrev s7:ek:=top 15
noncomputable def b7:List S:=[.asg 3 (.blt .list [↑0]),.j6 ↑1 [4,5] av [.Nt 3 ↑4 av (.T6 ↑5 ↑2 (.neg ↑2))],.ret ↑3]
noncomputable def f7:Fd:=⟨3,6,b7⟩
theorem sc7:aO ["stream","steps","loads","changed","number","forth"] ["stream","steps","loads"] (aA s7):={}
include cl in
theorem d7(a:gn K "stream_with" "stream_with" s7 f fd)(fL:mg "list"=none):↥(["stream","steps","loads"],3,f7):=by
 exists a,sc7,0,0;refine aQ ?_ ?_;.exists 3,xM rfl (by rfl) fL (sv 0)
 rfl';.exact(lu eA hc (cJ (sv 1)) (cT hc (aC (aB (i:=4) nd rfl oi oi) (aC (aB (i:=5) nd rfl oi oi) bQ))) (gZ rfl (bA _ _ (bA _ _ fC 5) 4)) (by rfl';exact sX (k:=3) (sub:=av) tO rfl (by ac_rfl) (sv 4) (oJ (gA (sv 5)) (sv 2) (mz (sv 2)));exact aq))
 rfl';.exists(),sv 3
 exact aq
include cl in
theorem dx7(a:gn K "stream_with" "stream_with" s7 f fd)(fL:mg "list"=none):iJ Pg w K mg base (o4 Pg w) (k+1) f fd ["stream","steps","loads"] (Bs K cl 3 (λargs=>enter c n f7 args)):=by
 refine jQ a sc7 rfl rfl λcdv A outer s H E W hr b=>?_;have nd:=sc7.nd;have e:sG (jG (o4 Pg w) Pg w K mg base ["stream","steps","loads","changed","number","forth"] "stream_with" (aA s7) f cdv A outer s H E) E:=fO;refine aK ?_ ?_ ?_;.exists 3,xM rfl (by rfl) fL (sv 0)
 .exact(cR (by intro _;rfl))
 exists aK ?_ ?_ ?_;.exact(lu kh hc (cJ (sv 1)) (cT hc (aC (aB (i:=4) nd rfl oi oi) (aC (aB (i:=5) nd rfl oi oi) bQ))) (gZ rfl (bA _ _ (bA _ _ fC 5) 4)) (by rfl';exact sX (k:=3) (sub:=av) tO rfl (by ac_rfl) (sv 4) (oJ (gA (sv 5)) (sv 2) (mz (sv 2)));exact aq))
 .exact(xK kh hc (cJ (sv 1)) (cT hc (aC (aB (i:=4) nd rfl oi oi) (aC (aB (i:=5) nd rfl oi oi) bQ))) (gZ rfl (bA _ _ (bA _ _ fC 5) 4)) (by rfl';exact sX (k:=3) (sub:=av) tO rfl (by ac_rfl) (sv 4) (oJ (gA (sv 5)) (sv 2) (mz (sv 2)));exact aq) (aK (sX (k:=3) (sub:=av) tO rfl (by ac_rfl) (sv 4) (oJ (gA (sv 5)) (sv 2) (mz (sv 2)))) cR bF) (by intro _;rfl))
 exists aK ?_ ?_ ?_;.exists(),sv 3
 .exact cR
 exact bF
noncomputable abbrev s8:ek:=top 16
noncomputable def b8:List S:=[.asg 1 (.bin .sub (.idx ↑0 ⇑0) ⇑1),.asg 2 (.bin .mul (.lst [⇑0]) (.blt .len [.idx ↑0 ⇑1])),.asg 3 (.lst []),.asg 4 (.call 5 [↑0,↑2,.Dq 0 0]),.whl (.bin .din ↑1 ↑4) [.asg 5 (.call 6 [↑0,↑4,↑1]),.asg 6 (.blt .Nq [.comp ↑5 1 [7] bj none (.call 2 [↑0,↑2,↑7])]),.app 3 (.tup [↑5,↑6]),.asg 2 (.call 7 [↑2,↑5,↑6]),.asg 4 (.call 5 [↑0,↑2,.Dq 0 0])],.ret ↑3]
noncomputable def f8:Fd:=⟨1,7,b8⟩
theorem sc8:aO ["net","end","stream","chains","come","steps","loads"] ["net"] (aA s8):={}
include cl in
theorem d8(b:gn K "chains_to_end" "chains_to_end" s8 f fd)(aR:mg "len"=none)(jN:mg "min"=none)(a:↥(5,"shortest_come",3,0))(e:↥(2,"step_room",3,0))(g:↥(6,"steps_to",3,0))(h:↥(7,"stream_with",3,0)):↥(["net"],1,f8):=by
 exists b,sc8,0,0;refine aQ ?_ ?_;.exists 1,az dm (au (sv 0) aa) aa
 rfl';.exists lW (i:=2) ?_ ?_ ?_ ?_ ?_ ?_;exact nd;exact rfl;exact ei rfl;rotate_left;rfl;exact oi;exact az cZ (dI (cI aa aM rfl)) (cu rfl (by rfl) aR (au (sv 0) aa))
 rfl';.exists 3,dI aM
 rfl';.exists 4,bW a hr (aD (sv 0) (aD (sv 2) (aD Eh ao rfl) rfl) rfl)
 rfl';.exact(yg eA (WY (bh hr) (sv 1) (sv 4) (by with_unfolding_all rfl)) (by rfl';(· exists 5,bW g hr (aD (sv 0) (aD (sv 4) (aD (sv 1) ao rfl) rfl) rfl));(· rfl';(· exists 6,Pr rfl hc (by rfl) jN (fG (N':=["net","end","stream","chains","come","steps","loads","step"]) hc (qU rfl (by rfl)) (cJ (sv 5)) ⇑(aB (i:=7) ‹["net","end","stream","chains","come","steps","loads","step"]› rfl (dy rfl) (ei rfl)) (cW (eU)) ⇑(bO) ⇑((bW e hr (aD (sv 0) (aD (sv 2) (aD (sv 7) ao rfl) rfl) rfl)))));(· rfl';exact bZ (k:=3) rfl (by ac_rfl) (bJ (cI (sv 5) (cI (sv 6) aM rfl) rfl));(· rfl';(· exists lW (i:=2) ?_ ?_ ?_ ?_ ?_ ?_;exact nd;exact rfl;exact ei rfl;rotate_left;rfl;exact oi;exact bW h hr (aD (sv 2) (aD (sv 5) (aD (sv 6) ao rfl) rfl) rfl));(· rfl';(· exists 4,bW a hr (aD (sv 0) (aD (sv 2) (aD Eh ao rfl) rfl) rfl));exact aq))))))
 rfl';.exists(),sv 3
 exact aq
noncomputable abbrev s9:ek:=top 17
noncomputable def b9:List S:=[.asg 2 (.lst []),.asg 3 ↑1,.j6 ↑0 [4,5] av [.asg 6 (.blt .min2 [↑3,↑5]),.app 2 (.tup [↑4,↑6]),.aug 3 bj ↑6],.ifs (.cmp .gt ↑3 ⇑0) [.vX 4] [],.ret ↑2]
noncomputable def f9:Fd:=⟨2,7,b9⟩
theorem sc9:aO ["pairs","rate","cut","left","first","loads","taken"] ["pairs","rate"] (aA s9):={}
include cl in
theorem d9(a:gn K "cut_to_rate" "cut_to_rate" s9 f fd)(jN:mg "min"=none):↥(["pairs","rate"],2,f9):=by
 exists a,sc9,0,0;refine aQ ?_ ?_;.exists 2,dI aM
 rfl';.exists 3,sv 1
 rfl';.exact(lu eA hc (cJ (sv 0)) (cT hc (aC (aB (i:=4) nd rfl oi oi) (aC (aB (i:=5) nd rfl oi oi) bQ))) (gZ rfl (bA _ _ (bA _ _ fC 5) 4)) (by rfl';(· exists 6,pI rfl hc (by rfl) jN (cI (sv 3) (cI (sv 5) aM rfl) rfl));(· rfl';exact bZ (k:=2) rfl (by ac_rfl) (bJ (cI (sv 4) (cI (sv 6) aM rfl) rfl));(· rfl';exact yI (i:=3) (sub:=bj) tQ nd rfl oi (sv 6) (dy rfl);exact aq))))
 rfl';.exists dF ?_ ?_ ?_;exact bC jR (sv 3) aa (bf _);(· rfl';exact iz;exact aq);exact aq
 rfl';.exists(),sv 2
 exact aq
include cl in
theorem dx9(a:gn K "cut_to_rate" "cut_to_rate" s9 f fd)(jN:mg "min"=none)(ig:kT "TooMuch" (cl 4) [.type "ValueError",.type "Exception",.type "BaseException",.type "object"] "ValueError.__new__" mg base):iJ Pg w K mg base (o4 Pg w) (k+1) f fd ["pairs","rate"] (Bs K cl 2 (λargs=>enter c n f9 args)):=by
 refine jQ a sc9 rfl rfl λcdv A outer s H E W hr b=>?_;have nd:=sc9.nd;have e:sG (jG (o4 Pg w) Pg w K mg base ["pairs","rate","cut","left","first","loads","taken"] "cut_to_rate" (aA s9) f cdv A outer s H E) E:=fO;refine aK ?_ ?_ ?_;.exists 2,dI aM
 .exact(cR (by intro _;rfl))
 exists aK ?_ ?_ ?_;.exists 3,sv 1
 .exact(cR (by intro _;rfl))
 exists aK ?_ ?_ ?_;.exact(lu kh hc (cJ (sv 0)) (cT hc (aC (aB (i:=4) nd rfl oi oi) (aC (aB (i:=5) nd rfl oi oi) bQ))) (gZ rfl (bA _ _ (bA _ _ fC 5) 4)) (by rfl';(· exists 6,pI rfl hc (by rfl) jN (cI (sv 3) (cI (sv 5) aM rfl) rfl));(· rfl';exact bZ (k:=2) rfl (by ac_rfl) (bJ (cI (sv 4) (cI (sv 6) aM rfl) rfl));(· rfl';exact yI (i:=3) (sub:=bj) tQ nd rfl oi (sv 6) (dy rfl);exact aq))))
 .exact(xK kh hc (cJ (sv 0)) (cT hc (aC (aB (i:=4) nd rfl oi oi) (aC (aB (i:=5) nd rfl oi oi) bQ))) (gZ rfl (bA _ _ (bA _ _ fC 5) 4)) (by rfl';(· exists 6,pI rfl hc (by rfl) jN (cI (sv 3) (cI (sv 5) aM rfl) rfl));(· rfl';exact bZ (k:=2) rfl (by ac_rfl) (bJ (cI (sv 4) (cI (sv 6) aM rfl) rfl));(· rfl';exact yI (i:=3) (sub:=bj) tQ nd rfl oi (sv 6) (dy rfl);exact aq))) (aK (by exists 6,pI rfl hc (by rfl) jN (cI (sv 3) (cI (sv 5) aM rfl) rfl)) (cR (by intro _;rfl)) (aK (bZ (k:=2) rfl (by ac_rfl) (bJ (cI (sv 4) (cI (sv 6) aM rfl) rfl))) cR (aK (yI (i:=3) (sub:=bj) tQ nd rfl oi (sv 6) (dy rfl)) cR bF))) (by intro _;rfl))
 exists aK ?_ ?_ ?_;.exists dF ?_ ?_ ?_;exact bC jR (sv 3) aa (bf _);(· rfl';exact iz;exact aq);exact aq
 .exact(oV (bC jR (sv 3) aa (bf _)) (aK iz (uT hc rfl (by rfl) ig excBase_ValueError e (λH z=>b 4 H z)) bF) bF)
 exists aK ?_ ?_ ?_;.exists(),sv 2
 .exact cR
 exact bF
noncomputable abbrev qI:ek:=top 19
noncomputable def b10:List S:=[.Nu 1 av,.j6 (.call 8 [↑0]) [2,3] av [.asg 4 (.call 3 [↑0,↑2]),.dput 1 ↑4 (.bin .add (.Z3 1 ↑4 ⇑0) ↑3)],.ret (.blt .Nr [.vw 1])]
noncomputable def f10:Fd:=⟨1,5,b10⟩
theorem af6:aO ["net","bends","steps","loads","length"] ["net"] (aA qI):={}
include cl in
theorem d10(a:gn K "bends_of" "bends_of" qI f fd)(vH:mg "sorted"=none)(b:↥(8,"chains_to_end",1,0))(e:↥(3,"steps_hours",2,0)):↥(["net"],1,f10):=by
 exists a,af6,0,0;refine aQ ?_ ?_;.exact(O6 (i:=1) nd rfl oi (by rfl) (dy rfl))
 rfl';.exact(lu eA hc (cJ (bW b hr (aD (sv 0) ao rfl))) (cT hc (aC (aB (i:=2) nd rfl oi oi) (aC (aB (i:=3) nd rfl oi oi) bQ))) (gZ rfl (bA _ _ (bA _ _ fC 3) 2)) (by rfl';(· exists 4,bW e hr (aD (sv 0) (aD (sv 2) ao rfl) rfl));(· rfl';exact Rv (i:=1) (bh hr) rfl (by ac_rfl) (sv 4) (az aG (Xl (i:=1) (bh hr) rfl (by ac_rfl) (sv 4) aa ⟨rfl,rfl,rfl,rfl⟩) (sv 3)) (by rfl);exact aq)))
 rfl';.exists(),Rc rfl hc (by rfl) vH rfl (mJ (i:=1) rfl (by ac_rfl))
 exact aq
noncomputable abbrev Oj:ek:=top 21
noncomputable def b11:List S:=[.ret (.and (.inst [.int] ↑0) (.not (.inst [.bool] ↑0)))]
noncomputable def f11:Fd:=⟨1,1,b11⟩
theorem agV:aO ["thing"] ["thing"] (aA Oj):={}
include cl in
theorem d11(a:gn K "is_whole" "is_whole" Oj f fd)(DG:mg "bool"=none)(NQ:mg "int"=none)(aU:mg "isinstance"=none):↥(["thing"],1,f11):=by
 exists a,agV,0,0;refine aQ ?_ ?_;.exists(),jj (Ad .int rfl (by rfl) aU (sv 0) (by rfl) NQ (by kernel_rfl) (by decide) (by rfl)) (m8 (Ul (Ad .bool rfl (by rfl) aU (sv 0) (by rfl) DG (by kernel_rfl) (by decide) (by rfl))))
 exact aq
noncomputable abbrev s12:ek:=top 22
noncomputable def b12:List S:=[.ret (.and (.call 11 [↑0]) (.chain .le .le ↑1 ↑0 ↑2))]
noncomputable def f12:Fd:=⟨3,3,b12⟩
theorem agU:aO ["thing","least","most"] ["thing","least","most"] (aA s12):={}
include cl in
theorem d12(a:gn K "whole_within" "whole_within" s12 f fd)(b:↥(11,"is_whole",1,0)):↥(["thing","least","most"],3,f12):=by
 exists a,agU,0,0;refine aQ ?_ ?_;.exists(),jj (bW b hr (aD (sv 0) ao rfl)) (m8 (Aw qx qx (sv 1) (sv 0) (sv 2)))
 exact aq
noncomputable abbrev s13:ek:=top 23
noncomputable def b13:List S:=[.ret (.inst [.list,.tuple] ↑0)]
noncomputable def Zm:Fd:=⟨1,1,b13⟩
theorem agR:aO ["thing"] ["thing"] (aA s13):={}
include cl in
theorem d13(a:gn K "is_row" "is_row" s13 f fd)(aU:mg "isinstance"=none)(fL:mg "list"=none)(bu:mg "tuple"=none):↥(["thing"],1,Zm):=by
 exists a,agR,0,0;refine aQ ?_ ?_;.exists(),JL rfl (by rfl) aU (sv 0) (An .list (by rfl) fL (by kernel_rfl) (An .tuple (by rfl) bu (by kernel_rfl) Ri (by decide) (by rfl)) (by decide) (by rfl))
 exact aq
noncomputable abbrev s14:ek:=top 30
noncomputable def b14:List S:=[.ret (.and (.call 13 [↑1]) (.and (.cmp .eq (.blt .len [↑1]) ⇑4) (.and (.call 12 [.idx ↑1 ⇑0,⇑0,.bin .sub ↑0 ⇑1]) (.and (.call 12 [.idx ↑1 ⇑1,⇑0,.bin .sub ↑0 ⇑1]) (.and (.cmp .ne (.idx ↑1 ⇑0) (.idx ↑1 ⇑1)) (.and (.call 12 [.idx ↑1 ⇑2,⇑0,.glob "MOST_ROOM" (.int 1000000000)]) (.call 12 [.idx ↑1 ⇑3,⇑1,.glob "MOST_HOURS" (.int 1000000)])))))))]
noncomputable def f14:Fd:=⟨2,2,b14⟩
theorem ahm:aO ["many","thing"] ["many","thing"] (aA s14):={}
include cl in
theorem d14(b:gn K "is_way" "is_way" s14 f fd)(aR:mg "len"=none)(lG:∃t,mg "MOST_HOURS"=ap (er 1000000 t))(mX:∃t,mg "MOST_ROOM"=ap (er 1000000000 t))(e:↥(13,"is_row",1,0))(a:↥(12,"whole_within",3,0)):↥(["many","thing"],2,f14):=by
 exists b,ahm,0,0;refine aQ ?_ ?_;.exists(),jj (bW e hr (aD (sv 1) ao rfl)) (jj (qJ (dz (bh hr)) (cu rfl (by rfl) aR (sv 1)) aa (bf _)) (jj (bW a hr (aD (au (sv 1) aa) (aD aa (aD (az dm (sv 0) aa) ao rfl) rfl) rfl)) (jj (bW a hr (aD (au (sv 1) aa) (aD aa (aD (az dm (sv 0) aa) ao rfl) rfl) rfl)) (jj (qJ (uQ (bh hr)) (au (sv 1) aa) (au (sv 1) aa) (bf _)) (jj (bW a hr (aD (au (sv 1) aa) (aD aa (aD (iG (by rfl) mX.choose_spec (by rfl)) ao rfl) rfl) rfl)) (m8 (bW a hr (aD (au (sv 1) aa) (aD aa (aD (iG (by rfl) lG.choose_spec (by rfl)) ao rfl) rfl) rfl)))).ev).ev).ev).ev).ev
 exact aq
noncomputable abbrev s15:ek:=top 31
noncomputable def b15:List S:=[.ifs (.or (.not (.call 12 [↑0,.glob "LEAST_PLACES" (.int 2),.glob "MOST_PLACES" (.int 6)])) (.not (.call 13 [↑1]))) [.bad] [],.j6 (.enm ↑1) [2,3] av [.ifs (.not (.call 14 [↑0,↑3])) [.bad] []],.ifs (.cmp .gt (.blt .len [↑1]) (.glob "MOST_WAYS" (.int 12))) [.vX 2] [],.ret (.tup [↑0,.blt .tuple [.comp ↑1 1 [4] bj none (.blt .tuple [↑4])]])]
noncomputable def f15:Fd:=⟨2,4,b15⟩
theorem agZ:aO ["many","ways","at","thing"] ["many","ways"] (aA s15):={}
include cl in
theorem d15(a:gn K "made_net" "made_net" s15 f fd)(mY:mg "enumerate"=none)(aR:mg "len"=none)(bu:mg "tuple"=none)(jA:∃t,mg "LEAST_PLACES"=ap (er 2 t))(j7:∃t,mg "MOST_PLACES"=ap (er 6 t))(mZ:∃t,mg "MOST_WAYS"=ap (er 12 t))(b:↥(13,"is_row",1,0))(e:↥(14,"is_way",2,0))(g:↥(12,"whole_within",3,0)):↥(["many","ways"],2,f15):=by
 exists a,agZ,0,0;refine aQ ?_ ?_;.exists dF ?_ ?_ ?_;exact SW.st (JD (qN (gA (bW g hr (aD (sv 0) (aD (iG (by rfl) jA.choose_spec (by rfl)) (aD (iG (by rfl) j7.choose_spec (by rfl)) ao rfl) rfl) rfl)))) (CN (qN (gA (bW b hr (aD (sv 1) ao rfl))))));(· rfl';exact Lb;exact aq);exact aq
 rfl';.exact(lu eA hc (U8 rfl (by rfl) mY (sv 1)) (cT hc (aC (aB (i:=2) nd rfl oi oi) (aC (aB (i:=3) nd rfl oi oi) bQ))) (gZ rfl (bA _ _ (bA _ _ fC 3) 2)) (by rfl';(· exists dF ?_ ?_ ?_;exact qN (gA (bW e hr (aD (sv 0) (aD (sv 3) ao rfl) rfl)));(· rfl';exact Lb;exact aq);exact aq);exact aq))
 rfl';.exists dF ?_ ?_ ?_;exact bC jR (cu rfl (by rfl) aR (sv 1)) (iG (by rfl) mZ.choose_spec (by rfl)) (bf _);(· rfl';exact iz;exact aq);exact aq
 rfl';.exists(),bJ (cI (sv 0) (cI (fP rfl (by rfl) bu (fG (N':=["many","ways","at","thing","way"]) hc (qU rfl (by rfl)) (cJ (sv 1)) ⇑(aB (i:=4) ‹["many","ways","at","thing","way"]› rfl (dy rfl) (ei rfl)) (cW (eU)) ⇑(bO) ⇑((fP rfl (by rfl) bu (sv 4))))) aM rfl) rfl)
 exact aq
noncomputable abbrev s16:ek:=top 33
noncomputable def b16:List S:=[.ret (.blt .all [.comp (.zip ↑1 (.idx ↑0 ⇑1)) 2 [2,3] av none (.chain .le .le ⇑0 ↑2 (.idx ↑3 ⇑2))])]
noncomputable def f16:Fd:=⟨2,2,b16⟩
theorem ag1:aO ["net","stream"] ["net","stream"] (aA s16):={}
include cl in
theorem d16(a:gn K "within_rooms" "within_rooms" s16 f fd)(NZ:mg "all"=none)(eG:mg "zip"=none):↥(["net","stream"],2,f16):=by
 exists a,ag1,0,0;refine aQ ?_ ?_;.exists(),Wu rfl hc (by rfl) NZ (fG (N':=["net","stream","loads","way"]) hc (qU rfl (by rfl)) (VB rfl (by rfl) eG (sv 1) (au (sv 0) aa)) ⇑(cT hc (aC (aB (i:=2) ‹["net","stream","loads","way"]› rfl (dy rfl) (ei rfl)) (aC (aB (i:=3) ‹["net","stream","loads","way"]› rfl (dy rfl) (ei rfl)) bQ))) (gD rfl (bH (show 2<=2 by decide) (bH (show 2<=3 by decide) gB))) ⇑(bO) ⇑((Aw qx qx aa (sv 2) (au (sv 3) aa))))
 exact aq
noncomputable abbrev s17:ek:=top 34
noncomputable def b17:List S:=[.asg 2 (.oF 1 (.idx ↑0 ⇑1) 2 [3,4] av none (.tup [.idx ↑3 ⇑0,.idx ↑3 ⇑1,↑4,.idx ↑3 ⇑3])),.ret (.tup [.idx ↑0 ⇑0,.blt .tuple [↑2]])]
noncomputable def f17:Fd:=⟨2,3,b17⟩
theorem afS:aO ["net","rooms","ways"] ["net","rooms"] (aA s17):={}
include cl in
theorem d17(a:gn K "with_rooms" "with_rooms" s17 f fd)(bu:mg "tuple"=none)(eG:mg "zip"=none):↥(["net","rooms"],2,f17):=by
 exists a,afS,0,0;refine aQ ?_ ?_;.exact(xG (i:=2) (N':=["net","rooms","ways","way","room"]) hc nd rfl oi (qU rfl (by rfl)) (jH (i:=1) rfl (by rfl) eG rfl (au (sv 0) aa) (sv 1)) ⇑(cT hc (aC (aB (i:=3) ‹["net","rooms","ways","way","room"]› rfl (dy rfl) (ei rfl)) (aC (aB (i:=4) ‹["net","rooms","ways","way","room"]› rfl (dy rfl) (ei rfl)) bQ))) (gD rfl (bH (show 3<=3 by decide) (bH (show 3<=4 by decide) gB))) ⇑(bO) ⇑((bJ (cI (au (sv 3) aa) (cI (au (sv 3) aa) (cI (sv 4) (cI (au (sv 3) aa) aM rfl) rfl) rfl) rfl))) (by rfl) (by intro _;rfl) (dy rfl))
 rfl';.exists(),bJ (cI (au (sv 0) aa) (cI (fP rfl (by rfl) bu (sv 2)) aM rfl) rfl)
 exact aq
noncomputable abbrev s18:ek:=top 36
noncomputable def b18:List S:=[.asg 2 (.blt .sum [.comp (.idx ↑0 ⇑1) 1 [6] bj none (.idx ↑6 ⇑3)]),.RM 3 0 0,.j6 (.vD ⇑1 (.idx ↑0 ⇑0)) [4] bj [.jF 3 ↑4 ↑2],.asg 5 (.call 5 [↑0,↑1,.vw 3]),.ret (.comp (.vD ⇑0 (.idx ↑0 ⇑0)) 1 [6] bj none (.idx (.bin .Dp ↑5 ↑6) ⇑0))]
noncomputable def f18:Fd:=⟨2,6,b18⟩
theorem af7:aO ["net","stream","late","begun","place","come"] ["net","stream"] (aA s18):={}
include cl in
theorem d18(a:gn K "found_clocks" "found_clocks" s18 f fd)(bK:mg "range"=none)(lN:mg "sum"=none)(b:↥(5,"shortest_come",3,0)):↥(["net","stream"],2,f18):=by
 exists a,af7,0,0;refine aQ ?_ ?_;.exists 2,xx rfl hc (by rfl) lN (fG (N':=["net","stream","late","begun","place","come","way"]) hc (qU rfl (by rfl)) (cJ (au (sv 0) aa)) ⇑(aB (i:=6) ‹["net","stream","late","begun","place","come","way"]› rfl (dy rfl) (ei rfl)) (cW (eU)) ⇑(bO) ⇑((au (sv 6) aa)))
 rfl';.exact(Rb (i:=3) nd rfl oi (by rfl) (dy rfl))
 rfl';.exists 4,QV rfl (by rfl) bK aa (au (sv 0) aa),0;(· rfl';exact tV (i:=3) (bh hr) rfl (by ac_rfl) (sv 4) (sv 2) (by rfl);exact aq)
 rfl';.exists lW (i:=5) ?_ ?_ ?_ ?_ ?_ ?_;exact nd;exact rfl;exact ei rfl;rotate_left;rfl;exact oi;exact bW b hr (aD (sv 0) (aD (sv 1) (aD (mJ (i:=3) rfl (by ac_rfl)) ao rfl) rfl) rfl)
 rfl';.exists(),fG (N':=["net","stream","late","begun","place#4","come","place"]) hc (qU rfl (by rfl)) (iy rfl (by rfl) bK (au (sv 0) aa)) ⇑(aB (i:=6) ‹["net","stream","late","begun","place#4","come","place"]› rfl (dy rfl) (ei rfl)) (cW (eU)) ⇑(bO) ⇑((au (sH (bh hr) (sv 5) (sv 6) (λ_ _=>rfl)) aa))
 exact aq
noncomputable abbrev s19:ek:=top 37
noncomputable def b19:List S:=[.asg 2 (.bin .mul (.lst [⇑0]) (.blt .len [.idx ↑0 ⇑1])),.j6 (.call 9 [.call 8 [↑0],↑1]) [3,4] av [.asg 2 (.call 7 [↑2,↑3,↑4])],.ret (.tup [↑2,.call 18 [↑0,↑2]])]
noncomputable def f19:Fd:=⟨2,5,b19⟩
theorem Vn:aO ["net","rate","stream","steps","loads"] ["net","rate"] (aA s19):={}
include cl in
theorem d19(a:gn K "light_stream" "light_stream" s19 f fd)(aR:mg "len"=none)(b:↥(8,"chains_to_end",1,0))(e:↥(9,"cut_to_rate",2,0))(g:↥(18,"found_clocks",2,0))(h:↥(7,"stream_with",3,0)):↥(["net","rate"],2,f19):=by
 exists a,Vn,0,0;refine aQ ?_ ?_;.exists 2,az cZ (dI (cI aa aM rfl)) (cu rfl (by rfl) aR (au (sv 0) aa))
 rfl';.exact(lu eA hc (cJ (bW e hr (aD (bW b hr (aD (sv 0) ao rfl)) (aD (sv 1) ao rfl) rfl))) (cT hc (aC (aB (i:=3) nd rfl oi oi) (aC (aB (i:=4) nd rfl oi oi) bQ))) (gZ rfl (bA _ _ (bA _ _ fC 4) 3)) (by rfl';(· exists 2,bW h hr (aD (sv 2) (aD (sv 3) (aD (sv 4) ao rfl) rfl) rfl));exact aq))
 rfl';.exists(),bJ (cI (sv 2) (cI (bW g hr (aD (sv 0) (aD (sv 2) ao rfl) rfl)) aM rfl) rfl)
 exact aq
include cl in
theorem ag3(j:gn K "light_stream" "light_stream" s19 f fd)(aR:mg "len"=none)(a:↥(8,"chains_to_end",1,0))(e:↥(9,"cut_to_rate",2,0))(l:↥(18,"found_clocks",2,0))(b:↥(7,"stream_with",3,0))(m:di Pg w K mg base cl k c 9 "cut_to_rate" 2)(o:di Pg w K mg base cl k c 7 "stream_with" 3):iJ Pg w K mg base (o4 Pg w) (k+1) f fd ["net","rate"] (Bs K cl 2 (λargs=>enter c n f19 args)):=by
 refine jQ j Vn rfl rfl λcdv A outer s H E W hr g=>?_;have nd:=Vn.nd;have h:sG (jG (o4 Pg w) Pg w K mg base ["net","rate","stream","steps","loads"] "light_stream" (aA s19) f cdv A outer s H E) E:=fO;refine aK ?_ ?_ ?_;.exists 2,az cZ (dI (cI aa aM rfl)) (cu rfl (by rfl) aR (au (sv 0) aa))
 .exact(cR (by intro _;rfl))
 exists aK ?_ ?_ ?_;.exact(lu kh hc (cJ (bW e hr (aD (bW a hr (aD (sv 0) ao rfl)) (aD (sv 1) ao rfl) rfl))) (cT hc (aC (aB (i:=3) nd rfl oi oi) (aC (aB (i:=4) nd rfl oi oi) bQ))) (gZ rfl (bA _ _ (bA _ _ fC 4) 3)) (by rfl';(· exists 2,bW b hr (aD (sv 2) (aD (sv 3) (aD (sv 4) ao rfl) rfl) rfl));exact aq))
 .exact(xK kh hc (cJ (bW e hr (aD (bW a hr (aD (sv 0) ao rfl)) (aD (sv 1) ao rfl) rfl))) (cT hc (aC (aB (i:=3) nd rfl oi oi) (aC (aB (i:=4) nd rfl oi oi) bQ))) (gZ rfl (bA _ _ (bA _ _ fC 4) 3)) (by rfl';(· exists 2,bW b hr (aD (sv 2) (aD (sv 3) (aD (sv 4) ao rfl) rfl) rfl));exact aq) (aK (by exists 2,bW b hr (aD (sv 2) (aD (sv 3) (aD (sv 4) ao rfl) rfl) rfl)) (Rp (i:=2) rfl (lr h g) o hr nd rfl oi (aD (sv 2) (aD (sv 3) (aD (sv 4) ao rfl) rfl) rfl)) bF) (by intro _;rfl) (Wi (nu rfl (lr h g) m hr (aD (bW a hr (aD (sv 0) ao rfl)) (aD (sv 1) ao rfl) rfl))))
 exists aK ?_ ?_ ?_;.exists(),bJ (cI (sv 2) (cI (bW l hr (aD (sv 0) (aD (sv 2) ao rfl) rfl)) aM rfl) rfl)
 .exact cR
 exact bF
noncomputable abbrev s20:ek:=top 39
noncomputable def b20:List S:=[.ret (.comp (.call 10 [↑0]) 1 [2] bj (ap (.cmp .le (.idx ↑2 ⇑0) ↑1)) ↑2)]
noncomputable def f20:Fd:=⟨2,2,b20⟩
theorem agj:aO ["net","last"] ["net","last"] (aA s20):={}
include cl in
theorem d20(a:gn K "bends_by" "bends_by" s20 f fd)(b:↥(10,"bends_of",1,0)):↥(["net","last"],2,f20):=by
 exists a,agj,0,0;refine aQ ?_ ?_;.exists(),fG (N':=["net","last","bend"]) hc (qU rfl (by rfl)) (cJ (bW b hr (aD (sv 0) ao rfl))) ⇑(aB (i:=2) ‹["net","last","bend"]› rfl (dy rfl) (ei rfl)) (cW (eU)) ⇑(Gb (bC qx (au (sv 2) aa) (sv 1) (bf _))) ⇑((sv 2))
 exact aq
noncomputable abbrev s21:ek:=top 40
noncomputable def b21:List S:=[.ret (.blt .sum [.comp ↑0 2 [2,3] av (ap (.cmp .le ↑2 ↑1)) (.bin .mul ↑3 (.bin .add (.bin .sub ↑1 ↑2) ⇑1))])]
noncomputable def f21:Fd:=⟨2,2,b21⟩
theorem agF:aO ["bends","last"] ["bends","last"] (aA s21):={}
include cl in
theorem d21(a:gn K "most_of" "most_of" s21 f fd)(lN:mg "sum"=none):↥(["bends","last"],2,f21):=by
 exists a,agF,0,0;refine aQ ?_ ?_;.exists(),xx rfl hc (by rfl) lN (fG (N':=["bends","last","length","loads"]) hc (qU rfl (by rfl)) (cJ (sv 0)) ⇑(cT hc (aC (aB (i:=2) ‹["bends","last","length","loads"]› rfl (dy rfl) (ei rfl)) (aC (aB (i:=3) ‹["bends","last","length","loads"]› rfl (dy rfl) (ei rfl)) bQ))) (gD rfl (bH (show 2<=2 by decide) (bH (show 2<=3 by decide) gB))) ⇑(Gb (bC qx (sv 2) (sv 1) (bf _))) ⇑((az cZ (sv 3) (az aG (az dm (sv 1) (sv 2)) aa))))
 exact aq
noncomputable abbrev s22:ek:=top 41
noncomputable def b22:List S:=[.ret (.call 21 [.call 10 [↑0],↑1])]
noncomputable def f22:Fd:=⟨2,2,b22⟩
theorem ahr:aO ["net","last"] ["net","last"] (aA s22):={}
include cl in
theorem d22(a:gn K "most_by" "most_by" s22 f fd)(b:↥(10,"bends_of",1,0))(e:↥(21,"most_of",2,0)):↥(["net","last"],2,f22):=by
 exists a,ahr,0,0;refine aQ ?_ ?_;.exists(),bW e hr (aD (bW b hr (aD (sv 0) ao rfl)) (aD (sv 1) ao rfl) rfl)
 exact aq
noncomputable abbrev s23:ek:=top 42
noncomputable def b23:List S:=[.ret (.blt .sum [.comp (.call 20 [↑0,↑1]) 2 [2,3] av none ↑3])]
noncomputable def f23:Fd:=⟨2,2,b23⟩
theorem agQ:aO ["net","last"] ["net","last"] (aA s23):={}
include cl in
theorem d23(a:gn K "rate_by" "rate_by" s23 f fd)(lN:mg "sum"=none)(b:↥(20,"bends_by",2,0)):↥(["net","last"],2,f23):=by
 exists a,agQ,0,0;refine aQ ?_ ?_;.exists(),xx rfl hc (by rfl) lN (fG (N':=["net","last","length","loads"]) hc (qU rfl (by rfl)) (cJ (bW b hr (aD (sv 0) (aD (sv 1) ao rfl) rfl))) ⇑(cT hc (aC (aB (i:=2) ‹["net","last","length","loads"]› rfl (dy rfl) (ei rfl)) (aC (aB (i:=3) ‹["net","last","length","loads"]› rfl (dy rfl) (ei rfl)) bQ))) (gD rfl (bH (show 2<=2 by decide) (bH (show 2<=3 by decide) gB))) ⇑(bO) ⇑((sv 3)))
 exact aq
noncomputable abbrev s24:ek:=top 43
noncomputable def b24:List S:=[.ret (.idx (.call 19 [↑0,.call 23 [↑0,↑1]]) ⇑0)]
noncomputable def f24:Fd:=⟨2,2,b24⟩
theorem Uw:aO ["net","last"] ["net","last"] (aA s24):={}
include cl in
theorem d24(a:gn K "stream_by" "stream_by" s24 f fd)(b:↥(19,"light_stream",2,0))(e:↥(23,"rate_by",2,0)):↥(["net","last"],2,f24):=by
 exists a,Uw,0,0;refine aQ ?_ ?_;.exists(),au (bW b hr (aD (sv 0) (aD (bW e hr (aD (sv 0) (aD (sv 1) ao rfl) rfl)) ao rfl) rfl)) aa
 exact aq
include cl in
theorem afK(b:gn K "stream_by" "stream_by" s24 f fd)(e:↥(19,"light_stream",2,0))(a:↥(23,"rate_by",2,0))(g:di Pg w K mg base cl k c 19 "light_stream" 2):iJ Pg w K mg base (o4 Pg w) (k+1) f fd ["net","last"] (Bs K cl 2 (λargs=>enter c n f24 args)):=by
 refine jQ b Uw rfl rfl λcdv A outer s H E W hr h=>?_;have nd:=Uw.nd;have i:sG (jG (o4 Pg w) Pg w K mg base ["net","last"] "stream_by" (aA s24) f cdv A outer s H E) E:=fO;refine aK ?_ ?_ ?_;.exists(),au (bW e hr (aD (sv 0) (aD (bW a hr (aD (sv 0) (aD (sv 1) ao rfl) rfl)) ao rfl) rfl)) aa
 .exact(yt (VN (nu rfl (lr i h) g hr (aD (sv 0) (aD (bW a hr (aD (sv 0) (aD (sv 1) ao rfl) rfl)) ao rfl) rfl))))
 exact bF
noncomputable abbrev s25:ek:=top 46
noncomputable def b25:List S:=[.ifs (.cmp .gt (.blt .len [.idx ↑0 ⇑1]) (.glob "MOST_LANED" (.int 6))) [.vX 2] []]
noncomputable def Xm:Fd:=⟨1,1,b25⟩
theorem Vy:aO ["net"] ["net"] (aA s25):={}
include cl in
theorem d25(a:gn K "few_enough" "few_enough" s25 f fd)(aR:mg "len"=none)(dW:∃t,mg "MOST_LANED"=ap (er 6 t)):↥(["net"],1,Xm):=by
 exists a,Vy,0,0;refine aQ ?_ ?_;.exists dF ?_ ?_ ?_;exact bC jR (cu rfl (by rfl) aR (au (sv 0) aa)) (iG (by rfl) dW.choose_spec (by rfl)) (bf _);(· rfl';exact iz;exact aq);exact aq
 exact aq
include cl in
theorem agA(a:gn K "few_enough" "few_enough" s25 f fd)(aR:mg "len"=none)(dW:∃t,mg "MOST_LANED"=ap (er 6 t))(nP:kT "TooMany" (cl 2) [.type "ValueError",.type "Exception",.type "BaseException",.type "object"] "ValueError.__new__" mg base):iJ Pg w K mg base (o4 Pg w) (k+1) f fd ["net"] (Bs K cl 1 (λargs=>enter c n Xm args)):=by
 refine jQ a Vy rfl rfl λcdv A outer s H E W hr b=>?_;have nd:=Vy.nd;have e:sG (jG (o4 Pg w) Pg w K mg base ["net"] "few_enough" (aA s25) f cdv A outer s H E) E:=fO;refine aK ?_ ?_ ?_;.exists dF ?_ ?_ ?_;exact bC jR (cu rfl (by rfl) aR (au (sv 0) aa)) (iG (by rfl) dW.choose_spec (by rfl)) (bf _);(· rfl';exact iz;exact aq);exact aq
 .exact(oV (bC jR (cu rfl (by rfl) aR (au (sv 0) aa)) (iG (by rfl) dW.choose_spec (by rfl)) (bf _)) (aK iz (uT hc rfl (by rfl) nP excBase_ValueError e (λH z=>b 2 H z)) bF) bF)
 exact bF
noncomputable abbrev s26:ek:=top 47
noncomputable def b26:List S:=[.asg 3 (.oF 2 (.idx ↑0 ⇑1) 2 [4,5] av none (.tup [.idx ↑4 ⇑1,.idx ↑4 ⇑0,↑5,.idx ↑4 ⇑3])),.ret (.tup [.idx ↑0 ⇑0,.bin .add (.idx (.call 17 [↑0,↑1]) ⇑1) (.blt .tuple [↑3])])]
noncomputable def f26:Fd:=⟨3,4,b26⟩
theorem VJ:aO ["net","forth","back","turned"] ["net","forth","back"] (aA s26):={}
include cl in
theorem d26(a:gn K "lanes_net" "lanes_net" s26 f fd)(bu:mg "tuple"=none)(eG:mg "zip"=none)(b:↥(17,"with_rooms",2,0)):↥(["net","forth","back"],3,f26):=by
 exists a,VJ,0,0;refine aQ ?_ ?_;.exact(xG (i:=3) (N':=["net","forth","back","turned","way","room"]) hc nd rfl oi (qU rfl (by rfl)) (jH (i:=2) rfl (by rfl) eG rfl (au (sv 0) aa) (sv 2)) ⇑(cT hc (aC (aB (i:=4) ‹["net","forth","back","turned","way","room"]› rfl (dy rfl) (ei rfl)) (aC (aB (i:=5) ‹["net","forth","back","turned","way","room"]› rfl (dy rfl) (ei rfl)) bQ))) (gD rfl (bH (show 4<=4 by decide) (bH (show 4<=5 by decide) gB))) ⇑(bO) ⇑((bJ (cI (au (sv 4) aa) (cI (au (sv 4) aa) (cI (sv 5) (cI (au (sv 4) aa) aM rfl) rfl) rfl) rfl))) (by rfl) (by intro _;rfl) (dy rfl))
 rfl';.exists(),bJ (cI (au (sv 0) aa) (cI (az aG (au (bW b hr (aD (sv 0) (aD (sv 1) ao rfl) rfl)) aa) (fP rfl (by rfl) bu (sv 3))) aM rfl) rfl)
 exact aq
include cl in
theorem ahb(a:gn K "lanes_net" "lanes_net" s26 f fd)(bu:mg "tuple"=none)(eG:mg "zip"=none)(b:↥(17,"with_rooms",2,0)):iJ Pg w K mg base (o4 Pg w) (k+1) f fd ["net","forth","back"] (Bs K cl 3 (λargs=>enter c n f26 args)):=by
 refine jQ a VJ rfl rfl λcdv A outer s H E W hr e=>?_;have nd:=VJ.nd;have g:sG (jG (o4 Pg w) Pg w K mg base ["net","forth","back","turned"] "lanes_net" (aA s26) f cdv A outer s H E) E:=fO;refine aK ?_ ?_ ?_;.exact(xG (i:=3) (N':=["net","forth","back","turned","way","room"]) hc nd rfl oi (qU rfl (by rfl)) (jH (i:=2) rfl (by rfl) eG rfl (au (sv 0) aa) (sv 2)) ⇑(cT hc (aC (aB (i:=4) ‹["net","forth","back","turned","way","room"]› rfl (dy rfl) (ei rfl)) (aC (aB (i:=5) ‹["net","forth","back","turned","way","room"]› rfl (dy rfl) (ei rfl)) bQ))) (gD rfl (bH (show 4<=4 by decide) (bH (show 4<=5 by decide) gB))) ⇑(bO) ⇑((bJ (cI (au (sv 4) aa) (cI (au (sv 4) aa) (cI (sv 5) (cI (au (sv 4) aa) aM rfl) rfl) rfl) rfl))) (by rfl) (by intro _;rfl) (dy rfl))
 .exact(cR (by intro _;rfl))
 exists aK ?_ ?_ ?_;.exists(),bJ (cI (au (sv 0) aa) (cI (az aG (au (bW b hr (aD (sv 0) (aD (sv 1) ao rfl) rfl)) aa) (fP rfl (by rfl) bu (sv 3))) aM rfl) rfl)
 .exact cR
 exact bF
noncomputable abbrev s27:ek:=top 48
noncomputable def b27:List S:=[.expr (.call 25 [↑0]),.asg 1 (.comp (.idx ↑0 ⇑1) 1 [2] bj none (.idx ↑2 ⇑2)),.ret (.call 26 [↑0,.vw 1,.vw 1])]
noncomputable def Vi:Fd:=⟨1,2,b27⟩
theorem W6:aO ["net","rooms"] ["net"] (aA s27):={}
include cl in
theorem d27(a:gn K "open_net" "open_net" s27 f fd)(b:↥(25,"few_enough",1,0))(e:↥(26,"lanes_net",3,0)):↥(["net"],1,Vi):=by
 exists a,W6,0,0;refine aQ ?_ ?_;.exact(dH (bW b hr (aD (sv 0) ao rfl)))
 rfl';.exact(tD (i:=1) (N':=["net","rooms","way"]) hc nd rfl oi (qU rfl (by rfl)) (cJ (au (sv 0) aa)) ⇑(aB (i:=2) ‹["net","rooms","way"]› rfl (dy rfl) (ei rfl)) (cW (eU)) ⇑(bO) ⇑((au (sv 2) aa)) (by rfl) (by intro _;rfl) (dy rfl))
 rfl';.exists(),bW e hr (aD (sv 0) (aD (mJ (i:=1) rfl (by ac_rfl)) (aD (mJ (i:=1) rfl (by ac_rfl)) ao rfl) rfl) rfl)
 exact aq
include cl in
theorem ahC(e:gn K "open_net" "open_net" s27 f fd)(g:↥(25,"few_enough",1,0))(h:↥(26,"lanes_net",3,0))(j:di Pg w K mg base cl k c 25 "few_enough" 1)(l:di Pg w K mg base cl k c 26 "lanes_net" 3):iJ Pg w K mg base (o4 Pg w) (k+1) f fd ["net"] (Bs K cl 1 (λargs=>enter c n Vi args)):=by
 refine jQ e W6 rfl rfl λcdv A outer s H E W hr a=>?_;have nd:=W6.nd;have b:sG (jG (o4 Pg w) Pg w K mg base ["net","rooms"] "open_net" (aA s27) f cdv A outer s H E) E:=fO;refine aK ?_ ?_ ?_;.exact(dH (bW g hr (aD (sv 0) ao rfl)))
 .exact(kO rfl (lr b a) j hr (aD (sv 0) ao rfl))
 exists aK ?_ ?_ ?_;.exact(tD (i:=1) (N':=["net","rooms","way"]) hc nd rfl oi (qU rfl (by rfl)) (cJ (au (sv 0) aa)) ⇑(aB (i:=2) ‹["net","rooms","way"]› rfl (dy rfl) (ei rfl)) (cW (eU)) ⇑(bO) ⇑((au (sv 2) aa)) (by rfl) (by intro _;rfl) (dy rfl))
 .exact(cR (by intro _;rfl))
 exists aK ?_ ?_ ?_;.exists(),bW h hr (aD (sv 0) (aD (mJ (i:=1) rfl (by ac_rfl)) (aD (mJ (i:=1) rfl (by ac_rfl)) ao rfl) rfl) rfl)
 .exact(yt (nu rfl (lr b a) l hr (aD (sv 0) (aD (mJ (i:=1) rfl (by ac_rfl)) (aD (mJ (i:=1) rfl (by ac_rfl)) ao rfl) rfl) rfl)))
 exact bF
noncomputable abbrev s28:ek:=top 49
noncomputable def b28:List S:=[.ret (.and (.cmp .eq (.blt .len [↑1]) (.blt .len [.idx ↑0 ⇑1])) (.call 16 [↑0,↑1]))]
noncomputable def U4:Fd:=⟨2,2,b28⟩
theorem ahA:aO ["net","forth"] ["net","forth"] (aA s28):={}
include cl in
theorem d28(a:gn K "is_forth" "is_forth" s28 f fd)(aR:mg "len"=none)(b:↥(16,"within_rooms",2,0)):↥(["net","forth"],2,U4):=by
 exists a,ahA,0,0;refine aQ ?_ ?_;.exists(),jj (qJ (dz (bh hr)) (cu rfl (by rfl) aR (sv 1)) (cu rfl (by rfl) aR (au (sv 0) aa)) (bf _)) (m8 (bW b hr (aD (sv 0) (aD (sv 1) ao rfl) rfl)))
 exact aq
noncomputable abbrev s29:ek:=top 50
noncomputable def b29:List S:=[.expr (.call 25 [↑0]),.ifs (.not (.call 28 [↑0,↑1])) [.vX 4] [],.ret (.call 26 [↑0,↑1,.oF 1 (.idx ↑0 ⇑1) 2 [2,3] av none (.bin .sub (.idx ↑2 ⇑2) ↑3)])]
noncomputable def QQ:Fd:=⟨2,2,b29⟩
theorem Vm:aO ["net","forth"] ["net","forth"] (aA s29):={}
include cl in
theorem d29(a:gn K "laned_net" "laned_net" s29 f fd)(eG:mg "zip"=none)(b:↥(25,"few_enough",1,0))(e:↥(28,"is_forth",2,0))(g:↥(26,"lanes_net",3,0)):↥(["net","forth"],2,QQ):=by
 exists a,Vm,0,0;refine aQ ?_ ?_;.exact(dH (bW b hr (aD (sv 0) ao rfl)))
 rfl';.exists dF ?_ ?_ ?_;exact qN (gA (bW e hr (aD (sv 0) (aD (sv 1) ao rfl) rfl)));(· rfl';exact iz;exact aq);exact aq
 rfl';.exists(),bW g hr (aD (sv 0) (aD (sv 1) (aD (lY (N':=["net","forth","way","room"]) hc (qU rfl (by rfl)) (jH (i:=1) rfl (by rfl) eG rfl (au (sv 0) aa) (sv 1)) ⇑(cT hc (aC (aB (i:=2) ‹["net","forth","way","room"]› rfl (dy rfl) (ei rfl)) (aC (aB (i:=3) ‹["net","forth","way","room"]› rfl (dy rfl) (ei rfl)) bQ))) (gD rfl (bH (show 2<=2 by decide) (bH (show 2<=3 by decide) gB))) ⇑(bO) ⇑((az dm (au (sv 2) aa) (sv 3)))) ao rfl) rfl) rfl)
 exact aq
include cl in
theorem afJ(g:gn K "laned_net" "laned_net" s29 f fd)(eG:mg "zip"=none)(h:↥(25,"few_enough",1,0))(e:↥(28,"is_forth",2,0))(j:↥(26,"lanes_net",3,0))(ig:kT "TooMuch" (cl 4) [.type "ValueError",.type "Exception",.type "BaseException",.type "object"] "ValueError.__new__" mg base)(l:di Pg w K mg base cl k c 25 "few_enough" 1)(m:di Pg w K mg base cl k c 26 "lanes_net" 3):iJ Pg w K mg base (o4 Pg w) (k+1) f fd ["net","forth"] (Bs K cl 2 (λargs=>enter c n QQ args)):=by
 refine jQ g Vm rfl rfl λcdv A outer s H E W hr a=>?_;have nd:=Vm.nd;have b:sG (jG (o4 Pg w) Pg w K mg base ["net","forth"] "laned_net" (aA s29) f cdv A outer s H E) E:=fO;refine aK ?_ ?_ ?_;.exact(dH (bW h hr (aD (sv 0) ao rfl)))
 .exact(kO rfl (lr b a) l hr (aD (sv 0) ao rfl))
 exists aK ?_ ?_ ?_;.exists dF ?_ ?_ ?_;exact qN (gA (bW e hr (aD (sv 0) (aD (sv 1) ao rfl) rfl)));(· rfl';exact iz;exact aq);exact aq
 .exact(oV (qN (gA (bW e hr (aD (sv 0) (aD (sv 1) ao rfl) rfl)))) (aK iz (uT hc rfl (by rfl) ig excBase_ValueError b (λH z=>a 4 H z)) bF) bF)
 exists aK ?_ ?_ ?_;.exists(),bW j hr (aD (sv 0) (aD (sv 1) (aD (lY (N':=["net","forth","way","room"]) hc (qU rfl (by rfl)) (jH (i:=1) rfl (by rfl) eG rfl (au (sv 0) aa) (sv 1)) ⇑(cT hc (aC (aB (i:=2) ‹["net","forth","way","room"]› rfl (dy rfl) (ei rfl)) (aC (aB (i:=3) ‹["net","forth","way","room"]› rfl (dy rfl) (ei rfl)) bQ))) (gD rfl (bH (show 2<=2 by decide) (bH (show 2<=3 by decide) gB))) ⇑(bO) ⇑((az dm (au (sv 2) aa) (sv 3)))) ao rfl) rfl) rfl)
 .exact(yt (nu rfl (lr b a) m hr (aD (sv 0) (aD (sv 1) (aD (lY (N':=["net","forth","way","room"]) hc (qU rfl (by rfl)) (jH (i:=1) rfl (by rfl) eG rfl (au (sv 0) aa) (sv 1)) ⇑(cT hc (aC (aB (i:=2) ‹["net","forth","way","room"]› rfl (dy rfl) (ei rfl)) (aC (aB (i:=3) ‹["net","forth","way","room"]› rfl (dy rfl) (ei rfl)) bQ))) (gD rfl (bH (show 2<=2 by decide) (bH (show 2<=3 by decide) gB))) ⇑(bO) ⇑((az dm (au (sv 2) aa) (sv 3)))) ao rfl) rfl) rfl)))
 exact bF
noncomputable abbrev s30:ek:=top 51
noncomputable def b30:List S:=[.Bc 2 (.slice (.call 24 [.call 27 [↑0],↑1]) (.blt .len [.idx ↑0 ⇑1]) (.con .non)) (.call 27 [↑0]),.ret (.blt .tuple [.oF 2 (.idx ↑0 ⇑1) 2 [3,4] av none (.bin .sub (.idx ↑3 ⇑2) ↑4)])]
noncomputable def f30:Fd:=⟨2,3,b30⟩
theorem Vd:aO ["net","last","back"] ["net","last"] (aA s30):={}
include cl in
theorem d30(a:gn K "best_forth" "best_forth" s30 f fd)(aR:mg "len"=none)(bu:mg "tuple"=none)(eG:mg "zip"=none)(b:↥(27,"open_net",1,0))(e:↥(24,"stream_by",2,0)):↥(["net","last"],2,f30):=by
 exists a,Vd,0,0;refine aQ ?_ ?_;.exists tL (i:=2) ?_ ?_ ?_ ?_ ?_ ?_;exact nd;exact rfl;exact oi;rotate_left;rfl;exact oi;exact fM (bW e hr (aD (bW b hr (aD (sv 0) ao rfl)) (aD (sv 1) ao rfl) rfl)) (gH (cu rfl (by rfl) aR (au (sv 0) aa))) gw
 rfl';.exists(),fP rfl (by rfl) bu (lY (N':=["net","last","back","way","loads"]) hc (qU rfl (by rfl)) (jH (i:=2) rfl (by rfl) eG rfl (au (sv 0) aa) (sv 2)) ⇑(cT hc (aC (aB (i:=3) ‹["net","last","back","way","loads"]› rfl (dy rfl) (ei rfl)) (aC (aB (i:=4) ‹["net","last","back","way","loads"]› rfl (dy rfl) (ei rfl)) bQ))) (gD rfl (bH (show 3<=3 by decide) (bH (show 3<=4 by decide) gB))) ⇑(bO) ⇑((az dm (au (sv 3) aa) (sv 4))))
 exact aq
include cl in
theorem agK(b:gn K "best_forth" "best_forth" s30 f fd)(aR:mg "len"=none)(bu:mg "tuple"=none)(eG:mg "zip"=none)(e:↥(27,"open_net",1,0))(a:↥(24,"stream_by",2,0))(g:di Pg w K mg base cl k c 27 "open_net" 1):iJ Pg w K mg base (o4 Pg w) (k+1) f fd ["net","last"] (Bs K cl 2 (λargs=>enter c n f30 args)):=by
 refine jQ b Vd rfl rfl λcdv A outer s H E W hr h=>?_;have nd:=Vd.nd;have j:sG (jG (o4 Pg w) Pg w K mg base ["net","last","back"] "best_forth" (aA s30) f cdv A outer s H E) E:=fO;refine aK ?_ ?_ ?_;.exists tL (i:=2) ?_ ?_ ?_ ?_ ?_ ?_;exact nd;exact rfl;exact oi;rotate_left;rfl;exact oi;exact fM (bW a hr (aD (bW e hr (aD (sv 0) ao rfl)) (aD (sv 1) ao rfl) rfl)) (gH (cu rfl (by rfl) aR (au (sv 0) aa))) gw
 .exact(zr (i:=2) nd rfl oi (Jd (Lr a hr (nu rfl (lr j h) g hr (aD (sv 0) ao rfl)) (aD (sv 1) ao rfl)) (gH (cu rfl (by rfl) aR (au (sv 0) aa))) gw) (by rfl) (dy rfl))
 exists aK ?_ ?_ ?_;.exists(),fP rfl (by rfl) bu (lY (N':=["net","last","back","way","loads"]) hc (qU rfl (by rfl)) (jH (i:=2) rfl (by rfl) eG rfl (au (sv 0) aa) (sv 2)) ⇑(cT hc (aC (aB (i:=3) ‹["net","last","back","way","loads"]› rfl (dy rfl) (ei rfl)) (aC (aB (i:=4) ‹["net","last","back","way","loads"]› rfl (dy rfl) (ei rfl)) bQ))) (gD rfl (bH (show 3<=3 by decide) (bH (show 3<=4 by decide) gB))) ⇑(bO) ⇑((az dm (au (sv 3) aa) (sv 4))))
 .exact cR
 exact bF
noncomputable abbrev s31:ek:=top 52
noncomputable def b31:List S:=[.Bc 3 (.call 22 [.call 27 [↑0],↑1]) (.call 27 [↑0]),.ret (.and (.call 28 [↑0,↑2]) (.cmp .eq (.call 22 [.call 29 [↑0,↑2],↑1]) ↑3))]
noncomputable def Wr:Fd:=⟨3,4,b31⟩
theorem Uo:aO ["net","last","forth","most"] ["net","last","forth"] (aA s31):={}
include cl in
theorem d31(b:gn K "forth_right" "forth_right" s31 f fd)(e:↥(28,"is_forth",2,0))(g:↥(29,"laned_net",2,0))(a:↥(22,"most_by",2,0))(h:↥(27,"open_net",1,0)):↥(["net","last","forth"],3,Wr):=by
 exists b,Uo,0,0;refine aQ ?_ ?_;.exists tL (i:=3) ?_ ?_ ?_ ?_ ?_ ?_;exact nd;exact rfl;exact oi;rotate_left;rfl;exact oi;exact bW a hr (aD (bW h hr (aD (sv 0) ao rfl)) (aD (sv 1) ao rfl) rfl)
 rfl';.exists(),jj (bW e hr (aD (sv 0) (aD (sv 2) ao rfl) rfl)) (m8 (qJ (dz (bh hr)) (bW a hr (aD (bW g hr (aD (sv 0) (aD (sv 2) ao rfl) rfl)) (aD (sv 1) ao rfl) rfl)) (sv 3) (bf _)))
 exact aq
include cl in
theorem afh(b:gn K "forth_right" "forth_right" s31 f fd)(e:↥(28,"is_forth",2,0))(g:↥(29,"laned_net",2,0))(a:↥(22,"most_by",2,0))(h:↥(27,"open_net",1,0))(j:di Pg w K mg base cl k c 27 "open_net" 1):iJ Pg w K mg base (o4 Pg w) (k+1) f fd ["net","last","forth"] (Bs K cl 3 (λargs=>enter c n Wr args)):=by
 refine jQ b Uo rfl rfl λcdv A outer s H E W hr l=>?_;have nd:=Uo.nd;have m:sG (jG (o4 Pg w) Pg w K mg base ["net","last","forth","most"] "forth_right" (aA s31) f cdv A outer s H E) E:=fO;refine aK ?_ ?_ ?_;.exists tL (i:=3) ?_ ?_ ?_ ?_ ?_ ?_;exact nd;exact rfl;exact oi;rotate_left;rfl;exact oi;exact bW a hr (aD (bW h hr (aD (sv 0) ao rfl)) (aD (sv 1) ao rfl) rfl)
 .exact(zr (i:=3) nd rfl oi (Lr a hr (nu rfl (lr m l) j hr (aD (sv 0) ao rfl)) (aD (sv 1) ao rfl)) (by rfl) (dy rfl))
 exists aK ?_ ?_ ?_;.exists(),jj (bW e hr (aD (sv 0) (aD (sv 2) ao rfl) rfl)) (m8 (qJ (dz (bh hr)) (bW a hr (aD (bW g hr (aD (sv 0) (aD (sv 2) ao rfl) rfl)) (aD (sv 1) ao rfl) rfl)) (sv 3) (bf _)))
 .exact cR
 exact bF
noncomputable abbrev s32:ek:=top 54
noncomputable def b32:List S:=[.asg 2 (.slice ↑0 (.con .non) ⇑63),.ifs (.cmp .eq ↑2 (.lst [])) [.asg 2 (.lst [⇑0])] [],.asg 3 (.comp ↑2 1 [9] bj none (.blt .abs [↑9])),.asg 4 (.lst []),.j6 (.vD ⇑0 ↑1) [5] bj [.asg 6 (.bin .mod ↑5 (.blt .len [↑2])),.ifs (.and (.cmp .ge (.blt .abs [.idx ↑2 ↑6]) (.bin .pow ⇑10 ⇑18)) (.cmp .gt (.idx ↑3 ↑6) ⇑0)) [.app 4 (.bin .mod (.idx ↑3 ↑6) (.bin .pow ⇑10 ⇑6)),.RK 3 ↑6 (.bin .fdiv (.idx ↑3 ↑6) (.bin .pow ⇑10 ⇑6))] [.asg 7 (.bin .add (.bin .add (.bin .mul (.bin .mul ⇑977 ↑5) ↑5) (.bin .mul ⇑131 ↑5)) ⇑1),.asg 8 (.bin .mod (.bin .add (.bin .mul (.bin .mod (.idx ↑2 ↑6) ⇑1000000007) ⇑48271) ↑7) ⇑2147483647),.asg 8 (.bin .mod (.bin .mul ↑8 ↑8) ⇑2147483647),.app 4 (.bin .mod (.bin .fdiv (.bin .mod (.bin .mul (.bin .add ↑8 (.bin .mul ⇑40692 (.bin .add ↑5 ⇑3))) ⇑69621) ⇑2147483629) ⇑8) (.bin .pow ⇑10 ⇑6))]],.ret ↑4]
noncomputable def f32:Fd:=⟨2,9,b32⟩
theorem af1:aO ["script","many","cells","left","found","k","at","step","mixed"] ["script","many"] (aA s32):={}
include cl in
theorem d32(a:gn K "_law_all" "_law_all" s32 f fd)(GF:mg "abs"=none)(aR:mg "len"=none)(bK:mg "range"=none):↥(["script","many"],2,f32):=by
 exists a,af1,0,0;refine aQ ?_ ?_;.exists 2,fM (sv 0) gw (gH aa)
 rfl';.exists dF ?_ ?_ ?_;exact bC (dz (bh hr)) (sv 2) (dI aM) (bf _);(· rfl';(· exists 2,dI (cI aa aM rfl));exact aq);exact aq
 rfl';.exact(tD (i:=3) (N':=["script","many","cells","left","found","k","at","step","mixed","cell"]) hc nd rfl oi (qU rfl (by rfl)) (cJ (sv 2)) ⇑(aB (i:=9) ‹["script","many","cells","left","found","k","at","step","mixed","cell"]› rfl (dy rfl) (ei rfl)) (cW (eU)) ⇑(bO) ⇑((Ml rfl (by rfl) GF (sv 9))) (by rfl) (by intro _;rfl) (dy rfl))
 rfl';.exists 4,dI aM
 rfl';.exists 5,iy rfl (by rfl) bK (sv 1),0;(· rfl';(· exists 6,az dU (sv 5) (cu rfl (by rfl) aR (sv 2)));(· rfl';(· exists dF ?_ ?_ ?_;exact SW.st (Wg (bC W0 (Ml rfl (by rfl) GF (au (sv 2) (sv 6))) (az iB aa aa) (bf _)) (QZ (bC jR (au (sv 3) (sv 6)) aa (bf _))));(· rfl';exact bZ (k:=4) rfl (by ac_rfl) (az dU (au (sv 3) (sv 6)) (az iB aa aa));(· rfl';exact Qa (k:=3) rfl (by ac_rfl) (sv 6) (az zA (au (sv 3) (sv 6)) (az iB aa aa));exact aq));(· rfl';(· exists 7,az aG (az aG (az cZ (az cZ aa (sv 5)) (sv 5)) (az cZ aa (sv 5))) aa);(· rfl';(· exists 8,az dU (az aG (az cZ (az dU (au (sv 2) (sv 6)) aa) aa) (sv 7)) aa);(· rfl';(· exists 8,az dU (az cZ (sv 8) (sv 8)) aa);(· rfl';exact bZ (k:=4) rfl (by ac_rfl) (az dU (az zA (az dU (az cZ (az aG (sv 8) (az cZ aa (az aG (sv 5) aa))) aa) aa) aa) (az iB aa aa));exact aq)))));exact aq))
 rfl';.exists(),sv 4
 exact aq
noncomputable abbrev s33:ek:=top 55
noncomputable def b33:List S:=[.ret (.bin .mod (.idx ↑0 (.bin .mod ↑1 (.blt .len [↑0]))) ↑2)]
noncomputable def f33:Fd:=⟨3,3,b33⟩
theorem afa:aO ["draws","at","many"] ["draws","at","many"] (aA s33):={}
include cl in
theorem d33(a:gn K "_law_draw" "_law_draw" s33 f fd)(aR:mg "len"=none):↥(["draws","at","many"],3,f33):=by
 exists a,afa,0,0;refine aQ ?_ ?_;.exists(),az dU (au (sv 0) (az dU (sv 1) (cu rfl (by rfl) aR (sv 0)))) (sv 2)
 exact aq
noncomputable abbrev s34:ek:=top 56
noncomputable def b34:List S:=[.asg 3 (.bin .mul (.idx ↑0 (.bin .mod ↑1 (.blt .len [↑0]))) (.bin .pow ⇑10 ⇑6)),.ret (.bin .mod (.bin .add ↑3 (.idx ↑0 (.bin .mod (.bin .add ↑1 ⇑1) (.blt .len [↑0])))) ↑2)]
noncomputable def f34:Fd:=⟨3,4,b34⟩
theorem aeZ:aO ["draws","at","many","far"] ["draws","at","many"] (aA s34):={}
include cl in
theorem d34(a:gn K "_law_wide" "_law_wide" s34 f fd)(aR:mg "len"=none):↥(["draws","at","many"],3,f34):=by
 exists a,aeZ,0,0;refine aQ ?_ ?_;.exists 3,az cZ (au (sv 0) (az dU (sv 1) (cu rfl (by rfl) aR (sv 0)))) (az iB aa aa)
 rfl';.exists(),az dU (az aG (sv 3) (au (sv 0) (az dU (az aG (sv 1) aa) (cu rfl (by rfl) aR (sv 0))))) (sv 2)
 exact aq
noncomputable abbrev s35:ek:=top 57
noncomputable def b35:List S:=[.asg 4 (.bin .add ⇑2 (.call 33 [↑0,↑1,.bin .sub ↑2 ⇑1])),.asg 5 (.cmp .eq (.call 33 [↑0,.bin .add ↑1 ⇑1,⇑4]) ⇑0),.asg 6 (.lst []),.j6 (.vD ⇑0 (.call 33 [↑0,.bin .add ↑1 ⇑2,.bin .add ↑3 ⇑1])) [7] bj [.asg 8 (.bin .add (.bin .add ↑1 ⇑10) (.bin .mul ⇑10 ↑7)),.asg 9 (.call 33 [↑0,↑8,↑4]),.asg 10 (.bin .mod (.bin .add (.bin .add ↑9 ⇑1) (.call 33 [↑0,.bin .add ↑8 ⇑1,.bin .sub ↑4 ⇑1])) ↑4),.ifs (.cmp .eq (.call 33 [↑0,.bin .add ↑8 ⇑2,⇑2]) ⇑0) [.par 9 10 (.blt .min2 [↑9,↑10]) (.blt .max2 [↑9,↑10])] [],.asg 11 (.idx (.lst [⇑0,⇑1,⇑2,⇑3,⇑4,⇑1,⇑2,⇑7]) (.call 33 [↑0,.bin .add ↑8 ⇑3,⇑8])),.asg 12 (.bin .add ⇑1 (.call 33 [↑0,.bin .add ↑8 ⇑4,⇑4])),.ifs ↑5 [.asg 11 (.idx (.lst [↑11,.bin .sub (.bin .pow ⇑10 ⇑9) ↑11,.call 34 [↑0,.bin .add ↑8 ⇑5,.bin .add (.bin .pow ⇑10 ⇑9) ⇑1]]) (.call 33 [↑0,.bin .add ↑8 ⇑7,⇑3])),.asg 12 (.idx (.lst [↑12,.bin .sub (.bin .pow ⇑10 ⇑6) ↑12,.bin .add ⇑1 (.call 33 [↑0,.bin .add ↑8 ⇑8,.bin .pow ⇑10 ⇑6])]) (.call 33 [↑0,.bin .add ↑8 ⇑9,⇑3]))] [],.app 6 (.tup [↑9,↑10,↑11,↑12])],.ret (.call 15 [↑4,↑6])]
noncomputable def f35:Fd:=⟨4,13,b35⟩
theorem afi:aO ["draws","at","places","most","many","wide","ways","k","spot","one","other","room","hours"] ["draws","at","places","most"] (aA s35):={}
include cl in
theorem d35(b:gn K "_law_net" "_law_net" s35 f fd)(N5:mg "max"=none)(jN:mg "min"=none)(bK:mg "range"=none)(a:↥(33,"_law_draw",3,0))(e:↥(34,"_law_wide",3,0))(g:↥(15,"made_net",2,0)):↥(["draws","at","places","most"],4,f35):=by
 exists b,afi,0,0;refine aQ ?_ ?_;.exists 4,az aG aa (bW a hr (aD (sv 0) (aD (sv 1) (aD (az dm (sv 2) aa) ao rfl) rfl) rfl))
 rfl';.exists 5,qJ (dz (bh hr)) (bW a hr (aD (sv 0) (aD (az aG (sv 1) aa) (aD aa ao rfl) rfl) rfl)) aa (bf _)
 rfl';.exists 6,dI aM
 rfl';.exists 7,iy rfl (by rfl) bK (bW a hr (aD (sv 0) (aD (az aG (sv 1) aa) (aD (az aG (sv 3) aa) ao rfl) rfl) rfl)),0;(· rfl';(· exists 8,az aG (az aG (sv 1) aa) (az cZ aa (sv 7)));(· rfl';(· exists 9,bW a hr (aD (sv 0) (aD (sv 8) (aD (sv 4) ao rfl) rfl) rfl));(· rfl';(· exists 10,az dU (az aG (az aG (sv 9) aa) (bW a hr (aD (sv 0) (aD (az aG (sv 8) aa) (aD (az dm (sv 4) aa) ao rfl) rfl) rfl))) (sv 4));(· rfl';(· exists dF ?_ ?_ ?_;exact bC (dz (bh hr)) (bW a hr (aD (sv 0) (aD (az aG (sv 8) aa) (aD aa ao rfl) rfl) rfl)) aa (bf _);(· rfl';exact Uk (i:=9) (j:=10) hc nd rfl rfl (by decide) rfl rfl (pI rfl hc (by rfl) jN (cI (sv 9) (cI (sv 10) aM rfl) rfl)) (QB rfl hc (by rfl) N5 (cI (sv 9) (cI (sv 10) aM rfl) rfl));exact aq);exact aq);(· rfl';(· exists 11,au (dI (Ed [0,1,2,3,4,1,2,7] rfl aM)) (bW a hr (aD (sv 0) (aD (az aG (sv 8) aa) (aD aa ao rfl) rfl) rfl)));(· rfl';(· exists 12,az aG aa (bW a hr (aD (sv 0) (aD (az aG (sv 8) aa) (aD aa ao rfl) rfl) rfl)));(· rfl';(· exists dF ?_ ?_ ?_;exact gA (sv 5);(· rfl';(· exists 11,au (dI (cI (sv 11) (cI (az dm (az iB aa aa) (sv 11)) (cI (bW e hr (aD (sv 0) (aD (az aG (sv 8) aa) (aD (az aG (az iB aa aa) aa) ao rfl) rfl) rfl)) aM rfl) rfl) rfl)) (bW a hr (aD (sv 0) (aD (az aG (sv 8) aa) (aD aa ao rfl) rfl) rfl)));(· rfl';(· exists 12,au (dI (cI (sv 12) (cI (az dm (az iB aa aa) (sv 12)) (cI (az aG aa (bW a hr (aD (sv 0) (aD (az aG (sv 8) aa) (aD (az iB aa aa) ao rfl) rfl) rfl))) aM rfl) rfl) rfl)) (bW a hr (aD (sv 0) (aD (az aG (sv 8) aa) (aD aa ao rfl) rfl) rfl)));exact aq));exact aq);(· rfl';exact bZ (k:=6) rfl (by ac_rfl) (bJ (cI (sv 9) (cI (sv 10) (cI (sv 11) (cI (sv 12) aM rfl) rfl) rfl) rfl));exact aq))))))))
 rfl';.exists(),bW g hr (aD (sv 4) (aD (sv 6) ao rfl) rfl)
 exact aq
noncomputable abbrev s36:ek:=top 58
noncomputable def b36:List S:=[.asg 3 (.lst []),.j6 (.vD ⇑0 (.blt .len [.idx ↑0 ⇑1])) [4] bj [.unp [5,6,7,8] (.idx (.idx ↑0 ⇑1) ↑4),.app 3 (.tup [↑5,↑6,.idx ↑1 ↑4,↑8])],.j6 (.vD ⇑0 (.blt .len [.idx ↑0 ⇑1])) [4] bj [.unp [5,6,7,8] (.idx (.idx ↑0 ⇑1) ↑4),.app 3 (.tup [↑6,↑5,.idx ↑2 ↑4,↑8])],.ret (.tup [.idx ↑0 ⇑0,.blt .tuple [↑3]])]
noncomputable def f36:Fd:=⟨3,9,b36⟩
theorem afL:aO ["net","forth","back","ways","k","one","other","room","hours"] ["net","forth","back"] (aA s36):={}
include cl in
theorem d36(a:gn K "_law_due" "_law_due" s36 f fd)(aR:mg "len"=none)(bK:mg "range"=none)(bu:mg "tuple"=none):↥(["net","forth","back"],3,f36):=by
 exists a,afL,0,0;refine aQ ?_ ?_;.exists 3,dI aM
 rfl';.exists 4,iy rfl (by rfl) bK (cu rfl (by rfl) aR (au (sv 0) aa)),0;(· rfl';exact Ja (au (au (sv 0) aa) (sv 4)) (cT hc (aC (aB (i:=5) nd rfl oi oi) (aC (aB (i:=6) nd rfl oi oi) (aC (aB (i:=7) nd rfl oi oi) (aC (aB (i:=8) nd rfl oi oi) bQ))))) (gZ rfl (bA _ _ (bA _ _ (bA _ _ (bA _ _ fC 8) 7) 6) 5));(· rfl';exact bZ (k:=3) rfl (by ac_rfl) (bJ (cI (sv 5) (cI (sv 6) (cI (au (sv 1) (sv 4)) (cI (sv 8) aM rfl) rfl) rfl) rfl));exact aq))
 rfl';.exists 4,iy rfl (by rfl) bK (cu rfl (by rfl) aR (au (sv 0) aa)),0;(· rfl';exact Ja (au (au (sv 0) aa) (sv 4)) (cT hc (aC (aB (i:=5) nd rfl oi oi) (aC (aB (i:=6) nd rfl oi oi) (aC (aB (i:=7) nd rfl oi oi) (aC (aB (i:=8) nd rfl oi oi) bQ))))) (gZ rfl (bA _ _ (bA _ _ (bA _ _ (bA _ _ fC 8) 7) 6) 5));(· rfl';exact bZ (k:=3) rfl (by ac_rfl) (bJ (cI (sv 6) (cI (sv 5) (cI (au (sv 2) (sv 4)) (cI (sv 8) aM rfl) rfl) rfl) rfl));exact aq))
 rfl';.exists(),bJ (cI (au (sv 0) aa) (cI (fP rfl (by rfl) bu (sv 3)) aM rfl) rfl)
 exact aq
noncomputable abbrev s37:ek:=top 59
noncomputable def b37:List S:=[.asg 3 (.con (.str "none")),.RL [.ifs (.cmp .eq ↑2 ⇑0) [.expr (.call 27 [↑0])] [],.ifs (.cmp .eq ↑2 ⇑1) [.expr (.call 29 [↑0,↑1])] [],.ifs (.cmp .eq ↑2 ⇑2) [.expr (.call 30 [↑0,⇑5])] [],.ifs (.cmp .eq ↑2 ⇑3) [.expr (.call 31 [↑0,⇑5,↑1])] []] 4 [[.bad],[.bad],[.asg 5 (.lst [.con (.bl bj),.con (.bl av),.con (.bl av),.con (.bl av)]),.asg 3 (.con (.str "many"))],[.bad],[.asg 5 (.lst [.con (.bl av),.con (.bl bj),.con (.bl av),.con (.bl av)]),.asg 3 (.con (.str "much"))],[.bad]],.ret ↑3]
noncomputable def YK:Fd:=⟨3,6,b37⟩
theorem afb:aO ["net","forth","way","told","e","kinds"] ["net","forth","way"] (aA s37):={}
include cl in
theorem d37(o:gn K "_law_heard" "_law_heard" s37 f fd)(je:mg "ValueError"=none)(aU:mg "isinstance"=none)(g:↥(30,"best_forth",2,0))(h:↥(31,"forth_right",3,0))(l:↥(29,"laned_net",2,0))(m:↥(27,"open_net",1,0))(m7:kT "HaulError" (cl 0) [.type "ValueError",.type "Exception",.type "BaseException",.type "object"] "ValueError.__new__" mg base)(p:di Pg w K mg base cl k c 30 "best_forth" 2)(q:di Pg w K mg base cl k c 31 "forth_right" 3)(r:di Pg w K mg base cl k c 29 "laned_net" 2)(t:di Pg w K mg base cl k c 27 "open_net" 1)(qR:Under base (cl 2) (cl 0))(qT:Under base (cl 4) (cl 0))(il:Ln K (cl 2))(ir:Ln K (cl 4))(iu:mg "BadHour"=ap (.ref (cl 5)))(lL:mg "NoWay"=ap (.ref (cl 3)))(bV:mg "TooMany"=ap (.ref (cl 2)))(bN:mg "TooMuch"=ap (.ref (cl 4)))(gO:kitOne K (.ref (cl 2)) (.ref (cl 5))=ap av)(iV:kitOne K (.ref (cl 2)) (.ref (cl 3))=ap av)(gP:kitOne K (.ref (cl 2)) (.ref (cl 2))=ap bj)(gQ:kitOne K (.ref (cl 2)) (.ref (cl 4))=ap av)(gR:kitOne K (.ref (cl 4)) (.ref (cl 5))=ap av)(iW:kitOne K (.ref (cl 4)) (.ref (cl 3))=ap av)(gU:kitOne K (.ref (cl 4)) (.ref (cl 2))=ap av)(gV:kitOne K (.ref (cl 4)) (.ref (cl 4))=ap bj)(fj:kitOne K (.ref (cl 2)) (.type "ValueError")=ap bj)(fu:kitOne K (.ref (cl 4)) (.type "ValueError")=ap bj):↥(["net","forth","way"],3,YK):=by
 exists o,afb,0,0;refine aQ ?_ ?_;.exists 3,BK
 rfl';.exact(QT (cl:=cl) (kk:=0) (i:=4) (by rfl) m7 (by decide+kernel) rfl ⟨rfl,rfl⟩ nd rfl rfl (λ_ _ u=>(by rfl';(· exists dF ?_ ?_ ?_;exact bC (dz (bh hr)) (sv 2) aa (bf _);(· rfl';exact dH (bW m hr (aD (sv 0) ao rfl));exact aq);exact aq);(· rfl';(· exists dF ?_ ?_ ?_;exact bC (dz (bh hr)) (sv 2) aa (bf _);(· rfl';exact dH (bW l hr (aD (sv 0) (aD (sv 1) ao rfl) rfl));exact aq);exact aq);(· rfl';(· exists dF ?_ ?_ ?_;exact bC (dz (bh hr)) (sv 2) aa (bf _);(· rfl';exact dH (bW g hr (aD (sv 0) (aD aa ao rfl) rfl));exact aq);exact aq);(· rfl';(· exists dF ?_ ?_ ?_;exact bC (dz (bh hr)) (sv 2) aa (bf _);(· rfl';exact dH (bW h hr (aD (sv 0) (aD aa (aD (sv 1) ao rfl) rfl) rfl));exact aq);exact aq);exact aq))))) (λ_ _ W u b=>(aK (by exists dF ?_ ?_ ?_;exact bC (dz (bh hr)) (sv 2) aa (bf _);(· rfl';exact dH (bW m hr (aD (sv 0) ao rfl));exact aq);exact aq) (oV (bC (dz (bh hr)) (sv 2) aa (bf _)) (aK (dH (bW m hr (aD (sv 0) ao rfl))) (kO rfl b t hr (aD (sv 0) ao rfl)) bF) bF) (aK (by exists dF ?_ ?_ ?_;exact bC (dz (bh hr)) (sv 2) aa (bf _);(· rfl';exact dH (bW l hr (aD (sv 0) (aD (sv 1) ao rfl) rfl));exact aq);exact aq) (oV (bC (dz (bh hr)) (sv 2) aa (bf _)) (aK (dH (bW l hr (aD (sv 0) (aD (sv 1) ao rfl) rfl))) (kO rfl b r hr (aD (sv 0) (aD (sv 1) ao rfl) rfl)) bF) bF) (aK (by exists dF ?_ ?_ ?_;exact bC (dz (bh hr)) (sv 2) aa (bf _);(· rfl';exact dH (bW g hr (aD (sv 0) (aD aa ao rfl) rfl));exact aq);exact aq) (oV (bC (dz (bh hr)) (sv 2) aa (bf _)) (aK (dH (bW g hr (aD (sv 0) (aD aa ao rfl) rfl))) (kO rfl b p hr (aD (sv 0) (aD aa ao rfl) rfl)) bF) bF) (aK (by exists dF ?_ ?_ ?_;exact bC (dz (bh hr)) (sv 2) aa (bf _);(· rfl';exact dH (bW h hr (aD (sv 0) (aD aa (aD (sv 1) ao rfl) rfl) rfl));exact aq);exact aq) (oV (bC (dz (bh hr)) (sv 2) aa (bf _)) (aK (dH (bW h hr (aD (sv 0) (aD aa (aD (sv 1) ao rfl) rfl) rfl))) (kO rfl b q hr (aD (sv 0) (aD aa (aD (sv 1) ao rfl) rfl) rfl)) bF) bF) bF))))) (kj (.inl rfl) (kj (.inl rfl) (kj (.inr ⟨qR,λe x a=>(Ai (j:=5) (k:=3) (b0:=bj) (s:="many") nd (by decide) (by decide) (by decide) rfl (dy rfl) (by ac_rfl) rfl (dy rfl) (jM (jU a il rfl (by rfl) aU rfl (by ac_rfl) (jd (v:=.ref (cl 2)) (by rfl) bV rfl (by rfl)) jL gP) (jM (jU a il rfl (by rfl) aU rfl (by ac_rfl) (jd (v:=.ref (cl 4)) (by rfl) bN rfl (by rfl)) jL gQ) (jM (jU a il rfl (by rfl) aU rfl (by ac_rfl) (jd (v:=.ref (cl 3)) (by rfl) lL rfl (by rfl)) jL iV) (jM (jU a il rfl (by rfl) aU rfl (by ac_rfl) (jd (v:=.ref (cl 5)) (by rfl) iu rfl (by rfl)) jL gO) Jx)))) (λ_=>rfl) (Je (jU a il rfl (by rfl) aU rfl (by ac_rfl) (sI (v:=.ty "ValueError") (by rfl) je (by kernel_rfl) rfl (by decide) (by rfl)) Ju fj)) (gf (gf (gf (gf Av)))) (by decide) (by decide) (Em rfl (by decide) 0 rfl (by decide) rfl) (wN rfl (by ac_rfl) rfl (by exact aZ rfl) rfl rfl rfl rfl) (wD rfl (by ac_rfl) rfl (by exact aZ rfl) rfl rfl rfl rfl) (by intro _ _;rfl) (by rfl) (dy rfl) (by rfl) (dy rfl) (by rfl))⟩) (kj (.inl rfl) (kj (.inr ⟨qT,λe x a=>(Ai (j:=5) (k:=3) (b0:=bj) (s:="much") nd (by decide) (by decide) (by decide) rfl (dy rfl) (by ac_rfl) rfl (dy rfl) (jM (jU a ir rfl (by rfl) aU rfl (by ac_rfl) (jd (v:=.ref (cl 2)) (by rfl) bV rfl (by rfl)) jL gU) (jM (jU a ir rfl (by rfl) aU rfl (by ac_rfl) (jd (v:=.ref (cl 4)) (by rfl) bN rfl (by rfl)) jL gV) (jM (jU a ir rfl (by rfl) aU rfl (by ac_rfl) (jd (v:=.ref (cl 3)) (by rfl) lL rfl (by rfl)) jL iW) (jM (jU a ir rfl (by rfl) aU rfl (by ac_rfl) (jd (v:=.ref (cl 5)) (by rfl) iu rfl (by rfl)) jL gR) Jx)))) (λ_=>rfl) (Je (jU a ir rfl (by rfl) aU rfl (by ac_rfl) (sI (v:=.ty "ValueError") (by rfl) je (by kernel_rfl) rfl (by decide) (by rfl)) Ju fu)) (gf (gf (gf (gf Av)))) (by decide) (by decide) (Em rfl (by decide) 1 rfl (by decide) rfl) (wN rfl (by ac_rfl) rfl (by exact aZ rfl) rfl rfl rfl rfl) (wD rfl (by ac_rfl) rfl (by exact aZ rfl) rfl rfl rfl rfl) (by intro _ _;rfl) (by rfl) (dy rfl) (by rfl) (dy rfl) (by rfl))⟩) (kj (.inl rfl) Q9)))))))
 rfl';.exists(),sv 3
 exact aq
noncomputable abbrev s38:ek:=top 60
noncomputable def b38:List S:=[.asg 4 (.call 33 [↑0,↑1,.bin .add (.blt .len [↑3]) ⇑1]),.asg 5 (.call 33 [↑0,.bin .add ↑1 ⇑1,.bin .pow ⇑10 ⇑6]),.ifs (.cmp .eq ↑4 (.blt .len [↑3])) [.ret (.idx (.lst [.bin .add ↑3 (.tup [⇑0]),.bin .add ↑3 (.bin .mul (.tup [⇑0]) (.bin .add ⇑1 (.bin .mod ↑5 ⇑7)))]) (.bin .mod ↑5 ⇑2))] [],.asg 6 (.idx (.idx (.idx ↑2 ⇑1) ↑4) ⇑2),.asg 7 (.idx (.lst [.neg ⇑1,.bin .add ↑6 ⇑1,.bin .sub (.neg ⇑1) ↑5,.bin .add (.bin .add ↑6 ⇑1) ↑5]) (.call 33 [↑0,.bin .add ↑1 ⇑2,⇑4])),.ifs (.cmp .eq (.call 33 [↑0,.bin .add ↑1 ⇑3,⇑5]) ⇑0) [.ret (.bin .add (.slice ↑3 (.con .non) ↑4) (.slice ↑3 (.bin .add ↑4 ⇑1) (.con .non)))] [],.ret (.bin .add (.bin .add (.slice ↑3 (.con .non) ↑4) (.tup [↑7])) (.slice ↑3 (.bin .add ↑4 ⇑1) (.con .non)))]
noncomputable def f38:Fd:=⟨4,8,b38⟩
theorem ae0:aO ["draws","at","net","forth","spot","far","room","bad"] ["draws","at","net","forth"] (aA s38):={}
include cl in
theorem d38(b:gn K "_law_bad" "_law_bad" s38 f fd)(aR:mg "len"=none)(a:↥(33,"_law_draw",3,0)):↥(["draws","at","net","forth"],4,f38):=by
 exists b,ae0,0,0;refine aQ ?_ ?_;.exists 4,bW a hr (aD (sv 0) (aD (sv 1) (aD (az aG (cu rfl (by rfl) aR (sv 3)) aa) ao rfl) rfl) rfl)
 rfl';.exists 5,bW a hr (aD (sv 0) (aD (az aG (sv 1) aa) (aD (az iB aa aa) ao rfl) rfl) rfl)
 rfl';.exists dF ?_ ?_ ?_;exact bC (dz (bh hr)) (sv 4) (cu rfl (by rfl) aR (sv 3)) (bf _);(· rfl';(· exists(),au (dI (cI (az aG (sv 3) (bJ (cI aa aM rfl))) (cI (az aG (sv 3) (az cZ (bJ (cI aa aM rfl)) (az aG aa (az dU (sv 5) aa)))) aM rfl) rfl)) (az dU (sv 5) aa));exact aq);exact aq
 rfl';.exists 6,au (au (au (sv 2) aa) (sv 4)) aa
 rfl';.exists 7,au (dI (cI (mz aa) (cI (az aG (sv 6) aa) (cI (az dm (mz aa) (sv 5)) (cI (az aG (az aG (sv 6) aa) (sv 5)) aM rfl) rfl) rfl) rfl)) (bW a hr (aD (sv 0) (aD (az aG (sv 1) aa) (aD aa ao rfl) rfl) rfl))
 rfl';.exists dF ?_ ?_ ?_;exact bC (dz (bh hr)) (bW a hr (aD (sv 0) (aD (az aG (sv 1) aa) (aD aa ao rfl) rfl) rfl)) aa (bf _);(· rfl';(· exists(),az aG (fM (sv 3) gw (gH (sv 4))) (fM (sv 3) (gH (az aG (sv 4) aa)) gw));exact aq);exact aq
 rfl';.exists(),az aG (az aG (fM (sv 3) gw (gH (sv 4))) (bJ (cI (sv 7) aM rfl))) (fM (sv 3) (gH (az aG (sv 4) aa)) gw)
 exact aq
noncomputable abbrev s39:ek:=top 61
noncomputable def b39:List S:=[.asg 2 (.bin .add ⇑7 (.call 33 [↑0,⇑290,⇑6])),.asg 3 (.blt .list [.idx ↑1 ⇑1]),.whl (.cmp .lt (.blt .len [↑3]) ↑2) [.app 3 (.tup [⇑0,.bin .sub (.idx ↑1 ⇑0) ⇑1,.blt .len [↑3],.bin .add ⇑1 (.blt .len [↑3])])],.ret (.call 15 [.idx ↑1 ⇑0,↑3])]
noncomputable def f39:Fd:=⟨2,4,b39⟩
theorem afQ:aO ["draws","net","many","ways"] ["draws","net"] (aA s39):={}
include cl in
theorem d39(a:gn K "_law_wider" "_law_wider" s39 f fd)(aR:mg "len"=none)(fL:mg "list"=none)(b:↥(33,"_law_draw",3,0))(e:↥(15,"made_net",2,0)):↥(["draws","net"],2,f39):=by
 exists a,afQ,0,0;refine aQ ?_ ?_;.exists 2,az aG aa (bW b hr (aD (sv 0) (aD aa (aD aa ao rfl) rfl) rfl))
 rfl';.exists 3,xM rfl (by rfl) fL (au (sv 1) aa)
 rfl';.exact(yg eA (bC (MK (bh hr)) (cu rfl (by rfl) aR (sv 3)) (sv 2) (bf _)) (by rfl';exact bZ (k:=3) rfl (by ac_rfl) (bJ (cI aa (cI (az dm (au (sv 1) aa) aa) (cI (cu rfl (by rfl) aR (sv 3)) (cI (az aG aa (cu rfl (by rfl) aR (sv 3))) aM rfl) rfl) rfl) rfl));exact aq))
 rfl';.exists(),bW e hr (aD (au (sv 1) aa) (aD (sv 3) ao rfl) rfl)
 exact aq
noncomputable abbrev s40:ek:=top 62
noncomputable def b40:List S:=[.asg 1 (.call 32 [↑0,⇑300]),.asg 2 (.call 35 [↑1,⇑0,⇑6,⇑6]),.asg 3 (.comp (.idx ↑2 ⇑1) 1 [10] bj none (.idx ↑10 ⇑2)),.ifs (.cmp .ne (.call 27 [↑2]) (.call 36 [↑2,.vw 3,.vw 3])) [.ret (.con (.bl av))] [],.j6 (.vD ⇑0 ⇑4) [4] bj [.asg 5 (.blt .tuple [.comp (.vD ⇑0 (.blt .len [↑3])) 1 [10] bj none (.call 34 [↑1,.bin .add (.bin .add ⇑100 (.bin .mul ⇑20 ↑4)) (.bin .mul ⇑2 ↑10),.bin .add (.idx ↑3 ↑10) ⇑1])]),.asg 6 (.comp (.vD ⇑0 (.blt .len [↑3])) 1 [10] bj none (.bin .sub (.idx ↑3 ↑10) (.idx ↑5 ↑10))),.ifs (.cmp .ne (.call 29 [↑2,↑5]) (.call 36 [↑2,↑5,↑6])) [.ret (.con (.bl av))] [],.asg 7 (.call 38 [↑1,.bin .add ⇑200 (.bin .mul ⇑5 ↑4),↑2,↑5]),.ifs (.or (.cmp .ne (.call 37 [↑2,↑7,⇑1]) (.con (.str "much"))) (.cmp .Np (.call 31 [↑2,⇑5,↑7]) (.con (.bl av)))) [.ret (.con (.bl av))] []],.asg 8 (.call 39 [↑1,↑2]),.asg 9 (.blt .tuple [.comp (.idx ↑8 ⇑1) 1 [10] bj none (.idx ↑10 ⇑2)]),.j6 (.lst [↑9,.slice ↑9 ⇑1 (.con .non),.bin .add ↑9 (.tup [⇑0]),.bin .add (.tup [.neg ⇑1]) (.slice ↑9 ⇑1 (.con .non))]) [5] bj [.ifs (.cmp .ne (.comp (.vD ⇑0 ⇑4) 1 [10] bj none (.call 37 [↑8,↑5,↑10])) (.bin .mul (.lst [.con (.str "many")]) ⇑4)) [.ret (.con (.bl av))] []],.ret (.con (.bl bj))]
noncomputable def f40:Fd:=⟨1,10,b40⟩
theorem ahh:aO ["script","draws","net","rooms","turn","forth","back","bad","wider","due"] ["script"] (aA s40):={}
include cl in
theorem d40(e:gn K "law" "law" s40 f fd)(aR:mg "len"=none)(bK:mg "range"=none)(bu:mg "tuple"=none)(g:↥(32,"_law_all",2,0))(h:↥(38,"_law_bad",4,0))(a:↥(36,"_law_due",3,0))(b:↥(37,"_law_heard",3,0))(j:↥(35,"_law_net",4,0))(l:↥(34,"_law_wide",3,0))(m:↥(39,"_law_wider",2,0))(o:↥(31,"forth_right",3,0))(p:↥(29,"laned_net",2,0))(q:↥(27,"open_net",1,0)):↥(["script"],1,f40):=by
 exists e,ahh,0,0;refine aQ ?_ ?_;.exists lW (i:=1) ?_ ?_ ?_ ?_ ?_ ?_;exact nd;exact rfl;exact ei rfl;rotate_left;rfl;exact oi;exact bW g hr (aD (sv 0) (aD aa ao rfl) rfl)
 rfl';.exists 2,bW j hr (aD (sv 1) (aD aa (aD aa (aD aa ao rfl) rfl) rfl) rfl)
 rfl';.exists lW (i:=3) ?_ ?_ ?_ ?_ ?_ ?_;exact nd;exact rfl;exact ei rfl;rotate_left;rfl;exact oi;exact fG (N':=["script","draws","net","rooms","turn","forth","back","bad","wider","due","way"]) hc (qU rfl (by rfl)) (cJ (au (sv 2) aa)) ⇑(aB (i:=10) ‹["script","draws","net","rooms","turn","forth","back","bad","wider","due","way"]› rfl (dy rfl) (ei rfl)) (cW (eU)) ⇑(bO) ⇑((au (sv 10) aa))
 rfl';.exists dF ?_ ?_ ?_;exact bC (uQ (bh hr)) (bW q hr (aD (sv 2) ao rfl)) (bW a hr (aD (sv 2) (aD (mJ (i:=3) rfl (by ac_rfl)) (aD (mJ (i:=3) rfl (by ac_rfl)) ao rfl) rfl) rfl)) (bf _);(· rfl';(· exists(),pR);exact aq);exact aq
 rfl';.exists yE (i:=4) ?_ ?_ ?_ ?_ ?_ ?_ ?_ ?_ ?_;exact eA;exact hc;exact nd;exact rfl;exact ei rfl;exact iy rfl (by rfl) bK aa;(· rfl';(· exists lW (i:=5) ?_ ?_ ?_ ?_ ?_ ?_;exact nd;exact rfl;exact ei rfl;rotate_left;rfl;exact oi;exact fP rfl (by rfl) bu (fG (N':=["script","draws","net","rooms","turn","forth","back","bad","wider","due","k"]) hc (qU rfl (by rfl)) (iy rfl (by rfl) bK (cu rfl (by rfl) aR (sv 3))) ⇑(aB (i:=10) ‹["script","draws","net","rooms","turn","forth","back","bad","wider","due","k"]› rfl (dy rfl) (ei rfl)) (cW (eU)) ⇑(bO) ⇑((bW l hr (aD (sv 1) (aD (az aG (az aG aa (az cZ aa (sv 4))) (az cZ aa (sv 10))) (aD (az aG (au (sv 3) (sv 10)) aa) ao rfl) rfl) rfl)))));(· rfl';exact tD (i:=6) (N':=["script","draws","net","rooms","turn","forth","back","bad","wider","due","k"]) hc nd rfl oi (qU rfl (by rfl)) (iy rfl (by rfl) bK (cu rfl (by rfl) aR (sv 3))) ⇑(aB (i:=10) ‹["script","draws","net","rooms","turn","forth","back","bad","wider","due","k"]› rfl (dy rfl) (ei rfl)) (cW (eU)) ⇑(bO) ⇑((az dm (au (sv 3) (sv 10)) (au (sv 5) (sv 10)))) (by rfl) (by intro _;rfl) (dy rfl);(· rfl';(· exists dF ?_ ?_ ?_;exact bC (uQ (bh hr)) (bW p hr (aD (sv 2) (aD (sv 5) ao rfl) rfl)) (bW a hr (aD (sv 2) (aD (sv 5) (aD (sv 6) ao rfl) rfl) rfl)) (bf _);(· rfl';(· exists(),pR);exact aq);exact aq);(· rfl';(· exists 7,bW h hr (aD (sv 1) (aD (az aG aa (az cZ aa (sv 4))) (aD (sv 2) (aD (sv 5) ao rfl) rfl) rfl) rfl));(· rfl';(· exists dF ?_ ?_ ?_;exact SW.st (JD (bC (uQ (bh hr)) (bW b hr (aD (sv 2) (aD (sv 7) (aD aa ao rfl) rfl) rfl)) BK (bf _)) (CN (bC JP (bW o hr (aD (sv 2) (aD aa (aD (sv 7) ao rfl) rfl) rfl)) pR (bf _))));(· rfl';(· exists(),pR);exact aq);exact aq);exact aq)))));(· intro _;rfl);exact oi
 rfl';.exists lW (i:=8) ?_ ?_ ?_ ?_ ?_ ?_;exact nd;exact rfl;exact ei rfl;rotate_left;rfl;exact oi;exact bW m hr (aD (sv 1) (aD (sv 2) ao rfl) rfl)
 rfl';.exists 9,fP rfl (by rfl) bu (fG (N':=["script","draws","net","rooms","turn","forth","back","bad","wider","due","way"]) hc (qU rfl (by rfl)) (cJ (au (sv 8) aa)) ⇑(aB (i:=10) ‹["script","draws","net","rooms","turn","forth","back","bad","wider","due","way"]› rfl (dy rfl) (ei rfl)) (cW (eU)) ⇑(bO) ⇑((au (sv 10) aa)))
 rfl';.exists yE (i:=5) ?_ ?_ ?_ ?_ ?_ ?_ ?_ ?_ ?_;exact eA;exact hc;exact nd;exact rfl;exact ei rfl;exact cJ (dI (cI (sv 9) (cI (fM (sv 9) (gH aa) gw) (cI (az aG (sv 9) (bJ (cI aa aM rfl))) (cI (az aG (bJ (cI (mz aa) aM rfl)) (fM (sv 9) (gH aa) gw)) aM rfl) rfl) rfl) rfl));(· rfl';(· exists dF ?_ ?_ ?_;exact bC (uQ (bh hr)) (fG (N':=["script","draws","net","rooms","turn","forth","back","bad","wider","due","way"]) hc (qU rfl (by rfl)) (iy rfl (by rfl) bK aa) ⇑(aB (i:=10) ‹["script","draws","net","rooms","turn","forth","back","bad","wider","due","way"]› rfl (dy rfl) (ei rfl)) (cW (eU)) ⇑(bO) ⇑((bW b hr (aD (sv 8) (aD (sv 5) (aD (sv 10) ao rfl) rfl) rfl)))) (az cZ (dI (cI BK aM rfl)) aa) (bf _);(· rfl';(· exists(),pR);exact aq);exact aq);exact aq);(· intro _;rfl);exact oi
 rfl';.exists(),pR
 exact aq
end _T
end
noncomputable section
namespace _T
open PySem _L Spec PyProof.Rows _H
noncomputable def Γ:Tab:=λi=>[f0,f1,f2,f3,f4,f5,f6,f7,f8,f9,f10,f11,f12,Zm,f14,f15,f16,f17,f18,f19,f20,f21,f22,f23,f24,Xm,f26,Vi,U4,QQ,f30,Wr,f32,f33,f34,f35,f36,YK,f38,f39,f40][i]?
end _T
end
noncomputable section
namespace _T
open _H
variable{a b m i g p:Int}{n j w N k l:Nat}{ls ds ch fo:List Int}{Q:R->List Sl->Prop}{f:Bool}{F:Int->Int}{ρ:List Sl}{kvs:List (Int×Int)}
local macro_rules|`(tactic|symm)=>`(tactic|first|apply ak|apply HR)
structure Wy where(s t r h:Int)
variable{v:Wy}{ws:List Wy}
noncomputable def Wy.d(w:Wy):D:=.tup [.int w.s,.int w.t,.int w.r,.int w.h]
structure Wy.Ok(m:Int)(w:Wy):Prop where
 s0:0<=w.s
 s1:w.s<m
 t0:0<=w.t
 t1:w.t<m
 ne:w.s≠w.t
 r0:0<=w.r
 r1:w.r<=1000000000
 h0:1<=w.h
 h1:w.h<=1000000
theorem other(h1:0<=a)(c:a<m)(o:0<=b)(q:b<m-1):0<=(a+1+b)%m/\(a+1+b)%m<m/\(a+1+b)%m≠a:=by
 by_cases h:a+1+b<m;.rw[Int.emod_eq_of_lt (by lia) h];lia
 . have e:(a+1+b)%m=a+1+b-m:=by rw[<-Int.sub_emod_right,Int.emod_eq_of_lt (by lia) (by lia)]
   rw[e];lia
noncomputable def aV(m:Int)(ws:List Wy):D:=.tup [.int m,.tup (ws.map Wy.d)]
structure kY(m:Int)(ws:List Wy):Prop where
 m0:2<=m
 m1:m<=6
 len:ws.length<=12
 ok:∀w∈ws,w.Ok m
@[simp]theorem aiT{m:Int}{ws:List Wy}:Pn (aV m ws) (.int 0)=ap (.val (.int m)):=rfl
@[simp]theorem ajc{m:Int}{ws:List Wy}:Pn (aV m ws) (.int 1)=ap (.val (.tup (ws.map Wy.d))):=rfl
noncomputable def ab(i:Int):Int:=if i<0 then-i else i
theorem Ff:blt .abs [.int i]=ap (.val (.int (ab i))):=rfl
noncomputable def aae(d:D):D:=.int (ab (oO d))
inductive FAl(a0 a1 a2 a3 a4 a5 a6 a7 a8:Sl)(ρ:List Sl):Prop where|mk(s:Sl)(q0:ρ=[a0,a1,a2,a3,a4,a5,a6,a7,a8,s])(q1:fr s=bj)
noncomputable def Dr(ds:List Int):Prop:=∀d∈ds,0<=d/\d<1000000
inductive JAl(N:Nat)(a0 a1:Sl)(i:Nat)(ρ:List Sl):Prop where|mk(cs ls fd:List Int)(s5 s6 s7 s8:Sl)(q0:ρ=[a0,a1,.own av (cs.map D.int),.own av (ls.map D.int),.own av (fd.map D.int),s5,s6,s7,s8])(q1:A4 (fr s5=bj) (fr s6=bj) (fr s7=bj) (fr s8=bj))(q2:cs.length=N)(q3:ls.length=N)(q4:fd.length=i)(q5:Dr fd)
theorem pg(a:Int)(h:0<b):0<=a%b/\a%b<b:=⟨Int.emod_nonneg _ (by lia),Int.emod_lt_of_pos _ h⟩
theorem sO{cs:List Int}{a b:Option Int}:cut (cs.map D.int) a b=(cut cs a b).map D.int:=by unfold cut;simp
theorem afe{ds:List D}:Kh (.lst ds) (part (.con .non) .non) (part (.con (.int i)) (.int i))=ap (.own (cut ds none (ap i))):=rfl
theorem Vu{c:Call}{A B:List S}{h o q r s7 s8:Sl}{cs:List Int}{c0 t:Int}{Q:Fl->List Sl->Prop}(u:at' (cs.map D.int) (j:Int)=ap (.int c0))(x:at' (ls.map D.int) (j:Int)=ap (.int t))(h1:(fJ c n A [h,o,.own av (cs.map D.int),.own av (ls.map D.int),q,r,.val av (.int j),s7,s8]).sat Q)(s:(fJ c n B [h,o,.own av (cs.map D.int),.own av (ls.map D.int),q,r,.val av (.int j),s7,s8]).sat Q):(ex c n (.ifs (.and (.cmp .ge (.blt .abs [.idx (.var 2) (.var 6)]) (.bin .pow (.con (.int 10)) (.con (.int 18)))) (.cmp .gt (.idx (.var 3) (.var 6)) (.con (.int 0)))) A B) [h,o,.own av (cs.map D.int),.own av (ls.map D.int),q,r,.val av (.int j),s7,s8]).sat Q:=by have e:=Ff (i:=c0);generalize ab c0=y at e;simp[u,x,e];exact⟨λ_=>⟨λ_=>h1,λ_=>s⟩,λ_=>s⟩
set_option maxHeartbeats 400000 in
theorem Rt{M:Nat}{ns:List Int}(hn:ns.length<=63)(hM:M<=1000)(k:∀ds:List Int,ds.length=M->Dr ds->Q (.own (ds.map D.int)) [.val av (.lst (ns.map D.int)),.val av (.int M)]):(run Γ w (n+1) 32 [.val av (.lst (ns.map D.int)),.val av (.int M)]).sat Q:=by
 refine aX (d:=f32) rfl rfl (by decide) ?_;refine eO (λρ=>∃cs:List Int,ρ=[.val av (.lst (ns.map D.int)),.val av (.int M),.own av (cs.map D.int),.aW,.aW,.aW,.aW,.aW,.aW]/\cs.length<=63) ?_ ?_;.simp[f32,afe,sO];refine⟨_,rfl,?_⟩;unfold cut;simp;lia
 rintro _⟨cs,rfl,hc⟩;refine eO (λρ=>∃cs:List Int,ρ=[.val av (.lst (ns.map D.int)),.val av (.int M),.own av (cs.map D.int),.aW,.aW,.aW,.aW,.aW,.aW]/\cs.length<=63/\0<cs.length) ?_ ?_;.simp[O1];cases cs with|nil=>simp;apply ak;simp;exact⟨[0],rfl,by simp,by simp⟩|cons c cs=>simp;exact⟨c::cs,rfl,by simpa using hc,by simp⟩
 rintro _⟨cs,rfl,hc,W⟩;symm;simp[show cs.length<=16777216 by lia];refine cV (FAl _ _ _ _ _ _ _ _ _) aae ⟨.aW,rfl,rfl⟩ ?_ ?_;.rintro d hd _⟨s,rfl,hs⟩;obtain⟨c,_,rfl⟩:=ej.mp hd;simp[hs,Ff];exact⟨rfl,_,rfl,rfl⟩
 rintro _⟨s,rfl,hs⟩;have e:(cs.map D.int).map aae=(cs.map ab).map D.int:=by rw[fe,fe];rfl
 rw[e];have t:(cs.map ab).length=cs.length:=dV _;generalize(cs.map ab)=ls at*;simp;apply ak;simp;apply ak;simp[show(M:Int)<=1000000000 by lia];refine kE (JAl cs.length _ _) ?_ ?_ ⟨cs,ls,[],.aW,.aW,.aW,.aW,rfl,⟨rfl,rfl,rfl,rfl⟩,rfl,t,rfl,λd hd=>by cases hd⟩
 . rintro i _ hi⟨h,ls,fd,s5,s6,s7,s8,rfl,⟨X,Y,I,J⟩,h1,u,L,y⟩;obtain⟨j,Z,j0⟩:∃j:Nat,(i:Int)%(h.length:Int)=(j:Int)/\j<h.length:=⟨i%h.length,by lia,Nat.mod_lt _ (by lia)⟩;have O:at' (h.map D.int) (j:Int)=ap (.int h[j]):=dO (by simp[j0]);have U:j<ls.length:=by lia
   have z:at' (ls.map D.int) (j:Int)=ap (.int ls[j]):=dO (by simp[U]);have hx:lR ls.length (j:Int)=ap j:=XD U;generalize h[j]=c0 at*;generalize ls[j]=A at*;have B:0<h.length:=by lia
   have C:∃o:Int,o=(i:Int):=⟨_,rfl⟩;obtain⟨o,E⟩:=C;have snoc:∀{x:Int},0<=x->x<1000000->Dr (fd++[x]):=λ{x}x0 x1 d hd=>by
    rcases eM.mp hd with hd|hd;.exact y d hd
    .rw[dX.mp hd];exact⟨x0,x1⟩
   simp[X];apply ak;simp[Y,B,Z];apply ak;refine Vu O z ?_ ?_;.symm;have r:=pg A (b:=1000000) (by decide);simp[z,show fd.length<16777216 by lia];apply ak;simp[z,hx];exact⟨h,ls.set j (A/1000000),fd++[A%1000000],.val av (.int i),.val av (.int j),s7,s8,by simp[map_set],⟨rfl,rfl,I,J⟩,h1,by simpa using u,by simp;lia,snoc r.1 r.2⟩
   . have i1:-18446744073709551616<977*o/\977*o<18446744073709551616:=by lia
     rw[<-E];symm;simp[i1,I];generalize 977*o*o+131*o+1=st;symm;simp[O,J];generalize hm:(c0%1000000007*48271+st)%2147483647=q;have m0:=pg (c0%1000000007*48271+st) (b:=2147483647) (by decide);rw[hm]at m0;have m1:-18446744073709551616<q/\q<18446744073709551616:=by lia
     symm;simp[m1];generalize G:q*q%2147483647=H;have n0:=pg (q*q) (b:=2147483647) (by decide);rw[G]at n0;symm;simp[show fd.length<16777216 by lia];have r:=pg ((H+40692*(o+3))*69621%2147483629/8) (b:=1000000) (by decide);exact⟨h,ls,fd++[(H+40692*(o+3))*69621%2147483629/8%1000000],.val av (.int o),.val av (.int j),.val av (.int st),.val av (.int H),by simp,⟨rfl,rfl,rfl,rfl⟩,h1,u,by simp;lia,snoc r.1 r.2⟩
 .rintro _⟨h,ls,fd,s5,s6,s7,s8,rfl,_,h1,u,L,y⟩;symm;simp;exact k fd L y
theorem cQ{c:Int}(hd:0<ds.length)(r:0<=c)(m0:0<m)(m1:m<=1000000000000000000000)(k:∀d,0<=d->d<m->Q (.val (.int d)) [.own bj (ds.map D.int),.val av (.int c),.val av (.int m)]):(run Γ w (n+1) 33 [.own bj (ds.map D.int),.val av (.int c),.val av (.int m)]).sat Q:=by
 have e:m<1606938044258990275541962092341162602522202993782792835301376:=by lia
 obtain⟨j,h,o⟩:∃j:Nat,c%(ds.length:Int)=(j:Int)/\j<ds.length:=⟨(c%(ds.length:Int)).toNat,by have:=pg c (b:=(ds.length:Int)) (by lia);lia,by have:=pg c (b:=(ds.length:Int)) (by lia);lia⟩;have q:at' (ds.map D.int) (j:Int)=ap (.int ds[j]):=dO (by simp[o]);generalize ds[j]=d0 at*;refine aX (d:=f33) rfl rfl (by decide) ?_;symm;simp[f33,hd,h,q,m0,e];exact k _ (pg d0 m0).1 (pg d0 m0).2
theorem Aj{c:Int}(t:Dr ds)(hd:0<ds.length)(u:0<=c)(m0:0<m)(m1:m<=1000000000000000000000)(k:∀d,0<=d->d<m->Q (.val (.int d)) [.own bj (ds.map D.int),.val av (.int c),.val av (.int m)]):(run Γ w (n+1) 34 [.own bj (ds.map D.int),.val av (.int c),.val av (.int m)]).sat Q:=by
 have e:m<1606938044258990275541962092341162602522202993782792835301376:=by lia
 have get:∀a:Int,∃j:Nat,a%(ds.length:Int)=(j:Int)/\j<ds.length:=λa=>⟨(a%(ds.length:Int)).toNat,by have:=pg a (b:=(ds.length:Int)) (by lia);lia,by have:=pg a (b:=(ds.length:Int)) (by lia);lia⟩;obtain⟨j,h,o⟩:=get c;obtain⟨i,hi,q⟩:=get (c+1);have r:at' (ds.map D.int) (j:Int)=ap (.int ds[j]):=dO (by simp[o]);have s:at' (ds.map D.int) (i:Int)=ap (.int ds[i]):=dO (by simp[q]);generalize ds[j]=d0 at*;generalize ds[i]=d1 at*;refine aX (d:=f34) rfl rfl (by decide) ?_;symm;simp[f34,hd,h,r];apply ak;simp[hd,hi,s,m0,e];exact k _ (pg _ m0).1 (pg _ m0).2
theorem GZ(k:Q (.val (.bl bj)) [.val av (.int i)]):(run Γ w (n+1) 11 [.val av (.int i)]).sat Q:=by refine aX (d:=f11) rfl rfl (by decide) ?_;symm;simp[f11];exact k
theorem ju(h1:a<=i)(c:i<=b)(k:Q (.val (.bl bj)) [.val av (.int i),.val av (.int a),.val av (.int b)]):(run Γ w (n+2) 12 [.val av (.int i),.val av (.int a),.val av (.int b)]).sat Q:=by refine aX (d:=f12) rfl rfl (by decide) ?_;symm;simp[f12];refine GZ ?_;simp[h1,c];exact k
theorem Mx{ds:List D}(k:Q (.val (.bl bj)) [.val av (.tup ds)]):(run Γ w (n+1) 13 [.val av (.tup ds)]).sat Q:=by refine aX (d:=Zm) rfl rfl (by decide) ?_;symm;simp[Zm];exact k
theorem Ng{b:Bool}{ds:List D}(k:Q (.val (.bl bj)) [.own b ds]):(run Γ w (n+1) 13 [.own b ds]).sat Q:=by refine aX (d:=Zm) rfl rfl (by decide) ?_;symm;simp[Zm];exact k
theorem HQ(h:v.Ok m)(k:Q (.val (.bl bj)) [.val av (.int m),.val av v.d]):(run Γ w (n+3) 14 [.val av (.int m),.val av v.d]).sat Q:=by obtain⟨s,t,r,c⟩:=v;obtain⟨s0,s1,t0,t1,ne,r0,r1,h0,h1⟩:=h;simp only at s0 s1 t0 t1 ne r0 r1 h0 h1;refine aX (d:=f14) rfl rfl (by decide) ?_;symm;simp[f14,Wy.d];refine Mx ?_;simp;refine ju s0 (by lia) ?_;simp;refine ju t0 (by lia) ?_;simp[ne];refine ju r0 r1 ?_;simp;refine ju h0 h1 ?_;simp;exact k
inductive JMd(m:Int)(ws:List Wy)(a0 a1:Sl)(r:List D)(ρ:List Sl):Prop where|mk(s2:Sl)(s3:Sl)(q0:ρ=[a0,a1,s2,s3])(q1:(fr s2=bj/\fr s3=bj))(q2:∀d∈r,∃(i:Nat)(v:Wy),d=.tup [.int i,v.d]/\v.Ok m)
inductive F4m(a0 a1 a2 a3:Sl)(ρ:List Sl):Prop where|mk(s:Sl)(q0:ρ=[a0,a1,a2,a3,s])(q1:fr s=bj)
theorem zy(h:kY m ws)(k:Q (.val (aV m ws)) [.val av (.int m),.val bj (.lst (ws.map Wy.d))]):(run Γ w (n+4) 15 [.val av (.int m),.own bj (ws.map Wy.d)]).sat Q:=by
 have m0:=h.m0;have m1:=h.m1;have t:=h.len;refine aX (d:=f15) rfl rfl (by decide) ?_;symm;simp[f15];refine ju m0 m1 ?_;simp;refine Ng ?_;simp;apply ak;simp;refine eV (JMd m ws _ _) ?_ ?_ ⟨.aW,.aW,rfl,⟨rfl,rfl⟩,λd hd=>?_⟩;.rintro d r _⟨s2,s3,rfl,⟨e,o⟩,hd⟩;obtain⟨i,v,rfl,q⟩:=hd d (by simp);simp[e,o];apply ak;simp;refine HQ q ?_;simp;exact⟨_,_,rfl,⟨rfl,rfl⟩,λd h=>hd d (dL _ h)⟩
 . rintro _⟨s2,s3,rfl,⟨e,o⟩,_⟩;simp;apply ak;simp[show ¬(12:Int)<(ws.length:Int)by lia,show ¬ 12<ws.length by lia];apply ak;simp[show ws.length<=16777216 by lia];refine cV (F4m _ _ _ _) (λd=>d) ⟨.aW,rfl,rfl⟩ ?_ ?_;.rintro d hd _⟨s,rfl,hs⟩;obtain⟨v,_,rfl⟩:=ej.mp hd;simp[hs,Wy.d];exact⟨_,rfl,rfl⟩
   .rintro _⟨s,rfl,hs⟩;simp;exact k
 . rw[List.mem_mapIdx]at hd;obtain⟨i,hi,rfl⟩:=hd;have c:i<ws.length:=by simpa using hi
   exact⟨i,ws[i],by simp,h.ok _ (kg c)⟩
theorem Bu{ns:List Int}{lo hi:Int}(h0:0<=i)(h1:i<(ns.length:Int))(k:∀x∈ns,lo<=x/\x<=hi):∃r,at' (ns.map D.int) i=ap (.int r)/\lo<=r/\r<=hi:=by
 have c:i.toNat<ns.length:=by lia
 refine⟨ns[i.toNat],?_,k _ (kg c)⟩;rw[Br h0 (by simpa using h1)];simp[c]
inductive JNt(m:Int)(wd:Bool)(a0 a1 a2 a3:Sl)(i:Nat)(ρ:List Sl):Prop where|mk(ws:List Wy)(s7 s8 s9 qI Oj s12:Sl)(q0:ρ=[a0,a1,a2,a3,.val av (.int m),.val av (.bl wd),.own av (ws.map Wy.d),s7,s8,s9,qI,Oj,s12])(q1:A6 (fr s7=bj) (fr s8=bj) (fr s9=bj) (fr qI=bj) (fr Oj=bj) (fr s12=bj))(q2:(∀v∈ws,v.Ok m))(q3:ws.length=i)
theorem Ku{o q:Int}(I:Dr ds)(hd:0<ds.length)(p0:2<=o)(p1:o<=6)(o0:0<=q)(o1:q<=12)(k:∀m ws,kY m ws->m<=o->(ws.length:Int)<=q->Q (.val (aV m ws)) [.own bj (ds.map D.int),.val av (.int 0),.val av (.int o),.val av (.int q)]):(run Γ w (n+5) 35 [.own bj (ds.map D.int),.val av (.int 0),.val av (.int o),.val av (.int q)]).sat Q:=by
 refine aX (d:=f35) rfl rfl (by decide) ?_;symm;simp[f35];refine cQ hd (by lia) (by lia) (by lia) λd d0 d1=>?_;simp;generalize hm:2+d=m;have m0:2<=m:=by lia
 have m1:m<=o:=by lia
 symm;simp;refine cQ hd (by lia) (by lia) (by lia) λd2 _ _=>?_;simp;generalize(d2==0)=y;symm;simp;apply ak;simp;refine cQ hd (by lia) (by lia) (by lia) λN n0 n1=>?_;simp[show N<=1000000000 by lia];refine⟨by lia,?_⟩;refine kE (JNt m y _ _ _ _) ?_ ?_ ⟨[],.aW,.aW,.aW,.aW,.aW,.aW,rfl,⟨rfl,rfl,rfl,rfl,rfl,rfl⟩,by simp,rfl⟩
 . rintro i _ hi⟨ws,s7,s8,s9,qI,Oj,s12,rfl,⟨J,L,M,z,A,B⟩,hok,O⟩;simp[J];apply ak;simp[L];generalize hsp:(10:Int)+10*(i:Int)=sp;have U:0<=sp:=by lia
   symm;simp;refine cQ hd (by lia) (by lia) (by lia) λa C E=>?_;simp[M];apply ak;simp;refine cQ hd (by lia) (by lia) (by lia) λb b0 b1=>?_;obtain⟨t0,t1,W⟩:=other C E b0 (by lia);simp[show 0<m by lia,z,show m<1606938044258990275541962092341162602522202993782792835301376 by lia];generalize(a+1+b)%m=t at*;refine eO (λρ=>∃s t:Int,ρ=[.own bj (ds.map D.int),.val av (.int 0),.val av (.int o),.val av (.int q),.val av (.int m),.val av (.bl y),.own av (ws.map Wy.d),.val av (.int i),.val av (.int sp),.val av (.int s),.val av (.int t),Oj,s12]/\(0<=s/\s<m)/\(0<=t/\t<m)/\s≠t) ?_ ?_
   . simp;refine cQ hd (by lia) (by lia) (by lia) λc _ _=>?_;simp;refine⟨λ_=>?_,λ_=>?_⟩;.symm;simp;refine⟨_,_,⟨rfl,rfl⟩,?_⟩;split<;>split<;>lia
     .exact⟨_,_,⟨rfl,rfl⟩,⟨C,E⟩,⟨t0,t1⟩,λe=>W e.symm⟩
   rintro _⟨s,t,rfl,⟨s0,s1⟩,⟨t0,t1⟩,ne⟩;symm;simp;refine cQ hd (by lia) (by lia) (by lia) λc c0 c1=>?_;obtain⟨r,G,r0,r1⟩:=Bu (ns:=[0,1,2,3,4,1,2,7]) (lo:=0) (hi:=7) c0 (by simpa using c1) (by simp);simp only[dQ,ms]at G;simp[G,A];apply ak;simp;refine cQ hd (by lia) (by lia) (by lia) λc c0 c1=>?_;simp[B];generalize hh:1+c=hr;refine eO (λρ=>∃r h:Int,ρ=[.own bj (ds.map D.int),.val av (.int 0),.val av (.int o),.val av (.int q),.val av (.int m),.val av (.bl y),.own av (ws.map Wy.d),.val av (.int i),.val av (.int sp),.val av (.int s),.val av (.int t),.val av (.int r),.val av (.int h)]/\(0<=r/\r<=1000000000)/\(1<=h/\h<=1000000)) ?_ ?_;.cases y with|false=>simp;exact⟨_,_,⟨rfl,rfl⟩,by lia⟩|true=>simp;apply ak;simp;refine Aj I hd (by lia) (by lia) (by lia) λe X Y=>?_;simp;refine cQ hd (by lia) (by lia) (by lia) λc c0 c1=>?_;obtain⟨r',u,Z,ac⟩:=Bu (ns:=[r,1000000000-r,e]) (lo:=0) (hi:=1000000000) c0 (by simpa using c1) (by simp;lia);simp only[dQ,ms]at u;simp[u];apply ak;simp;refine cQ hd (by lia) (by lia) (by lia) λe X Y=>?_;simp;refine cQ hd (by lia) (by lia) (by lia) λc c0 c1=>?_;obtain⟨h',x,ae,af⟩:=Bu (ns:=[hr,1000000-hr,1+e]) (lo:=1) (hi:=1000000) c0 (by simpa using c1) (by simp;lia);simp only[dQ,ms]at x;simp[x];exact⟨_,_,⟨rfl,rfl⟩,by lia⟩
   rintro _⟨r,h,rfl,⟨r0,r1⟩,⟨h0,h1⟩⟩;symm;simp[show ws.length<16777216 by lia];refine⟨ws++[⟨s,t,r,h⟩],.val av (.int i),.val av (.int sp),.val av (.int s),.val av (.int t),.val av (.int r),.val av (.int h),by simp[Wy.d],⟨rfl,rfl,rfl,rfl,rfl,rfl⟩,λv hv=>?_,by simp;lia⟩;rcases eM.mp hv with hv|hv;.exact hok v hv
   .rw[dX.mp hv];exact⟨s0,s1,t0,t1,ne,r0,r1,h0,h1⟩
 .rintro _⟨ws,s7,s8,s9,qI,Oj,s12,rfl,_,hok,O⟩;have H:kY m ws:=⟨m0,by lia,by lia,hok⟩;symm;simp;refine zy H ?_;simp;exact k m ws H m1 (by lia)
noncomputable def iM(j:Nat)(f:Bool):D:=.tup [.int j,.bl f]
noncomputable def frm(v:Wy)(f:Bool):Int:=if f then v.s else v.t
noncomputable def too(v:Wy)(f:Bool):Int:=if f then v.t else v.s
theorem oU(e:ws[j]?=ap v)(k:Q (.val (.tup [.int (frm v f),.int (too v f)])) [.val av (aV m ws),.val av (iM j f)]):(run Γ w (n+1) 0 [.val av (aV m ws),.val av (iM j f)]).sat Q:=by refine aX (d:=f0) rfl rfl (by decide) ?_;symm;simp[f0,iM,dO e];apply ak;cases f with|true=>simp[Wy.d];exact k|false=>simp[Wy.d];exact k
noncomputable def hsp(v:Wy)(f:Bool):Int:=if f then v.h else-v.h
theorem wY(e:ws[j]?=ap v)(k:Q (.val (.int (hsp v f))) [.val av (aV m ws),.val av (iM j f)]):(run Γ w (n+1) 1 [.val av (aV m ws),.val av (iM j f)]).sat Q:=by refine aX (d:=f1) rfl rfl (by decide) ?_;symm;simp[f1,iM,dO e,Wy.d];apply ak;cases f with|true=>simp;exact k|false=>simp;exact k
noncomputable def SlL(s:Sl)(fs:List Int):Prop:=s=.val av (.lst (fs.map D.int))\/∃b,s=.own b (fs.map D.int)
noncomputable def vM(v:Wy)(g:Int)(f:Bool):Int:=if f then v.r-g else g
theorem wX{s:Sl}{fs:List Int}(hs:SlL s fs)(e:ws[j]?=ap v)(c:fs[j]?=ap g)(k:Q (.val (.int (vM v g f))) [.val av (aV m ws),s,.val av (iM j f)]):(run Γ w (n+1) 2 [.val av (aV m ws),s,.val av (iM j f)]).sat Q:=by refine aX (d:=f2) rfl rfl (by decide) ?_;symm;rcases hs with rfl|⟨b,rfl⟩;all_goals simp[f2,iM,dO c];apply ak;cases f with|true=>simp[dO e,Wy.d];exact k|false=>simp;exact k
@[simp]theorem adi{c:Call}{n x k:Nat}{src o:P}{is:List Nat}{one:Bool}{ρ:List Sl}:ex c n (.Nv x src k is one o) ρ=(srcOf (isVar src) (ev c src) ρ).bind λds e=>if ds.length<=lim then(jl is one (ev c o) ds [] (e++cp k .aW)).bind λq h=>(lift (put (bz ρ (isVar src) (h.take e.length)) x (.hold q)) ρ).bind λr _=>.ok .next r else .stuck:=(rfl)
@[simp]theorem adv{c:Call}{n:Nat}{src:P}{is:List Nat}{one:Bool}{body:List S}{ρ:List Sl}:ex c n (.Ik src is one body) ρ=(ev c src ρ).bind λr e=>(lift (items r.d) e).bind λds e=>lB is one (fJ c n body) ds e:=(rfl)
@[simp]theorem agO{c:Call}{n x:Nat}{ρ:List Sl}:ex c n (.eN x) ρ=match ρ[x]?with|some (.hold e)=>.ok .next (ρ.set x (.val av (.lst (e.map D.lst))))|_=>.stuck:=(rfl)
@[simp]theorem aep{c:Call}{n x:Nat}{i e:P}{ρ:List Sl}:ex c n (.Ny x i e) ρ=(dG (isVar i) (ev c i) ρ).bind λk ρ=>(lift (ye ρ x k) ρ).bind λ_ ρ=>(ev c e ρ).bind λr ρ=>Hv ρ x ((lM ρ x).bind λh=>(j9 k).bind λk=>lV h k λrow=>if row.length<lim then ap (row++[r.d])else none):=(rfl)
@[simp]theorem adq{a:Sl}{l:List Sl}{x:Nat}:lM (a::l) x=match(a::l)[x]?with|some (.hold c)=>ap c|_=>none:=rfl
@[simp]theorem Yw{ρ:List Sl}{x:Nat}{c:List (List D)}:Hv ρ x (ap c)=.ok .next (ρ.set x (.hold c)):=rfl
@[simp]theorem afB{a:Sl}{l:List Sl}{x:Nat}{k:Int}:ye (a::l) x (.int k)=match(a::l)[x]?with|some (.hold c)=>rowAt c k|_=>none:=by unfold ye lM;cases h:(a::l)[x]?with|none=>rfl|some s=>cases s<;>rfl
theorem uH{is:List Nat}{one:Bool}{q:Ev}(J:List Sl->Prop)(g:D->List D){Q:List (List D)->List Sl->Prop}:∀{ds:List D}{c:List (List D)}{ρ:List Sl},J ρ->(∀d,d∈ds->∀ρ,J ρ->∃o,cO ρ is one d=ap o/\(q o).sat λr s=>r=.own (g d)/\J s)->(∀ρ,J ρ->Q (c++ds.map g) ρ)->(jl is one q ds c ρ).sat Q|[],c,ρ,j,h,k=>by rw[Kq];simpa using k ρ j|d::r,c,ρ,j,h,k=>by obtain⟨o,e,h1⟩:=h d (by simp) ρ j;rw[Mu,e];show((q o).bind _).sat Q;rw[cX];refine h1.imp λx s⟨y,j3⟩=>?_;subst y;exact uH J g j3 (λd' t=>h d' (by simp[t])) λu z=>by simpa using k u z
@[simp]theorem agy{c:Call}{x:Nat}{k:P}{ρ:List Sl}:ev c (.T7 x k) ρ=match ρ[x]?with
 |some (.dM _)=>(dG (isVar k) (ev c k) ρ).bind λe ρ=>match ρ[x]?with|some (.dM kvs)=>lift ((j9 e).bind λk=>(qu kvs k).map .val) ρ|_=>.stuck
 |_=>.stuck:=(rfl)
noncomputable def vp(kvs:List (Int×D))(k:Int):Bool:=(kvs.map (·.1)).contains k
noncomputable def Oa(kvs:List (Int×D)):List Int:=kvs.map (·.1)
noncomputable def dsV(kvs:List (Int×D)):List D:=kvs.map (·.2)
@[simp]theorem agz{c:Call}{x:Nat}{k:P}{neg:Bool}{ρ:List Sl}:ev c (.T9 x k neg) ρ=(dG (isVar k) (ev c k) ρ).bind λe ρ=>match ρ[x]?with|some (.dM kvs)=>lift ((j9 e).map λk=>.val (.bl (if neg then !vp kvs k else vp kvs k))) ρ|_=>.stuck:=(rfl)
@[simp]theorem ac2{c:Call}{k e:Int}{ρ:List Sl}:ev c (.Dq k e) ρ=.ok (.val (.dv [k] [.int e])) ρ:=(rfl)
@[simp]theorem aiJ{c:Call}{x:Nat}{ρ:List Sl}:ev c (.vw x) ρ=match ρ[x]?with|some (.jE m)=>.ok (.val (.fZ m)) (ρ.set x (.val av (.fZ m)))|some (.dM kvs)=>.ok (.val (.dv (Oa kvs) (dsV kvs))) (ρ.set x (.val av (.dv (Oa kvs) (dsV kvs))))|some (.own b ds)=>.ok (.val (.lst ds)) (ρ.set x (.val b (.lst ds)))|some (.val _ d)=>.ok (.val d) ρ|_=>.stuck:=(rfl)
@[simp]theorem adp{c:Call}{n x:Nat}{ρ:List Sl}:ex c n (.Il x) ρ=match ρ[x]?with|some .aW=>.ok .next (ρ.set x (.dM []))|some (.dM _)=>.ok .next (ρ.set x (.dM []))|some (.val av _)=>.ok .next (ρ.set x (.dM []))|_=>.stuck:=(rfl)
@[simp]theorem aek{c:Call}{n x:Nat}{k e:P}{ρ:List Sl}:ex c n (.jF x k e) ρ=(ev c e ρ).bind λr ρ=>match ρ[x]?with
 |some (.dM _)=>(dG (isVar k) (ev c k) ρ).bind λh ρ=>match ρ[x]?,h with|some (.dM kvs),.int k=>if kvs.length<lim then .ok .next (ρ.set x (.dM (jF kvs k r.d)))else .stuck|_,_=>.stuck
 |_=>.stuck:=(rfl)
@[simp]theorem adY{c:Call}{n x:Nat}{i e:P}{sub:Bool}{ρ:List Sl}:ex c n (.Nt x i sub e) ρ=(lift (Iu ρ x) ρ).bind λ_ ρ=>(dG (isVar i) (ev c i) ρ).bind λk ρ=>(lift (Iu ρ x) ρ).bind λl ρ=>(lift ((j9 k).bind λi=>at' l i) ρ).bind λa ρ=>(dG (isVar e) (ev c e) ρ).bind λb ρ=>match a,b,ρ[x]?,k with
 |.int u,.int v,ap (.own h ds),.int k=>match lR ds.length k with|some j=>.ok .next (ρ.set x (.own h (ds.set j (.int (if sub then u-v else u+v)))))|none=>.stuck
 |_,_,_,_=>.stuck:=(rfl)
@[simp]theorem ZR{x:Nat}{k:P}:isVar (.T7 x k)=none:=rfl
@[simp]theorem YZ{x:Nat}{k:P}{b:Bool}:isVar (.T9 x k b)=none:=rfl
@[simp]theorem aaG{x:Nat}:isVar (.vw x)=none:=rfl
@[simp]theorem Xk{k e:Int}:isVar (.Dq k e)=none:=rfl
@[simp]theorem aga{kvs:List (Int×D)}:fr (.dM kvs)=av:=rfl
@[simp]theorem adR{r:List (List D)}:fr (.hold r)=av:=rfl
@[simp]theorem aad:vW .Dp=Fx:=rfl
@[simp]theorem adU:vW .din=zZ av:=rfl
@[simp]theorem aaq{ks:List Int}{ds:List D}{k:Int}:Fx (.dv ks ds) (.int k)=(qu (ks.zip ds) k).map .val:=rfl
@[simp]theorem adg{ks:List Int}{ds:List D}{k:Int}:zZ av (.int k) (.dv ks ds)=ap (.val (.bl (ks.contains k))):=rfl
@[simp]theorem YL{ks:List Int}{ds:List D}:blt .keys [.dv ks ds]=ap (.val (.tup (ks.map D.int))):=rfl
@[simp]theorem adS{ks:List Int}{ds:List D}:blt .Z2 [.dv ks ds]=if ks.length<=16777216 then ap (.own (ks.map D.int))else none:=rfl
@[simp]theorem aed{ds:List D}:blt .rvT [.lst ds]=ap (.val (.tup ds.reverse)):=rfl
@[simp]theorem Zo{kvs:List (Int×D)}{x:Option Sl}:dJ (.dM kvs) x=.dM kvs:=by cases x<;>rfl
@[simp]theorem Wb{r:List (List D)}{x:Option Sl}:dJ (.hold r) x=.hold r:=by cases x<;>rfl
structure HN(m:Int)(ws:List Wy):Prop where
 m0:2<=m
 m1:m<=6
 len:ws.length<=12
 ok:∀w∈ws,(0<=w.s/\w.s<m)/\(0<=w.t/\w.t<m)/\0<=w.h
theorem HN.of(h:kY m ws):HN m ws:=⟨h.m0,h.m1,h.len,λw c=>by have:=h.ok w c;exact⟨⟨this.s0,this.s1⟩,⟨this.t0,this.t1⟩,by have:=this.h0;lia⟩⟩
noncomputable abbrev aL:=Nat×Bool
variable{s:aL}{x:Nat×(Option aL×Int)}{o:Option aL×Int}{K:aL->Prop}{c:List aL}
noncomputable def sD(s:aL):D:=iM s.1 s.2
noncomputable def nj(ws:List Wy)(fs:List Int)(p:Int)(s:aL):Bool:=match ws[s.1]?,fs[s.1]?with|some v,ap g=>decide (frm v s.2=p)&&decide (0<vM v g s.2)|_,_=>av
theorem yl{fs:List Int}(e:ws[s.1]?=ap v)(h:fs[s.1]?=ap g):nj ws fs p s=(decide (frm v s.2=p)&&decide (0<vM v g s.2)):=by unfold nj;rw[e,h]
noncomputable def mH(ws:List Wy)(fs:List Int)(M:Nat)(l:List aL):List (List aL):=(eu M).map λ(p:Nat)=>l.filter (nj ws fs (p:Int))
noncomputable def rD(l:List (List aL)):List (List D):=l.map λr=>r.map sD
noncomputable def jT(N:Nat):List aL:=(eu N).flatMap λj=>[(j,bj),(j,av)]
theorem wj:jT (N+1)=(jT N++[(N,bj)])++[(N,av)]:=by simp[jT,List.range_succ]
theorem Ax:(jT N).length=2*N:=by induction N with|zero=>rfl|succ N e=>rw[wj];simp[e];lia
theorem We(h:HN m ws)(e:ws[j]?=ap v)(f:Bool):0<=frm v f/\frm v f<m:=by have:=h.ok v (du e);cases f<;>simp only[frm]<;>simp<;>lia
theorem Mj(h:HN m ws)(e:ws[j]?=ap v)(f:Bool):0<=too v f/\too v f<m:=by have:=h.ok v (du e);cases f<;>simp only[too]<;>simp<;>lia
theorem J2{fs:List Int}{M:Nat}{l:List aL}(e:ws[s.1]?=ap v)(q:fs[s.1]?=ap g)(h:¬ 0<vM v g s.2):mH ws fs M (l++[s])=mH ws fs M l:=by unfold mH;refine hU λp _=>?_;rw[lh];simp[yl e q,h]
theorem Pk{fs:List Int}{l:List aL}(e:ws[s.1]?=ap v)(r:fs[s.1]?=ap g)(h:0<vM v g s.2)(t:0<=frm v s.2/\frm v s.2<m)(A:l.length<1000):(∃row,rowAt (rD (mH ws fs m.toNat l)) (frm v s.2)=ap row)/\lV (rD (mH ws fs m.toNat l)) (frm v s.2) (λrow=>if row.length<lim then ap (row++[sD s])else none)=ap (rD (mH ws fs m.toNat (l++[s]))):=by
 have q:(rD (mH ws fs m.toNat l)).length=m.toNat:=by simp[rD,mH]
 have u:lR (rD (mH ws fs m.toNat l)).length (frm v s.2)=ap (frm v s.2).toNat:=by unfold lR;rw[q,if_pos t.1,if_pos (by lia)]
 have y:(rD (mH ws fs m.toNat l))[(frm v s.2).toNat]?=ap ((l.filter (nj ws fs (frm v s.2))).map sD):=by simp[rD,mH,show(frm v s.2).toNat<m.toNat by lia,oP t.1]
 refine⟨⟨_,by unfold rowAt;rw[u];exact y⟩,?_⟩;unfold lV;rw[u];show((rD (mH ws fs m.toNat l))[(frm v s.2).toNat]?).bind _=_;rw[y];have z:((l.filter (nj ws fs (frm v s.2))).map sD).length<lim:=by have:=og (nj ws fs (frm v s.2)) l;rw[dV];show _<16777216;lia
 show Option.map _ (if _ then _ else _)=_;rw[if_pos z];show ap _=ap _;congr 1;refine ln (by simp[rD,mH]) λi B C=>?_;rw[List.getElem_set];by_cases c:(frm v s.2).toNat=i
 . rw[if_pos c];have:(i:Int)=frm v s.2:=by lia
   simp[rD,mH,this,lh,yl e r,h]
 . rw[if_neg c];have:¬ frm v s.2=(i:Int):=by lia
   simp[rD,mH,lh,yl e r,this]
inductive JOp(m:Int)(ws:List Wy)(fs:List Int)(s:Sl)(i:Nat)(ρ:List Sl):Prop where|mk(s3 s4:Sl)(q0:ρ=[.val av (aV m ws),s,.hold (rD (mH ws fs m.toNat (jT i))),s3,s4])(q1:fr s3=bj)(q2:fr s4=bj)
inductive JOq(m:Int)(ws:List Wy)(fs:List Int)(s:Sl)(i:Nat)(r:List D)(ρ:List Sl):Prop where|mk(l us:List aL)(s4:Sl)(q0:ρ=[.val av (aV m ws),s,.hold (rD (mH ws fs m.toNat l)),.val av (.int i),s4])(q1:fr s4=bj)(q2:r=us.map sD)(q3:l++us=jT (i+1))(q4:∀u∈us,u.1=i)
inductive F1n(a b c d e:Sl)(ρ:List Sl):Prop where|mk(s:Sl)(q0:ρ=[a,b,c,d,e,s])(q1:fr s=bj)
theorem Kg{s:Sl}{fs:List Int}(hs:SlL s fs)(h:HN m ws)(U:fs.length=ws.length)(k:Q (.val (.lst ((rD (mH ws fs m.toNat (jT ws.length))).map D.lst))) [.val av (aV m ws),s]):(run Γ w (n+2) 4 [.val av (aV m ws),s]).sat Q:=by
 have W:=h.len;have m0:=h.m0;have m1:=h.m1;refine aX (d:=f4) rfl rfl (by decide) ?_;refine eO (λρ=>ρ=[.val av (aV m ws),s,.hold (rD (mH ws fs m.toNat (jT 0))),.aW,.aW]) ?_ ?_
 . simp[f4,show m<=1000000000 by lia,show-1000000000<=m by lia];refine⟨λ_=>?_,by lia⟩;rw[cX];refine uH (F1n _ _ _ _ _) (λ_=>[]) ⟨.aW,rfl,rfl⟩ ?_ ?_;.rintro d hd _⟨J,rfl,t⟩;simp[t];exact⟨_,rfl,rfl⟩
   .rintro _⟨J,rfl,t⟩;simp[rD,mH,jT]
 rintro _ rfl;refine eO (JOp m ws fs s ws.length) ?_ ?_
 . simp[show(ws.length:Int)<=1000000000 by lia];refine kE (JOp m ws fs s) ?_ ?_ ⟨.aW,.aW,rfl,rfl,rfl⟩
   . rintro i _ hi⟨s3,s4,rfl,B,q⟩;have E:i<fs.length:=by lia
     have y:ws[i]?=ap ws[i]:=by simp[hi]
     have G:fs[i]?=ap fs[i]:=by simp[E]
     generalize ws[i]=v at*;generalize fs[i]=g at*;simp[B];apply ak;simp;refine eV (JOq m ws fs s i) ?_ ?_ ⟨jT i,[(i,bj),(i,av)],s4,rfl,q,rfl,by rw[wj];simp,by simp⟩;.rintro d r _⟨l,e,s4,rfl,q,hr,z,C⟩;cases e with|nil=>cases hr|cons u e=>
         obtain⟨rfl,rfl⟩:d=sD u/\r=e.map sD:=by simpa using hr
         obtain rfl:=C u (by simp);have A:(l++[u])++e=jT (u.1+1):=by rw[ia];exact z
         have H:l.length<1000:=by have:=congrArg kG z;rw[Ax]at this;simp at this;lia
         simp[q];apply ak;rcases hs with rfl|⟨b,rfl⟩;all_goals
          simp[sD];refine wX (by first|exact .inl rfl|exact .inr ⟨_,rfl⟩) y G ?_;simp;refine⟨λho=>?_,λho=>?_⟩;.obtain⟨⟨row,L⟩,M⟩:=Pk (ws:=ws) (fs:=fs) (l:=l) y G ho (We h y u.2) H;symm;simp;refine oU y ?_;simp[L];have O:lV (rD (mH ws fs m.toNat l)) (frm v u.2) (λrow=>if row.length<lim then ap (row++[iM u.1 u.2])else none)=_:=M;rw[O];simp;exact⟨l++[u],e,_,rfl,rfl,rfl,A,λx I=>C x (by simp[I])⟩
          .exact⟨l++[u],e,_,by rw[J2 y G (by lia)],rfl,rfl,A,λx I=>C x (by simp[I])⟩
     . rintro _⟨l,e,s4,rfl,q,hr,z,C⟩;have:e=[]:=by cases e with|nil=>rfl|cons _ _=>cases hr
       subst this;rw[hZ]at z;subst z;simp;exact⟨_,_,rfl,rfl,q⟩
   .rintro _⟨s3,s4,rfl,B,q⟩;exact⟨rfl,_,_,rfl,B,q⟩
 rintro _⟨s3,s4,rfl,B,q⟩;symm;simp;apply ak;simp;exact k
noncomputable abbrev En:=Int×Nat×(Option aL×Int)
variable{es xr:List En}
noncomputable def oS:Option aL->D|none=>.non|some s=>sD s
noncomputable def Ep(e:En):D:=.tup [.int e.2.2.2,.int (e.2.1:Int),oS e.2.2.1]
noncomputable def en(e:En):Int×D:=(e.1,Ep e)
noncomputable def rA(es:List En):D:=.dv (es.map (·.1)) (es.map Ep)
noncomputable def BP(p:Int):Int×D:=(p,.bl bj)
@[simp]theorem Wd{l:List Int}:Oa (l.map BP)=l:=by simp[Oa,BP,k9]
theorem Ci{l:List En}:Oa (l.map en)=l.map (·.1):=by simp[Oa,en,k9]
theorem Cu{l:List En}:vp (l.map en) p=bj↔∃n o,(p,n,o)∈l:=by show(Oa (l.map en)).contains p=bj↔_;rw[Ci];simp
theorem kin_no{l:List En}(h:¬ ∃n o,(p,n,o)∈l):vp (l.map en) p=av:=by cases e:vp (l.map en) p with|false=>rfl|true=>exact absurd (Cu.mp e) h
theorem xX{r:Type}{p:Int}{x y:r}:∀{l:List (Int×r)},(l.map (·.1)).Nodup->(p,x)∈l->(p,y)∈l->x=y
 |[],_,h,_=>by cases h|e::l,q,h1,h2=>by
   rw[dQ,fc]at q;rcases de.mp h1 with h1|h1<;>rcases de.mp h2 with h2|h2;.rw[<-h2]at h1;cases h1;rfl
   .exact absurd (ej.mpr ⟨_,h2,by rw[<-h1]⟩) q.1
   .exact absurd (ej.mpr ⟨_,h1,by rw[<-h2]⟩) q.1
   .exact xX q.2 h1 h2
theorem tU{p:Int}{x:Nat×(Option aL×Int)}:∀{l:List En},(l.map (·.1)).Nodup->(p,x)∈l->qu (l.map en) p=ap (Ep (p,x))
 |[],_,h=>by cases h|e::l,r,h=>by
   have t:=r;rw[dQ,fc]at r;unfold qu;rw[dQ,hV];by_cases c:e.1=p;.obtain⟨q,y⟩:=e;cases c;have:=xX t h (by simp:(q,y)∈(q,y)::l);subst this;simp[en]
   . have h':(p,x)∈l:=by
      rcases de.mp h with h|h;.exact absurd (by rw[<-h]) c
      .exact h
     simp[en,c];have:=tU r.2 h';unfold qu at this;simpa[en]using this
theorem zK{kvs:List (Int×D)}{d:D}(h:vp kvs p=av):jF kvs p d=kvs++[(p,d)]:=by
 unfold jF;rw[if_neg];intro q;obtain⟨x,r,e⟩:=l9.mp q;have:vp kvs p=bj:=by show(kvs.map (·.1)).contains p=bj;rw[ip];exact ej.mpr ⟨x,r,by simpa using e⟩
 rw[this]at h;cases h
theorem Af{kvs:List (Int×D)}{d:D}(h:vp kvs p=bj):jF kvs p d=kvs.map λe=>if e.1=p then(p,d)else e:=by
 unfold jF;rw[if_pos]
 . refine hU λe _=>?_;by_cases c:e.1=p;.simp[c]
   .simp[c]
 .have h':(kvs.map (·.1)).contains p=bj:=h;rw[ip]at h';obtain⟨x,q,e⟩:=ej.mp h';exact l9.mpr ⟨x,q,by simpa using e⟩
noncomputable def zm(p:Int)(x:Nat×(Option aL×Int))(e:En):En:=if e.1=p then(p,x)else e
noncomputable def rO(es:List En)(p:Int)(x:Nat×(Option aL×Int)):List En:=if p∈es.map (·.1)then es.map (zm p x)else es++[(p,x)]
noncomputable def uG(ch:List Int)(p:Int):List Int:=if p∈ch then ch else ch++[p]
theorem Ou:jF (es.map en) p (Ep (p,x))=(rO es p x).map en:=by
 have h:vp (es.map en) p=bj↔p∈es.map (·.1):=by show(Oa (es.map en)).contains p=bj↔_;rw[Ci,ip]
 unfold rO;by_cases c:p∈es.map (·.1)
 . rw[if_pos c,Af (h.mpr c),fe,fe];refine hU λe _=>?_;show(if e.1=p then _ else _)=en (zm p x e);unfold zm;by_cases z:e.1=p;.rw[if_pos z,if_pos z];rfl
   .rw[if_neg z,if_neg z]
 .rw[if_neg c,zK (by cases e:vp (es.map en) p with|false=>rfl|true=>exact absurd (h.mp e) c)];simp[en]
theorem Ru:jF (ch.map BP) p (.bl bj)=(uG ch p).map BP:=by
 have h:vp (ch.map BP) p=bj↔p∈ch:=by show(Oa (ch.map BP)).contains p=bj↔_;rw[Wd,ip]
 unfold uG;by_cases c:p∈ch
 . rw[if_pos c,Af (h.mpr c),fe];refine hU λe _=>?_;show(if e=p then _ else _)=BP e;by_cases z:e=p;.rw[if_pos z,z];rfl
   .rw[if_neg z]
 .rw[if_neg c,zK (by cases e:vp (ch.map BP) p with|false=>rfl|true=>exact absurd (h.mp e) c)];simp[BP]
theorem zT{q:Int}:q∈uG ch p↔q∈ch\/q=p:=by
 unfold uG;split;.exact⟨.inl,λh=>h.elim id λe=>by rw[e];assumption⟩
 .simp
theorem Fj(h:ch.Nodup):(uG ch p).Nodup:=by
 unfold uG;split;.exact h
 .rename_i q;rw[lJ];exact⟨h,by simp,λa r b t e=>q (by rw[<-dX.mp t,<-e];exact r)⟩
theorem G4:(rO es p x).map (·.1)=uG (es.map (·.1)) p:=by
 unfold rO uG;split
 . rw[fe];refine hU λe _=>?_;show(zm p x e).1=e.1;unfold zm;split;.rename_i h;exact h.symm
   .rfl
 .simp
theorem jk{q:Int}{y:Nat×(Option aL×Int)}:(q,y)∈rO es p x↔(q=p/\y=x)\/(q≠p/\(q,y)∈es):=by
 unfold rO;split
 . rename_i r;obtain⟨B,t,u⟩:=ej.mp r;rw[ej];constructor
   . rintro⟨e,he,h⟩;unfold zm at h;split at h;.cases h;exact .inl ⟨rfl,rfl⟩
     .rename_i z;subst h;exact .inr ⟨z,he⟩
   . rintro(⟨rfl,rfl⟩|⟨h1,A⟩);.exact⟨B,t,by unfold zm;rw[if_pos u]⟩
     .exact⟨_,A,by unfold zm;rw[if_neg h1]⟩
 . rename_i r;rw[eM,dX];constructor
   . rintro(h|h);.refine .inr ⟨λe=>r ?_,h⟩;rw[<-e];exact ej.mpr ⟨_,h,rfl⟩
     .cases h;exact .inl ⟨rfl,rfl⟩
   . rintro(⟨rfl,rfl⟩|⟨_,A⟩);.exact .inr rfl
     .exact .inl A
theorem u6{h:Type}[BEq h][LawfulBEq h]:∀{l l2:List h},l.Nodup->(∀a∈l,a∈l2)->l.length<=l2.length
 |[],_,_,_=>xu|a::l,l2,u,hs=>by
   have r:=hs a (by simp);have e:=fc.mp u;have:=u6 (l:=l) (l2:=l2.erase a) e.2 λb t=>by
    have q:b≠a:=by rintro rfl;exact e.1 t
    exact(List.mem_erase_of_ne q).mpr (hs b (by simp[t]))
   rw[List.length_erase_of_mem r]at this;have:=List.length_pos_of_mem r;simp only[eS];lia
theorem six{l:List Int}(m1:m<=6)(e:l.Nodup)(h:∀p∈l,0<=p/\p<m):l.length<=6:=by
 have:=u6 (l2:=[0,1,2,3,4,5]) e λq r=>by
  have:=h q r;have:q=0\/q=1\/q=2\/q=3\/q=4\/q=5:=by lia
  simpa using this
 simpa using this
theorem uB{fs:List Int}(h:nj ws fs p s=bj):∃v g,ws[s.1]?=ap v/\fs[s.1]?=ap g/\frm v s.2=p/\0<vM v g s.2:=by
 unfold nj at h;split at h;.rename_i v g e q;simp at h;exact⟨v,g,e,q,h.1,h.2⟩
 .cases h
theorem zx(h:s.1<N):s∈jT N:=by unfold jT;rw[List.mem_flatMap];refine⟨s.1,by simp[h],?_⟩;obtain⟨j,f⟩:=s;cases f<;>simp
noncomputable def m9(ws:List Wy)(b:Int):List aL->Int->Prop|[],a=>a=b|s::c,a=>∃v,ws[s.1]?=ap v/\frm v s.2=a/\m9 ws b c (too v s.2)
noncomputable def hst(ws:List Wy)(s:aL):Int:=match ws[s.1]?with|some v=>hsp v s.2|none=>0
theorem mK(e:ws[s.1]?=ap v):hst ws s=hsp v s.2:=by unfold hst;rw[e]
noncomputable def iw(ws:List Wy):List aL->Int|[]=>0|s::c=>hst ws s+iw ws c
theorem nH{ws:List Wy}{c2:List aL}:∀{c1:List aL},iw ws (c1++c2)=iw ws c1+iw ws c2|[]=>by simp[iw]|s::c=>by rw[l8,iw,nH,iw];lia
noncomputable def zV(ws:List Wy)(fs:List Int)(c:List aL):Prop:=∀s∈c,∃v,ws[s.1]?=ap v/\nj ws fs (frm v s.2) s=bj
theorem m9.app{ws:List Wy}{b q:Int}{c2:List aL}(r:m9 ws b c2 q):∀{c1:List aL}{a:Int},m9 ws q c1 a->m9 ws b (c1++c2) a|[],a,h=>by have:a=q:=h;rw[this];exact r|s::c,a,⟨v,e,t,h⟩=>⟨v,e,t,m9.app r h⟩
theorem Gy{ws:List Wy}{b:Int}{c2:List aL}:∀{c1:List aL}{a:Int},m9 ws b (c1++c2) a->∃q,m9 ws q c1 a/\m9 ws b c2 q|[],a,h=>⟨a,rfl,h⟩|s::c,a,⟨v,e,r,h⟩=>by obtain⟨q,h1,t⟩:=Gy (c1:=c) h;exact⟨q,⟨v,e,r,h1⟩,t⟩
noncomputable def Pt(ws:List Wy)(fs:List Int)(F:Int->Int):Prop:=∀(s:aL)(v:Wy),ws[s.1]?=ap v->nj ws fs (frm v s.2) s=bj->F (too v s.2)<=F (frm v s.2)+hsp v s.2
theorem qm{ws:List Wy}{fs:List Int}{F:Int->Int}(h:Pt ws fs F){b:Int}:∀{c:List aL}{a:Int},m9 ws b c a->zV ws fs c->F b<=F a+iw ws c|[],a,q,_=>by have:a=b:=q;rw[this,iw];lia|s::c,a,⟨v,e,t,q⟩,ho=>by have h1:=qm h q λu y=>ho u (dL _ y);obtain⟨A,r,o⟩:=ho s (by simp);rw[e]at r;cases r;have z:=h s v e o;rw[t]at z;rw[iw,mK e];lia
noncomputable def Dj(ws:List Wy)(s:aL):Int:=match ws[s.1]?with|some v=>too v s.2|none=>0
noncomputable def Ey(ws:List Wy):List aL->Int->List Int|[],a=>[a]|s::c,a=>a::Ey ws c (Dj ws s)
theorem Ei{ws:List Wy}:∀{c:List aL}{a:Int},(Ey ws c a).length=c.length+1|[],_=>rfl|s::c,a=>by rw[Ey,eS,Ei];rfl
theorem K7{m:Int}{ws:List Wy}{b:Int}(r:HN m ws):∀{c:List aL}{a:Int},m9 ws b c a->0<=a/\a<m->∀q∈Ey ws c a,0<=q/\q<m
 |[],a,_,h,q,hq=>by rw[Ey,dX]at hq;rw[hq];exact h|s::c,a,⟨v,e,u,t⟩,h,q,hq=>by
   rw[Ey,de]at hq;rcases hq with rfl|hq;.exact h
   . have:Dj ws s=too v s.2:=by unfold Dj;rw[e]
     rw[this]at hq;exact K7 r t (Mj r e s.2) q hq
theorem Gh{ws:List Wy}{b q:Int}:∀{c:List aL}{a:Int},m9 ws b c a->q∈Ey ws c a->∃c1 c2,c=c1++c2/\m9 ws q c1 a/\m9 ws b c2 q
 |[],a,h,hq=>by rw[Ey,dX]at hq;exact⟨[],[],rfl,hq.symm,by rw[hq];exact h⟩|s::c,a,h,hq=>by
   rw[Ey,de]at hq;rcases hq with rfl|hq;.exact⟨[],s::c,rfl,rfl,h⟩
   . obtain⟨v,e,r,t⟩:=h;have:Dj ws s=too v s.2:=by unfold Dj;rw[e]
     rw[this]at hq;obtain⟨c1,c2,rfl,h1,u⟩:=Gh t hq;exact⟨s::c1,c2,rfl,⟨v,e,r,h1⟩,u⟩
theorem Gq{ws:List Wy}{b:Int}:∀{c:List aL}{a:Int},m9 ws b c a->¬(Ey ws c a).Nodup->∃c1 c2 c3 q,c=c1++(c2++c3)/\0<c2.length/\m9 ws q c1 a/\m9 ws q c2 q/\m9 ws b c3 q
 |[],a,_,h=>absurd (by simp[Ey]) h|s::c,a,⟨v,e,t,u⟩,h=>by
   have A:Dj ws s=too v s.2:=by unfold Dj;rw[e]
   rw[Ey,A,fc]at h;by_cases y:a∈Ey ws c (too v s.2);.obtain⟨c1,c2,rfl,h1,r⟩:=Gh u y;exact⟨[],s::c1,c2,a,rfl,by simp,rfl,⟨v,e,t,h1⟩,r⟩
   .obtain⟨c1,c2,c3,q,rfl,h0,h1,r,B⟩:=Gq u λz=>h ⟨y,z⟩;exact⟨s::c1,c2,c3,q,rfl,h0,⟨v,e,t,h1⟩,r,B⟩
noncomputable def Le(h:Int)(n:Nat)(h':Int)(e:Nat):Prop:=h<h'\/(h=h'/\n<=e)
theorem Le.refl{h:Int}:Le h n h n:=.inr ⟨rfl,eU⟩
theorem Le.trans{c:Int}(h1:Le a k b l)(e:Le b l c n):Le a k c n:=by unfold Le at*;lia
theorem Le.add(x:Int)(h1:Le a k b l):Le (a+x) (k+1) (b+x) (l+1):=by unfold Le at*;lia
theorem short{fs:List Int}(u:HN m ws)(h:Pt ws fs F)(y:0<=a/\a<m):∀(n:Nat){c:List aL},c.length<=n->m9 ws b c a->zV ws fs c->∃e,m9 ws b e a/\zV ws fs e/\e.length<=5/\Le (iw ws e) e.length (iw ws c) c.length:=by intro n;induction n with|zero=>intro c hc r ho;exact⟨c,r,ho,by lia,.refl⟩|succ n A=>
   intro c hc r ho;by_cases B:c.length<=5;.exact⟨c,r,ho,B,.refl⟩
   . have C:¬(Ey ws c a).Nodup:=λz=>by have:=six u.m1 z (K7 u r y);rw[Ei]at this;lia
     obtain⟨c1,c2,c3,q,rfl,h0,h1,E,G⟩:=Gq r C;have t:zV ws fs c2:=λs hs=>ho s (by simp[hs]);have hr:=qm h E t;simp only[d_]at hc;obtain⟨e,H,I,J,L⟩:=A (c:=c1++c3) (by simp only[d_];lia) (m9.app G h1) λs hs=>ho s (by rcases eM.mp hs with hs|hs<;>simp[hs]);refine⟨e,H,I,J,L.trans ?_⟩;rw[nH,nH,nH];simp only[d_];unfold Le;lia
structure Y6(m:Int)(ws:List Wy)(fs:List Int)(es:List En):Prop where
 nd:(es.map (·.1)).Nodup
 inm:∀p l o,(p,l,o)∈es->0<=p/\p<m
 z:(0,0,(none,0))∈es
 wk:∀p l o,(p,l,o)∈es->∃c,m9 ws p c 0/\zV ws fs c/\c.length=l/\iw ws c=o.2
 stp:∀p l o,(p,l,o)∈es->(o.1=none/\p=0/\l=0)\/∃(s:aL)(v:Wy)(l':Nat)(o':Option aL×Int),o.1=ap s/\ws[s.1]?=ap v/\too v s.2=p/\nj ws fs (frm v s.2) s=bj/\(frm v s.2,l',o')∈es/\Le (o'.2+hsp v s.2) (l'+1) o.2 l
theorem Y6.len{fs:List Int}(h:Y6 m ws fs es)(m1:m<=6):es.length<=6:=by
 have:=six m1 h.nd λp e=>by obtain⟨⟨p,l,o⟩,he,rfl⟩:=ej.mp e;exact h.inm p l o he
 simpa using this
theorem mU{l:List En}{a b:Nat}{u:Option aL×Int}(e:(l.map (·.1)).Nodup)(h1:(p,a,o)∈l)(h:(p,b,u)∈l):a=b/\o=u:=by have:=xX e h1 h;cases this;exact⟨rfl,rfl⟩
noncomputable def At(es:List En)(p h:Int)(n:Nat):Prop:=∃l o,(p,l,o)∈es/\Le o.2 l h n
theorem At.le{h h':Int}{e:Nat}(a:At es p h n)(z:Le h n h' e):At es p h' e:=by obtain⟨l,o,h1,q⟩:=a;exact⟨l,o,h1,q.trans z⟩
structure Wh(m:Int)(ws:List Wy)(fs:List Int)(n:Nat)(R:List Int)(es:List En):Prop where
 cm:Y6 m ws fs es
 row:∀p∈R,∃l o,(p,l,o)∈es
 nr:R.Nodup
 wl:∀c p,m9 ws p c 0->zV ws fs c->c.length<=n->At es p (iw ws c) c.length
 cl:∀l o(s:aL)v,ws[s.1]?=ap v->frm v s.2∉R->(frm v s.2,l,o)∈es->nj ws fs (frm v s.2) s=bj->At es (too v s.2) (o.2+hsp v s.2) (l+1)few:6<=n->R=[]
structure In(m:Int)(ws:List Wy)(fs:List Int)(n:Nat)(R:List Int)(xr:List En)(K:aL->Prop)(es:List En)(ch:List Int):Prop where
 wh:Wh m ws fs n R xr
 cm:Y6 m ws fs es
 le:∀p l o,(p,l,o)∈xr->At es p o.2 l
 out:∀p l o,p∉ch->(p,l,o)∈es->(p,l,o)∈xr
 chg:∀p∈ch,∃l o,(p,l,o)∈es
 nc:ch.Nodup
 dn:∀s,K s->∀v,ws[s.1]?=ap v->∀l o,(frm v s.2,l,o)∈xr->At es (too v s.2) (o.2+hsp v s.2) (l+1)few:5<=n->ch=[]
theorem In.row{m:Int}{ws:List Wy}{fs:List Int}{n:Nat}{R:List Int}{xr:List En}{K:aL->Prop}{es:List En}{ch:List Int}(h:In m ws fs n R xr K es ch){p:Int}(e:p∈R):∃l o,(p,l,o)∈es:=by obtain⟨l,o,z⟩:=h.wh.row p e;obtain⟨l,o,z,_⟩:=h.le _ _ _ z;exact⟨l,o,z⟩
theorem In.keep{fs:List Int}{R:List Int}(h:In m ws fs n R xr K es ch)(e:ws[s.1]?=ap v)(t:(frm v s.2,l,o)∈es)(y:At es (too v s.2) (o.2+hsp v s.2) (l+1)):In m ws fs n R xr (λu=>K u\/u=s) es ch:=by
 refine⟨h.wh,h.cm,h.le,h.out,h.chg,h.nc,λu q=>?_,h.few⟩;rcases q with q|rfl;.exact h.dn u q
 .intro B r C E h0;rw[e]at r;cases r;obtain⟨G,H,z,A⟩:=h.le _ _ _ h0;obtain⟨rfl,rfl⟩:=mU h.cm.nd t z;exact y.le (A.add _)
theorem In.put{fs:List Int}{R:List Int}(h:In m ws fs n R xr K es ch)(G:HN m ws)(X:Pt ws fs F)(e:ws[s.1]?=ap v)(H:(frm v s.2,l,o)∈es)(ho:nj ws fs (frm v s.2) s=bj)(I:¬ At es (too v s.2) (o.2+hsp v s.2) (l+1)):In m ws fs n R xr (λu=>K u\/u=s) (rO es (too v s.2) (l+1,(ap s,o.2+hsp v s.2))) (uG ch (too v s.2)):=by
 have m0:=G.m0;obtain⟨c,c1,c2,c3,c4⟩:=h.cm.wk _ _ _ H;have J:m9 ws (too v s.2) (c++[s]) 0:=m9.app (c2:=[s]) ⟨v,e,rfl,rfl⟩ c1;have L:zV ws fs (c++[s]):=λu hu=>by
  rcases eM.mp hu with hu|hu;.exact c2 u hu
  .rw[dX.mp hu];exact⟨v,e,ho⟩
 have Y:(c++[s]).length=l+1:=by simp[c3]
 have M:iw ws (c++[s])=o.2+hsp v s.2:=by rw[nH,c4,iw,iw,mK e];lia
 have new:(too v s.2,l+1,(ap s,o.2+hsp v s.2))∈rO es (too v s.2) (l+1,(ap s,o.2+hsp v s.2)):=jk.mpr (.inl ⟨rfl,rfl⟩);have mono:∀{q l2 r},(q,l2,r)∈es->At (rO es (too v s.2) (l+1,(ap s,o.2+hsp v s.2))) q r.2 l2:=λ{q l2 r}z=>by
  by_cases c:q=too v s.2;.subst c;refine⟨_,_,new,?_⟩;have:¬ Le r.2 l2 (o.2+hsp v s.2) (l+1):=λy=>I ⟨_,_,z,y⟩;unfold Le at this ⊢;simp only;lia
  .exact⟨l2,r,jk.mpr (.inr ⟨c,z⟩),.refl⟩
 have Z:∀{q h n},At es q h n->At (rO es (too v s.2) (l+1,(ap s,o.2+hsp v s.2))) q h n:=λ⟨l2,r,B,O⟩=>(mono B).le O;refine⟨h.wh,⟨by rw[G4];exact Fj h.cm.nd,λp l o z=>?_,?_,λp l2 r z=>?_,λp l2 r z=>?_⟩,λp l o z=>Z (h.le p l o z),λp l o hc z=>?_,λp hc=>?_,Fj h.nc,λu hu=>?_,λh5=>?_⟩
 . rcases jk.mp z with⟨rfl,_⟩|⟨_,z⟩;.exact Mj G e s.2
   .exact h.cm.inm p l o z
 .refine jk.mpr (.inr ⟨λz=>I ?_,h.cm.z⟩);have:=qm X J L;rw[<-z,M]at this;rw[<-z];exact⟨_,_,h.cm.z,by unfold Le;simp only;lia⟩
 . rcases jk.mp z with⟨rfl,y⟩|⟨_,z⟩;.cases y;exact⟨_,J,L,Y,M⟩
   .exact h.cm.wk p l2 r z
 . rcases jk.mp z with⟨rfl,y⟩|⟨_,z⟩;.cases y;obtain⟨l',o',t,A⟩:=mono H;exact .inr ⟨s,v,l',o',rfl,e,rfl,ho,t,A.add _⟩
   . rcases h.cm.stp p l2 r z with z|⟨s',C,l',o',B,z3,z4,z5,z6,z7⟩;.exact .inl z
     .obtain⟨U,W,t,A⟩:=mono z6;exact .inr ⟨s',C,U,W,B,z3,z4,z5,t,(A.add _).trans z7⟩
 . rw[zT,not_or]at hc;rcases jk.mp z with⟨rfl,_⟩|⟨_,z⟩;.exact absurd rfl hc.2
   .exact h.out p l o hc.1 z
 . rcases zT.mp hc with hc|rfl;.obtain⟨l2,r,z⟩:=h.chg p hc;obtain⟨U,W,z,_⟩:=mono z;exact⟨U,W,z⟩
   .exact⟨_,_,new⟩
 . rcases hu with hu|rfl;.exact λC E l0 o0 h0=>Z (h.dn u hu C E l0 o0 h0)
   .intro C E l0 o0 h0;rw[e]at E;cases E;obtain⟨l1,o1,t,A⟩:=h.le _ _ _ h0;obtain⟨rfl,rfl⟩:=mU h.cm.nd H t;exact⟨_,_,new,A.add _⟩
 .obtain⟨c',t,A,q3,q4⟩:=short G X ⟨by lia,by lia⟩ _ (eU) J L;obtain⟨l1,o1,B,O⟩:=h.wh.wl c' _ t A (by lia);rw[Y,M]at q4;exact absurd ((h.le _ _ _ B).le (O.trans q4)) I
theorem Wh.start{fs:List Int}(m0:2<=m):Wh m ws fs 0 [0] [(0,0,(none,0))]:=by
 refine⟨⟨by simp,λp l o z=>?_,by simp,λp l o z=>?_,λp l o z=>.inl ?_⟩,λp e=>?_,by simp,λc p e _ hc=>?_,λl o s v _ q z=>?_,λh=>by lia⟩;.simp at z;lia
 .simp at z;obtain⟨rfl,rfl,rfl⟩:=z;exact⟨[],rfl,λs hs=>(by cases hs),rfl,rfl⟩
 .simp at z;obtain⟨rfl,rfl,rfl⟩:=z;exact⟨rfl,rfl,rfl⟩
 .simp at e;subst e;exact⟨0,(none,0),by simp⟩
 .cases c with|nil=>have:(0:Int)=p:=e;subst this;exact⟨0,(none,0),by simp,.refl⟩|cons _ _=>simp at hc
 .simp at z q;exact absurd z.1 q
theorem Wh.to{fs:List Int}{R:List Int}(h:Wh m ws fs n R es):In m ws fs n R es (λ_=>False) es []:=⟨h,h.cm,λp l o z=>⟨l,o,z,.refl⟩,λp l o _ z=>z,λp e=>(by cases e),.nil,λs hs=>hs.elim,λ_=>rfl⟩
theorem In.out'{fs:List Int}{R:List Int}(h:In m ws fs n R xr (λs=>∃p∈R,nj ws fs p s=bj) es ch):Wh m ws fs (n+1) ch es:=by
 have r:∀{p h' k},At xr p h' k->At es p h' k:=λ⟨l,o,t,y⟩=>(h.le _ _ _ t).le y;have C:∀(s:aL)v l o,ws[s.1]?=ap v->(frm v s.2,l,o)∈xr->nj ws fs (frm v s.2) s=bj->At es (too v s.2) (o.2+hsp v s.2) (l+1):=λs v l o e z ho=>by
  by_cases c:frm v s.2∈R;.exact h.dn s ⟨_,c,ho⟩ v e l o z
  .exact r (h.wh.cl l o s v e c z ho)
 refine⟨h.cm,h.chg,h.nc,λc p E ho hc=>?_,λl o s v e hc z hs=>C s v l o e (h.out _ _ _ hc z) hs,λL=>h.few (by lia)⟩;rcases List.eq_nil_or_concat c with rfl|⟨A,s,rfl⟩;.exact r (h.wh.wl [] p E ho (xu))
 . rw[List.concat_eq_append]at*;obtain⟨q,h1,v,e,rfl,B⟩:=Gy E;have B:too v s.2=p:=B;subst B;obtain⟨M,G,H⟩:=ho s (by simp);rw[e]at G;cases G;simp only[d_,eS,length_nil]at hc;obtain⟨l,o,t,y⟩:=h.wh.wl A _ h1 (λu I=>ho u (by simp[I])) (by lia);refine(C s v l o e t H).le ?_;have:=y.add (hsp v s.2);have J:iw ws (A++[s])=iw ws A+hsp v s.2:=by rw[nH,iw,iw,mK e];lia
   rw[J];simpa using this
structure mD(m:Int)(ws:List Wy)(fs:List Int)(es:List En):Prop where
 cm:Y6 m ws fs es
 cl:∀l o(s:aL)v,ws[s.1]?=ap v->(frm v s.2,l,o)∈es->nj ws fs (frm v s.2) s=bj->At es (too v s.2) (o.2+hsp v s.2) (l+1)
theorem Wh.fin{fs:List Int}(h:Wh m ws fs n [] es):mD m ws fs es:=⟨h.cm,λl o s v e z ho=>h.cl l o s v e (by simp) z ho⟩
theorem In.imp{fs:List Int}{R:List Int}{e:aL->Prop}(h:In m ws fs n R xr K es ch)(z:∀s,e s->K s):In m ws fs n R xr e es ch:=⟨h.wh,h.cm,h.le,h.out,h.chg,h.nc,λs hs=>h.dn s (z s hs),h.few⟩
theorem Vx{fs:List Int}{l:List aL}(e:0<=p/\p<m):at' ((rD (mH ws fs m.toNat l)).map D.lst) p=ap (.lst ((l.filter (nj ws fs p)).map sD)):=by rw[Br e.1 (by simp[rD,mH];lia)];simp[rD,mH,show p.toNat<m.toNat by lia,oP e.1]
@[simp]theorem cut3{a b c:D}:Kh (.tup [a,b,c]) (part (.con .non) .non) (part (.con (.int 2)) (.int 2))=ap (.val (.tup [a,b])):=rfl
theorem XF{j:Int}:cm .lt (.tup [.int a,.int i]) (.tup [.int b,.int j])=ap (bR [a,i] [b,j]):=rfl
theorem lex_lt{i:Nat}:bR [a,(i:Int)] [b,(j:Int)]=bj↔¬ Le b j a i:=by unfold Le;simp[bR];lia
noncomputable def bg:Sl:=.val av (.dv [0] [.int 0])
inductive JC2(m:Int)(ws:List Wy)(fs:List Int)(a0 a1 a2 a3 a6:Sl)(n:Nat)(R:List Int)(xr:List En)(pre:List Int)(p:Int)(r:List D)(ρ:List Sl):Prop where|mk(es:List En)(ch:List Int)(nQ us:List aL)(s8 s9 qI:Sl)(q0:ρ=[a0,a1,a2,a3,.dM (es.map en),.val av (.int p),a6,.dM (ch.map BP),s8,s9,qI])(q1:A3 (fr s8=bj) (fr s9=bj) (fr qI=bj))(q2:r=us.map sD)(q3:nQ++us=(jT ws.length).filter (nj ws fs p))(q4:In m ws fs n R xr (λs=>(∃q∈pre,nj ws fs q s=bj)\/s∈nQ) es ch)
inductive JC1(m:Int)(ws:List Wy)(fs:List Int)(a0 a1 a2 a3 a6:Sl)(n:Nat)(R:List Int)(xr:List En)(r:List D)(ρ:List Sl):Prop where|mk(es:List En)(ch pre qs:List Int)(s5 s8 s9 qI:Sl)(q0:ρ=[a0,a1,a2,a3,.dM (es.map en),s5,a6,.dM (ch.map BP),s8,s9,qI])(q1:A4 (fr s5=bj) (fr s8=bj) (fr s9=bj) (fr qI=bj))(q2:r=qs.map D.int)(q3:pre++qs=R)(q4:In m ws fs n R xr (λs=>∃q∈pre,nj ws fs q s=bj) es ch)
inductive JCw(m:Int)(ws:List Wy)(fs:List Int)(a0 a1 a2 a3:Sl)(M:Nat)(ρ:List Sl):Prop where|mk(n:Nat)(R:List Int)(es:List En)(s5 s7 s8 s9 qI:Sl)(q0:ρ=[a0,a1,a2,a3,.dM (es.map en),s5,.own av (R.map D.int),s7,s8,s9,qI])(q1:A4 (fr s5=bj) (fr s8=bj) (fr s9=bj) (fr qI=bj))(q2:(s7=.aW\/∃d,s7=.val av d))(q3:Wh m ws fs n R es)(q4:7<=n+M)
noncomputable def JC0(e h q t:Sl)(r:List D)(ρ:List Sl):Prop:=(r=[.int 0]/\ρ=[e,h,q,t,.dM [],.aW,.aW,.aW,.aW,.aW,.aW])\/(r=[]/\ρ=[e,h,q,t,.dM [en (0,0,(none,0))],.val av (.int 0),.aW,.aW,.aW,.aW,.aW])
theorem zM{s:Sl}{fs:List Int}(hw:100<=w)(hF:Pt ws fs F)(hs:SlL s fs)(h:HN m ws)(hf:fs.length=ws.length)(k:∀es,mD m ws fs es->Q (.val (rA es)) [.val av (aV m ws),s,bg]):(run Γ w (n+3) 5 [.val av (aV m ws),s,bg]).sat Q:=by
 have hn:=h.len;have m0:=h.m0;have m1:=h.m1;refine aX (d:=f5) rfl rfl (by decide) ?_;refine eO (λρ=>ρ=[.val av (aV m ws),s,bg,.val av (.lst ((rD (mH ws fs m.toNat (jT ws.length))).map D.lst)),.aW,.aW,.aW,.aW,.aW,.aW,.aW]) ?_ ?_;.have ar:=hs;rcases hs with rfl|⟨b,rfl⟩;all_goals simp[f5,bg];refine Kg (by first|exact .inl rfl|exact .inr ⟨_,rfl⟩) h hf ?_;simp
 rintro _ rfl;generalize hA:((rD (mH ws fs m.toNat (jT ws.length))).map D.lst)=A;symm;simp;apply ak;simp[bg];refine eV (JC0 (.val av (aV m ws)) s bg (.val av (.lst A))) ?_ ?_ (.inl ⟨rfl,rfl⟩)
 . rintro d r _(⟨hr,rfl⟩|⟨hr,rfl⟩)
   . obtain⟨rfl,rfl⟩:d=.int 0/\r=[]:=by simpa using hr
     simp;apply ak;simp[bg,qu];exact .inr ⟨rfl,rfl⟩
   .cases hr
 rintro _(⟨hr,rfl⟩|⟨hr,rfl⟩);.cases hr
 simp;apply ak;simp[bg];apply ak;simp;refine kW (JCw m ws fs _ _ _ _) ?_ (k:=w) (m:=50) (by lia) ⟨0,[0],[(0,0,(none,0))],_,_,_,_,_,rfl,⟨rfl,rfl,rfl,rfl⟩,.inl rfl,Wh.start m0,by lia⟩;rintro M _⟨W,R,es,s5,s7,s8,s9,qI,rfl,⟨h5,J,L,B⟩,h7,hW,hM⟩;by_cases hR:R=[];.subst hR;simp;apply ak;simp;have:=k es hW.fin;simp[k9,en];exact this
 . have ah:0<R.length:=by cases R with|nil=>exact absurd rfl hR|cons _ _=>simp
   simp[ah];refine eO (λρ=>ρ=[.val av (aV m ws),s,bg,.val av (.lst A),.dM (es.map en),s5,.own av (R.map D.int),.dM [],s8,s9,qI]) ?_ ?_
   . rcases h7 with rfl|⟨d,rfl⟩;.simp[bg]
     .simp[bg]
   rintro _ rfl;symm;simp;refine eV (JC1 m ws fs _ _ _ _ _ W R es) ?_ ?_ ⟨es,[],[],R,s5,s8,s9,qI,rfl,⟨h5,J,L,B⟩,rfl,rfl,hW.to.imp λs hs=>by obtain⟨q,hq,_⟩:=hs;cases hq⟩;.rintro d r _⟨e,ch,pre,X,s5,s8,s9,qI,rfl,⟨h5,J,L,B⟩,hr,G,t⟩;cases X with|nil=>cases hr|cons p X=>
       obtain⟨rfl,rfl⟩:d=.int p/\r=X.map D.int:=by simpa using hr
       have ac:p∈R:=by rw[<-G];simp
       have ai:0<=p/\p<m:=by obtain⟨l,o,ho⟩:=t.row ac;exact t.cm.inm _ _ _ ho
       have U:=Vx (ws:=ws) (fs:=fs) (l:=jT ws.length) ai;rw[hA]at U;simp[h5];apply ak;simp[U];refine eV (JC2 m ws fs _ _ _ _ _ W R es pre p) ?_ ?_ ⟨e,ch,[],_,s8,s9,qI,rfl,⟨J,L,B⟩,rfl,rfl,t.imp λs hs=>by rcases hs with hs|hs;exact hs;cases hs⟩;.rintro d r _⟨e,ch,nQ,H,s8,s9,qI,rfl,⟨J,L,B⟩,hr,I,t⟩;cases H with|nil=>cases hr|cons u H=>
           obtain⟨rfl,rfl⟩:d=sD u/\r=H.map sD:=by simpa using hr
           have hu:nj ws fs p u=bj:=by
            have:u∈(jT ws.length).filter (nj ws fs p):=by rw[<-I];simp
            exact(kw.mp this).2
           obtain⟨v,g,e1,e2,e3,e4⟩:=uB hu;have ae:(nQ++[u])++H=(jT ws.length).filter (nj ws fs p):=by rw[ia];exact I
           obtain⟨E,op,Y⟩:=t.row ac;subst e3;have gp:=tU t.cm.nd Y;have am:=t.cm.len m1;have al:ch.length<=6:=six m1 t.nc λq hq=>by obtain⟨l,o,z⟩:=t.chg q hq;exact t.cm.inm _ _ _ z
           have af:∀s,((∃q∈pre,nj ws fs q s=bj)\/s∈nQ++[u])->((∃q∈pre,nj ws fs q s=bj)\/s∈nQ)\/s=u:=λs hs=>by
            rcases hs with hs|hs;.exact .inl (.inl hs)
            . rcases eM.mp hs with hs|hs;.exact .inl (.inr hs)
              .exact .inr (by simpa using hs)
           simp[J];apply ak;simp[sD];refine oU e1 ?_;simp[L];apply ak;simp[gp,Ep];refine wY e1 ?_;simp[gp,Ep,B];apply ak;have keep:At e (too v u.2) (op.2+hsp v u.2) (E+1)->JC2 m ws fs (.val av (aV m ws)) s bg (.val av (.lst A)) (.lent (R.map D.int)) W R es pre (frm v u.2) (H.map sD) [.val av (aV m ws),s,bg,.val av (.lst A),.dM (e.map en),.val av (.int (frm v u.2)),.lent (R.map D.int),.dM (ch.map BP),.val av (iM u.1 u.2),.val av (.int (too v u.2)),.val av (.tup [.int (op.2+hsp v u.2),.int ((E:Int)+1)])]:=λC=>⟨e,ch,nQ++[u],H,_,_,_,rfl,⟨rfl,rfl,rfl⟩,rfl,ae,(t.keep e1 Y C).imp af⟩;have ag:¬ At e (too v u.2) (op.2+hsp v u.2) (E+1)->JC2 m ws fs (.val av (aV m ws)) s bg (.val av (.lst A)) (.lent (R.map D.int)) W R es pre (frm v u.2) (H.map sD) [.val av (aV m ws),s,bg,.val av (.lst A),.dM ((rO e (too v u.2) (E+1,(ap u,op.2+hsp v u.2))).map en),.val av (.int (frm v u.2)),.lent (R.map D.int),.dM ((uG ch (too v u.2)).map BP),.val av (iM u.1 u.2),.val av (.int (too v u.2)),.val av (.tup [.int (op.2+hsp v u.2),.int ((E:Int)+1)])]:=λC=>⟨_,_,nQ++[u],H,_,_,_,rfl,⟨rfl,rfl,rfl⟩,rfl,ae,(t.put h hF e1 Y hu C).imp af⟩;have p1:jF (e.map en) (too v u.2) (.tup [.int (op.2+hsp v u.2),.int ((E:Int)+1),iM u.1 u.2])=(rO e (too v u.2) (E+1,(ap u,op.2+hsp v u.2))).map en:=by rw[<-Ou];simp[Ep,oS,sD]
           have p2:jF (ch.map BP) (too v u.2) (.bl bj)=(uG ch (too v u.2)).map BP:=Ru;by_cases hq:∃l o,(too v u.2,l,o)∈e
           . obtain⟨l,o,O⟩:=hq;have gt:=tU t.cm.nd O;have kt:vp (e.map en) (too v u.2)=bj:=Cu.mpr ⟨l,o,O⟩;have Z:=lex_lt (a:=op.2+hsp v u.2) (i:=E+1) (b:=o.2) (j:=l);rw[show((E+1:Nat):Int)=(E:Int)+1 by lia]at Z;simp[kt,gt,Ep,XF];refine⟨λz=>?_,λz=>?_⟩
             . have C:¬ At e (too v u.2) (op.2+hsp v u.2) (E+1):=λ⟨l2,o2,y1,y2⟩=>by obtain⟨rfl,rfl⟩:=mU t.cm.nd O y1;exact Z.mp z y2
               symm;simp[p1];refine⟨by decide,λ_=>?_,by show _<16777216;lia⟩;symm;simp[p2];refine⟨λ_=>ag C,by show _<16777216;lia⟩
             . have C:At e (too v u.2) (op.2+hsp v u.2) (E+1):=by
                refine⟨l,o,O,?_⟩;by_cases y:Le o.2 l (op.2+hsp v u.2) (E+1);.exact y
                .rw[Z.mpr y]at z;cases z
               exact keep C
           .have kt:vp (e.map en) (too v u.2)=av:=kin_no hq;simp[kt];apply ak;simp[p1];refine⟨by decide,λ_=>?_,by show _<16777216;lia⟩;symm;simp[p2];exact⟨λ_=>ag λ⟨l2,o2,y1,_⟩=>hq ⟨l2,o2,y1⟩,by show _<16777216;lia⟩
       . rintro _⟨e,ch,nQ,H,s8,s9,qI,rfl,⟨J,L,B⟩,hr,I,t⟩;have:H=[]:=by cases H with|nil=>rfl|cons _ _=>cases hr
         subst this;rw[hZ]at I;simp;refine⟨e,ch,pre++[p],X,_,_,_,_,rfl,⟨rfl,J,L,B⟩,rfl,by rw[ia];exact G,t.imp λs hs=>?_⟩;obtain⟨q,hq,hs⟩:=hs;rcases eM.mp hq with hq|hq;.exact .inl ⟨q,hq,hs⟩
         . obtain rfl:q=p:=by simpa using hq
           refine .inr ?_;rw[I];obtain⟨v,g,e1,_⟩:=uB hs;exact kw.mpr ⟨zx (gh e1).1,hs⟩
   . rintro _⟨e,ch,pre,X,s5,s8,s9,qI,rfl,⟨h5,J,L,B⟩,hr,G,t⟩;have:X=[]:=by cases X with|nil=>rfl|cons _ _=>cases hr
     subst this;rw[hZ]at G;subst G;have al:ch.length<=6:=six m1 t.nc λq hq=>by obtain⟨l,o,z⟩:=t.chg q hq;exact t.cm.inm _ _ _ z
     have hO:=t.out';have aw:W<6:=by
      by_cases c:6<=W;.exact absurd (hW.few c) hR
      .lia
     simp;apply ak;simp[show ch.length<=16777216 by lia];exact⟨M-1,by lia,W+1,ch,e,_,_,_,_,_,rfl,⟨h5,J,L,B⟩,.inr ⟨_,rfl⟩,hO,by lia⟩
theorem mD.all{m:Int}{ws:List Wy}{fs:List Int}{es:List En}(h:mD m ws fs es){b:Int}:∀{c:List aL}{a:Int}{l:Nat}{o:Option aL×Int},m9 ws b c a->zV ws fs c->(a,l,o)∈es->At es b (o.2+iw ws c) (l+c.length)|[],a,l,o,q,_,z=>by have:a=b:=q;subst this;exact⟨l,o,z,by unfold Le iw;simp⟩|s::c,a,l,o,⟨v,e,t,q⟩,ho,z=>by subst t;obtain⟨H,r,y⟩:=ho s (by simp);rw[e]at r;cases r;obtain⟨I,J,A,L⟩:=h.cl l o s v e z y;obtain⟨l2,B,C,E⟩:=mD.all h q (λu G=>ho u (dL _ G)) A;refine⟨l2,B,C,E.trans ?_⟩;rw[iw,mK e,eS];unfold Le at*;lia
theorem mD.l5{fs:List Int}(h:mD m ws fs es)(e:HN m ws)(q:Pt ws fs F)(z:(p,l,o)∈es):l<=5:=by have m0:=e.m0;obtain⟨c,c1,c2,c3,c4⟩:=h.cm.wk p l o z;obtain⟨B,r,t,C,u⟩:=short e q ⟨by lia,by lia⟩ _ (eU) c1 c2;obtain⟨l2,E,y,A⟩:=h.all r t h.cm.z;obtain⟨rfl,rfl⟩:=mU h.cm.nd z y;rw[c3,c4]at u;unfold Le at*;simp only at A;lia
theorem mD.on{fs:List Int}(h:mD m ws fs es)(z:(p,l,o)∈es):(o=(none,0)/\p=0/\l=0)\/∃(s:aL)(v:Wy)(q:Nat)(e:Option aL×Int),o=(ap s,e.2+hsp v s.2)/\l=q+1/\ws[s.1]?=ap v/\too v s.2=p/\nj ws fs (frm v s.2) s=bj/\(frm v s.2,q,e)∈es:=by
 rcases h.cm.stp p l o z with⟨h1,rfl,rfl⟩|⟨s,v,q,e,h1,r,rfl,t,u,A⟩;.exact .inl ⟨(mU h.cm.nd z h.cm.z).2,rfl,rfl⟩
 . obtain⟨l2,B,y,C⟩:=h.cl q e s v r u t;obtain⟨rfl,rfl⟩:=mU h.cm.nd z y;refine .inr ⟨s,v,q,e,?_,?_,r,rfl,t,u⟩;.exact Prod.ext_iff.mpr ⟨h1,by show _=e.2+hsp v s.2;unfold Le at*;lia⟩
   .unfold Le at*;lia
structure Sg(ws:List Wy)(fs:List Int)(es:List En)(p:Int)(L:Nat)(H:Int)(a:Int)(l:Nat)(h:Int)(c:List aL):Prop where
 Oq:m9 ws p c a
 mH:zV ws fs c
 nd:(c.map (·.1)).Nodup
 lv:∀s∈c,∀v,ws[s.1]?=ap v->∃l1 o1 o2,(frm v s.2,l1,o1)∈es/\(too v s.2,l1+1,o2)∈es/\l<=l1
 len:c.length+l=L
 hrs:iw ws c+h=H
theorem pM{g:Bool}(h:g≠f):frm v g=too v f/\too v g=frm v f:=by cases f<;>cases g<;>first|exact absurd rfl h|exact⟨rfl,rfl⟩
theorem Sg.cons{m:Int}{ws:List Wy}{fs:List Int}{es:List En}{p:Int}{L l:Nat}{H x:Int}{c:List aL}{s:aL}{v:Wy}{o E:Option aL×Int}(hc:Y6 m ws fs es)(h:Sg ws fs es p L H (too v s.2) (l+1) (x+hsp v s.2) c)(e:ws[s.1]?=ap v)(h1:(too v s.2,l+1,o)∈es)(y:(frm v s.2,l,E)∈es)(ho:nj ws fs (frm v s.2) s=bj):Sg ws fs es p L H (frm v s.2) l x (s::c):=by
 refine⟨⟨v,e,rfl,h.Oq⟩,λu hu=>?_,?_,λu hu x ex=>?_,by have:=h.len;simp only[eS];lia,by have:=h.hrs;rw[iw,mK e];lia⟩
 . rcases de.mp hu with rfl|hu;.exact⟨v,e,ho⟩
   .exact h.mH u hu
 . rw[dQ,fc];refine⟨λG=>?_,h.nd⟩;obtain⟨t,I,J⟩:=ej.mp G;obtain⟨A,B,C,q,r,M⟩:=h.lv t I v (by rw[J];exact e);by_cases z:t.2=s.2;.rw[z]at q;have:=(mU hc.nd q y).1;lia
   .rw[(pM z).2]at r;have:=(mU hc.nd r y).1;lia
 . rcases de.mp hu with rfl|hu;.rw[e]at ex;cases ex;exact⟨l,_,_,y,h1,eU⟩
   .obtain⟨A,B,C,q,r,M⟩:=h.lv u hu x ex;exact⟨A,B,C,q,r,by lia⟩
theorem Jf(e:(es.map (·.1)).Nodup)(h:(p,x)∈es):qu ((es.map (·.1)).zip (es.map Ep)) p=ap (Ep (p,x)):=by
 have:(es.map (·.1)).zip (es.map Ep)=es.map en:=by rw[List.zip_map'];rfl
 rw[this];exact tU e h
inductive JSt(m:Int)(ws:List Wy)(fs:List Int)(es:List En)(p:Int)(L:Nat)(H:Int)(a0 a1 a2:Sl)(M:Nat)(ρ:List Sl):Prop where|mk(a:Int)(l:Nat)(o:Option aL×Int)(c:List aL)(s5:Sl)(q0:ρ=[a0,a1,a2,.own av (c.reverse.map sD),.val av (.int a),s5])(q1:fr s5=bj)(q2:(a,l,o)∈es)(q3:Sg ws fs es p L H a l o.2 c)(q4:l<=M)
theorem Ij{L:Nat}{fs:List Int}(C:100<=w)(h:mD m ws fs es)(E:L<=5)(z:(p,L,o)∈es)(k:∀c,Sg ws fs es p L o.2 0 0 0 c->Q (.val (.tup (c.map sD))) [.val av (aV m ws),.val av (rA es),.val av (.int p)]):(run Γ w (n+2) 6 [.val av (aV m ws),.val av (rA es),.val av (.int p)]).sat Q:=by
 refine aX (d:=f6) rfl rfl (by decide) ?_;symm;simp[f6];apply ak;simp;apply ak;simp;refine kW (JSt m ws fs es p L o.2 _ _ _) ?_ (k:=w) (m:=L) (by lia) ⟨p,L,o,[],.aW,rfl,rfl,z,⟨rfl,λs hs=>(by cases hs),by simp,by simp,by simp,by rw[iw];lia⟩,eU⟩;rintro M _⟨a,l,G,c,s5,rfl,A,q,hc,H⟩;have r:=Jf h.cm.nd q;rcases h.on q with⟨rfl,rfl,rfl⟩|⟨s,v,u,B,rfl,rfl,e,rfl,ho,y⟩;.simp[rA,r,Ep,oS];symm;simp;exact k c hc
 . simp[rA,r,Ep,oS,sD,iM];symm;simp[r,Ep,oS,A];apply ak;have t:c.length<16777216:=by have:=hc.len;lia
   simp[t];apply ak;simp[sD];refine oU e ?_;simp;exact⟨u,by lia,frm v s.2,u,B,s::c,.val av (iM s.1 s.2),by simp[rA,sD],rfl,y,hc.cons h.cm e q y ho,eU⟩
noncomputable def sg(x:Int)(f:Bool):Int:=if f then x else-x
noncomputable def vA(x:Int)(fs:List Int)(s:aL):List Int:=fs.set s.1 ((fs[s.1]?.getD 0)+sg x s.2)
noncomputable def aug(x:Int)(fs:List Int)(c:List aL):List Int:=c.foldl (vA x) fs
@[simp]theorem Lk{x:Int}{fs:List Int}{s:aL}:(vA x fs s).length=fs.length:=by simp[vA]
theorem xW{x:Int}:∀{c:List aL}{fs:List Int},(aug x fs c).length=fs.length|[],_=>rfl|s::c,fs=>by show(aug x (vA x fs s) c).length=_;rw[xW,Lk]
theorem tM{x:Int}{j:Nat}:∀{c:List aL}{fs:List Int},j∉c.map (·.1)->(aug x fs c)[j]?=fs[j]?|[],_,_=>rfl|s::c,fs,h=>by rw[dQ,de,not_or]at h;show(aug x (vA x fs s) c)[j]?=_;rw[tM h.2];unfold vA;rw[eB (λz=>h.1 z.symm)]
theorem CJ{x:Int}:∀{c:List aL}{fs:List Int}{s:aL}{g:Int},(c.map (·.1)).Nodup->s∈c->fs[s.1]?=ap g->(aug x fs c)[s.1]?=ap (g+sg x s.2)
 |[],_,_,_,_,h,_=>by cases h|t::c,fs,s,g,q,h,e=>by
   rw[dQ,fc]at q;show(aug x (vA x fs t) c)[s.1]?=_;have r:=(gh e).1;rcases de.mp h with rfl|h;.rw[tM q.1];unfold vA;rw[ce r,e];rfl
   .refine CJ q.2 h ?_;unfold vA;rw[eB (λz=>q.1 (by rw[z];exact ej.mpr ⟨s,h,rfl⟩))];exact e
inductive JWt(x:Int)(fs:List Int)(c:List aL)(a0 a1 a2:Sl)(r:List D)(ρ:List Sl):Prop where|mk(nQ us:List aL)(s4 s5:Sl)(q0:ρ=[a0,a1,a2,.own av ((aug x fs nQ).map D.int),s4,s5])(q1:fr s4=bj)(q2:fr s5=bj)(q3:r=us.map sD)(q4:nQ++us=c)
theorem Lj{s:Sl}{x:Int}{fs:List Int}(hs:SlL s fs)(hc:∀s∈c,s.1<fs.length)(k:Q (.own ((aug x fs c).map D.int)) [s,.val av (.tup (c.map sD)),.val av (.int x)]):(run Γ w (n+1) 7 [s,.val av (.tup (c.map sD)),.val av (.int x)]).sat Q:=by
 refine aX (d:=f7) rfl rfl (by decide) ?_;refine eO (λρ=>ρ=[s,.val av (.tup (c.map sD)),.val av (.int x),.own av (fs.map D.int),.aW,.aW]) ?_ ?_;.rcases hs with rfl|⟨b,rfl⟩;all_goals simp[f7]
 rintro _ rfl;symm;simp;refine eV (JWt x fs c _ _ _) ?_ ?_ ⟨[],c,.aW,.aW,rfl,rfl,rfl,rfl,rfl⟩;.rintro d r _⟨e,h,s4,s5,rfl,y,z,hr,hd⟩;cases h with|nil=>cases hr|cons u h=>
     obtain⟨rfl,rfl⟩:d=sD u/\r=h.map sD:=by simpa using hr
     have B:u.1<(aug x fs e).length:=by rw[xW];exact hc u (by rw[<-hd];simp)
     have t:(aug x fs e)[u.1]?=ap (aug x fs e)[u.1]:=by simp[B]
     have A:lR (aug x fs e).length (u.1:Int)=ap u.1:=by unfold lR;rw[if_pos (by lia),if_pos (by lia)];simp
     have he:aug x fs (e++[u])=(aug x fs e).set u.1 ((aug x fs e)[u.1]+sg x u.2):=by unfold aug;rw[List.foldl_append];show vA x (aug x fs e) u=_;unfold vA;rw[t];rfl
     have q:(e++[u])++h=c:=by rw[ia];exact hd
     generalize(aug x fs e)[u.1]=g at*;simp[sD,iM,y,z];apply ak;obtain⟨j,f⟩:=u;cases f with|true=>simp[dO t,A];exact⟨e++[(j,bj)],h,_,_,by rw[he,map_set];rfl,rfl,rfl,rfl,q⟩|false=>simp[dO t,A];exact⟨e++[(j,av)],h,_,_,by rw[he,map_set];rfl,rfl,rfl,rfl,q⟩
 . rintro _⟨e,h,s4,s5,rfl,y,z,hr,hd⟩;have:h=[]:=by cases h with|nil=>rfl|cons _ _=>cases hr
   subst this;rw[hZ]at hd;subst hd;simp;apply ak;simp;exact k
noncomputable def O7(F:Int->Int)(D:Int):List En->Int->Int|[],p=>F p+D|e::es,p=>if e.1=p then e.2.2.2 else O7 F D es p
theorem qL{F:Int->Int}{D p:Int}{l:Nat}{o:Option aL×Int}:∀{es:List En},(es.map (·.1)).Nodup->(p,l,o)∈es->O7 F D es p=o.2
 |[],_,h=>by cases h|e::es,q,h=>by
   rw[dQ,fc]at q;rw[O7];rcases de.mp h with rfl|h;.rw[if_pos rfl]
   .rw[if_neg (λz=>q.1 (by rw[z];exact ej.mpr ⟨_,h,rfl⟩))];exact qL q.2 h
theorem xT{F:Int->Int}{D p:Int}:∀{es:List En},(¬ ∃l o,(p,l,o)∈es)->O7 F D es p=F p+D|[],_=>rfl|e::es,h=>by rw[O7,if_neg (λz=>h ⟨e.2.1,e.2.2,by rw[<-z];simp⟩)];exact xT λ⟨l,o,z⟩=>h ⟨l,o,dL _ z⟩
theorem R5(F:Int->Int):∀(es:List En),∃D,∀p l o,(p,l,o)∈es->o.2<=F p+D
 |[]=>⟨0,λ_ _ _ h=>by cases h⟩|e::es=>by
   obtain⟨D,h⟩:=R5 F es;refine⟨max D (e.2.2.2-F e.1),λp l o z=>?_⟩;rcases de.mp z with rfl|z;.simp only;lia
   .have:=h p l o z;lia
theorem mD.pt{fs:List Int}{D:Int}(h:mD m ws fs es)(q:Pt ws fs F)(r:∀p l o,(p,l,o)∈es->o.2<=F p+D):Pt ws fs (O7 F D es):=λs v e ho=>by
 by_cases c:∃l o,(frm v s.2,l,o)∈es;.obtain⟨l,o,c⟩:=c;obtain⟨l2,t,c2,c3⟩:=h.cl l o s v e c ho;rw[qL h.cm.nd c,qL h.cm.nd c2];unfold Le at c3;lia
 . rw[xT c];have h1:=q s v e ho;by_cases c2:∃l o,(too v s.2,l,o)∈es;.obtain⟨l2,t,c2⟩:=c2;rw[qL h.cm.nd c2];have:=r _ _ _ c2;lia
   .rw[xT c2];lia
theorem xg{ws:List Wy}{fs:List Int}{F:Int->Int}(h:Pt ws fs F){b:Int}:∀{c:List aL}{a:Int},m9 ws b c a->zV ws fs c->F b=F a+iw ws c->∀s∈c,∀v,ws[s.1]?=ap v->F (too v s.2)=F (frm v s.2)+hsp v s.2
 |[],_,_,_,_,s,hs,_,_=>by cases hs|s::c,a,⟨v,e,r,t⟩,ho,he,u,hu,x,ex=>by
   have q:zV ws fs c:=λu hu=>ho u (dL _ hu);have h1:=qm h t q;obtain⟨A,y,o⟩:=ho s (by simp);rw[e]at y;cases y;have z:=h s v e o;rw[r]at z;rw[iw,mK e]at he;rcases de.mp hu with rfl|hu;.rw[e]at ex;cases ex;rw[r];lia
   .exact xg h t q (by lia) u hu x ex
theorem vC{fs:List Int}{x:Int}{t:aL}(hc:zV ws fs c)(e:ws[t.1]?=ap v)(h:nj ws (aug x fs c) (frm v t.2) t=bj):nj ws fs (frm v t.2) t=bj\/∃s∈c,s.1=t.1/\t.2≠s.2:=by
 by_cases z:t.1∈c.map (·.1)
 . obtain⟨s,hs,es⟩:=ej.mp z;by_cases q:t.2=s.2;.have:t=s:=Prod.ext_iff.mpr ⟨es.symm,q⟩;subst this;obtain⟨u,r,o⟩:=hc t hs;rw[e]at r;cases r;exact .inl o
   .exact .inr ⟨s,hs,es,q⟩
 .refine .inl ?_;unfold nj at h ⊢;rwa[tM z]at h
theorem Pt.aug{ws:List Wy}{fs:List Int}{F:Int->Int}(h:Pt ws fs F){a b x:Int}{c:List aL}(q:m9 ws b c a)(ho:zV ws fs c)(he:F b=F a+iw ws c):Pt ws (aug x fs c) F:=λt v e o=>by
 rcases vC ho e o with o|⟨u,r,y,ne⟩;.exact h t v e o
 . have:=xg h q ho he u r v (by rw[y];exact e);rw[(pM ne).1,(pM ne).2];have:hsp v t.2=-hsp v u.2:=by cases h1:t.2<;>cases h2:u.2<;>simp[hsp]<;>(rw[h1,h2]at ne;exact absurd rfl ne)
   lia
structure Fit(ws:List Wy)(fs:List Int):Prop where
 len:fs.length=ws.length
 ok:∀(j:Nat)v g,ws[j]?=ap v->fs[j]?=ap g->0<=g/\g<=v.r
theorem Fit.aug{ws:List Wy}{fs:List Int}{c:List aL}{x:Int}(h:Fit ws fs)(y:(c.map (·.1)).Nodup)(A:0<x)(hc:∀s∈c,∃v g,ws[s.1]?=ap v/\fs[s.1]?=ap g/\x<=vM v g s.2):Fit ws (aug x fs c):=by
 refine⟨by rw[xW];exact h.len,λj v g q e=>?_⟩;by_cases z:j∈c.map (·.1);.obtain⟨s,hs,rfl⟩:=ej.mp z;obtain⟨B,g',r,t,u⟩:=hc s hs;rw[q]at r;cases r;rw[CJ y hs t]at e;cases e;have:=h.ok _ _ _ q t;cases hf:s.2<;>rw[hf]at u<;>simp[vM,sg]at u ⊢<;>lia
 .rw[tM z]at e;exact h.ok _ _ _ q e
structure KZ(m:Int)(ws:List Wy)(cs:List (List aL×Int))(fs:List Int)(F:Int->Int)(d:Int):Prop where
 fit:Fit ws fs
 pt:Pt ws fs F
 z:F 0=0
 e:F (m-1)=d
 d0:0<=d
 nn:(∀v∈ws,1<=v.h)->1<=d/\∀x∈cs,1<=iw ws x.1
 ch:∀x∈cs,iw ws x.1<=d/\0<x.2/\∀s∈x.1,s.1<ws.length
theorem Cr(h:(cp n (0:Int))[j]?=ap g):g=0:=(List.mem_replicate.mp (du h)).2
noncomputable def F01(b p:Int):Int:=if p=0 then 0 else b
theorem KZ.zero(m0:2<=m)(y:∀v∈ws,0<=v.h)(hr:∀v∈ws,0<=v.r):∃b,KZ m ws [] (cp ws.length 0) (F01 b) b:=by
 have fit:Fit ws (cp ws.length 0):=⟨by simp,λj v g q t=>by rw[Cr t];exact⟨iL _,hr v (du q)⟩⟩;have pt:∀b:Int,0<=b->(∀v∈ws,b<=v.h)->Pt ws (cp ws.length 0) (F01 b):=λb b0 A s v e ho=>by obtain⟨B,g,q,t,_,u⟩:=uB ho;rw[e]at q;cases q;have:=Cr t;subst this;have:=A v (du e);cases hf:s.2<;>rw[hf]at u<;>simp[vM,hsp,F01]at u ⊢;split<;>split<;>lia
 have q:∀b,F01 b (m-1)=b:=λb=>by unfold F01;rw[if_neg (by lia)]
 by_cases c:∀v∈ws,1<=v.h;.exact⟨1,fit,pt 1 (by lia) c,rfl,q 1,by lia,λ_=>⟨iL _,by simp⟩,by simp⟩
 .exact⟨0,fit,pt 0 (by lia) y,rfl,q 0,by lia,λz=>absurd z c,by simp⟩
theorem KZ.more{d:Int}{cs:List (List aL×Int)}{fs:List Int}{x:Int}(h:KZ m ws cs fs F d)(q:mD m ws fs es)(r:(m-1,l,o)∈es)(hc:Sg ws fs es (m-1) l o.2 0 0 0 c)(t:0<x)(hr:∀s∈c,∃v g,ws[s.1]?=ap v/\fs[s.1]?=ap g/\x<=vM v g s.2):∃F',KZ m ws (cs++[(c,x)]) (aug x fs c) F' o.2:=by
 obtain⟨D,B⟩:=R5 F es;have C:=q.pt h.pt B;have E:iw ws c=o.2:=by have:=hc.hrs;lia
 have u:O7 F D es 0=0:=qL q.cm.nd q.cm.z;have A:O7 F D es (m-1)=o.2:=qL q.cm.nd r;have hd:d<=o.2:=by have:=qm h.pt hc.Oq hc.mH;rw[h.e,h.z]at this;lia
 refine⟨O7 F D es,h.fit.aug hc.nd t hr,C.aug hc.Oq hc.mH (by rw[u,A];lia),u,A,by have:=h.d0;lia,λz=>⟨by have:=(h.nn z).1;lia,λy hy=>?_⟩,λy hy=>?_⟩
 . rcases eM.mp hy with hy|hy;.exact(h.nn z).2 y hy
   .rw[dX.mp hy];show 1<=iw ws c;have:=(h.nn z).1;lia
 . rcases eM.mp hy with hy|hy;.have:=h.ch y hy;exact⟨by lia,this.2⟩
   .rw[dX.mp hy];refine⟨by show iw ws c<=_;lia,t,λs hs=>?_⟩;obtain⟨v,g,e,_⟩:=hr s hs;exact(gh e).1
noncomputable def Iv(v:Wy)(f:Bool):Int:=7*hsp v f+1
noncomputable def Tv(ws:List Wy)(fs:List Int)(P:Int->Int):Prop:=∀(s:aL)(v:Wy),ws[s.1]?=ap v->nj ws fs (frm v s.2) s=bj->P (too v s.2)<=P (frm v s.2)+Iv v s.2
noncomputable def Cz(ws:List Wy)(c:List aL):Int:=7*iw ws c+c.length
theorem uo(e:ws[s.1]?=ap v):Cz ws (s::c)=Iv v s.2+Cz ws c:=by unfold Cz Iv;rw[iw,mK e,eS];lia
theorem BW{ws:List Wy}{fs:List Int}{P:Int->Int}(h:Tv ws fs P){b:Int}:∀{c:List aL}{a:Int},m9 ws b c a->zV ws fs c->P b<=P a+Cz ws c|[],a,q,_=>by have:a=b:=q;rw[this];simp[Cz,iw]|s::c,a,⟨v,e,t,q⟩,ho=>by have h1:=BW h q λu y=>ho u (dL _ y);obtain⟨A,r,o⟩:=ho s (by simp);rw[e]at r;cases r;have z:=h s v e o;rw[t]at z;rw[uo e];lia
theorem wI{ws:List Wy}{fs:List Int}{P:Int->Int}(h:Tv ws fs P){b:Int}:∀{c:List aL}{a:Int},m9 ws b c a->zV ws fs c->P b=P a+Cz ws c->∀s∈c,∀v,ws[s.1]?=ap v->P (too v s.2)=P (frm v s.2)+Iv v s.2
 |[],_,_,_,_,s,hs,_,_=>by cases hs|s::c,a,⟨v,e,r,t⟩,ho,he,u,hu,x,ex=>by
   have q:zV ws fs c:=λu hu=>ho u (dL _ hu);have h1:=BW h t q;obtain⟨A,y,o⟩:=ho s (by simp);rw[e]at y;cases y;have z:=h s v e o;rw[r]at z;rw[uo e]at he;rcases de.mp hu with rfl|hu;.rw[e]at ex;cases ex;rw[r];lia
   .exact wI h t q (by lia) u hu x ex
noncomputable def tgt(ws:List Wy)(fs:List Int)(P:Int->Int)(s:aL):Bool:=match ws[s.1]?with|some v=>nj ws fs (frm v s.2) s&&decide (P (too v s.2)=P (frm v s.2)+Iv v s.2)|none=>av
theorem Nk{fs:List Int}{P:Int->Int}(e:ws[s.1]?=ap v):tgt ws fs P s=(nj ws fs (frm v s.2) s&&decide (P (too v s.2)=P (frm v s.2)+Iv v s.2)):=by unfold tgt;rw[e]
noncomputable def IW(ws:List Wy)(fs:List Int)(P:Int->Int):Nat:=((jT ws.length).filter (tgt ws fs P)).length
theorem Gj{fs:List Int}{P:Int->Int}(h:ws.length<=12):IW ws fs P<=24:=by have:=og (tgt ws fs P) (jT ws.length);rw[Ax]at this;unfold IW;lia
theorem Li{p q:aL->Bool}(h:∀t,q t=bj->p t=bj):∀(l:List aL),(l.filter q).length<=(l.filter p).length|[]=>eU|t::l=>by have e:=Li h l;cases hq:q t with|true=>simp[hq,h t hq,e]|false=>cases hp:p t with|true=>simp[hq,hp];lia|false=>simp[hq,hp,e]
theorem JH{p q:aL->Bool}{s:aL}(h:∀t,q t=bj->p t=bj)(e:p s=bj)(r:q s=av):∀{l:List aL},s∈l->(l.filter q).length<(l.filter p).length
 |[],hs=>by cases hs|t::l,hs=>by
   have le:=Li h l;rcases de.mp hs with rfl|hs;.simp[e,r];lia
   .have u:=JH h e r hs;cases hq2:q t with|true=>simp[hq2,h t hq2,u]|false=>cases hp2:p t with|true=>simp[hq2,hp2];lia|false=>simp[hq2,hp2,u]
theorem J7{fs:List Int}(h:(c.map (·.1)).Nodup)(hs:s∈c)(e:ws[s.1]?=ap v)(q:fs[s.1]?=ap g):nj ws (aug (vM v g s.2) fs c) p s=av:=by
 rw[yl e (CJ h hs q)];have:vM v (g+sg (vM v g s.2) s.2) s.2=0:=by cases s.2<;>simp[vM,sg]<;>lia
 rw[this];simp
theorem Tv.aug{ws:List Wy}{fs:List Int}{P:Int->Int}(h:Tv ws fs P){a b:Int}{c:List aL}{s:aL}{v:Wy}{g:Int}(C:m9 ws b c a)(ho:zV ws fs c)(E:(c.map (·.1)).Nodup)(he:P b=P a+Cz ws c)(hs:s∈c)(e:ws[s.1]?=ap v)(G:fs[s.1]?=ap g):Tv ws (aug (vM v g s.2) fs c) P/\IW ws (aug (vM v g s.2) fs c) P<IW ws fs P:=by
 have z:=wI h C ho he;have back:∀(t u:aL)(x:Wy),u∈c->u.1=t.1->t.2≠u.2->ws[t.1]?=ap x->P (too x t.2)<P (frm x t.2)+Iv x t.2:=λt u x r y ne ex=>by
  have h1:=z u r x (by rw[y];exact ex);rw[(pM ne).1,(pM ne).2];have A:hsp x t.2=-hsp x u.2:=by cases h1:t.2<;>cases A:u.2<;>simp[hsp]<;>(rw[h1,A]at ne;exact absurd rfl ne)
  unfold Iv at*;lia
 refine⟨λt x ex o=>?_,?_⟩
 . rcases vC ho ex o with o|⟨u,r,y,ne⟩;.exact h t x ex o
   .have:=back t u x r y ne ex;lia
 . obtain⟨H,B,o⟩:=ho s hs;rw[e]at B;cases B;refine JH (s:=s) (λt q=>?_) (by rw[Nk e,o,z s hs v e];simp) (by rw[Nk e,J7 E hs e G];rfl) (zx (gh e).1);unfold tgt at q ⊢;split at q
   . rename_i x ex;simp only[fb,decide_eq_true_eq]at q ⊢;refine⟨?_,q.2⟩;rcases vC ho ex q.1 with o|⟨u,r,y,ne⟩;.exact o
     .have:=back t u x r y ne ex;lia
   .cases q
noncomputable abbrev Su:=List (Option Bool)
noncomputable def oR:List Wy->Su->Int|v::ws,ap f::es=>Iv v f+oR ws es|_::ws,none::es=>oR ws es|_,_=>0
noncomputable def J5(N:Nat):List aL->Su|[]=>cp N none|s::c=>(J5 N c).set s.1 (ap s.2)
theorem FZ{N:Nat}:∀{c:List aL},(J5 N c).length=N|[]=>by simp[J5]|s::c=>by rw[J5,List.length_set,FZ]
theorem El{N j:Nat}:∀{c:List aL},j<N->j∉c.map (·.1)->(J5 N c)[j]?=ap none|[],h,_=>by simp[J5,h]|s::c,h,e=>by rw[dQ,de,not_or]at e;rw[J5,eB (λz=>e.1 z.symm)];exact El h e.2
theorem zU{v:Wy}{f:Bool}:∀{j:Nat}{ws:List Wy}{es:Su},ws[j]?=ap v->es[j]?=ap none->oR ws (es.set j (ap f))=oR ws es+Iv v f|_,[],_,e,_=>by simp at e|_,_::_,[],_,e=>by simp at e|0,u::ws,x::es,h,q=>by simp at h q;subst h q;rw[List.set_cons_zero,oR,oR];lia|j+1,u::ws,x::es,h,q=>by have r:=zU (f:=f) (j:=j) (ws:=ws) (es:=es) (by simpa using h) (by simpa using q);rw[List.set_cons_succ];cases x with|none=>rw[oR,oR,r]|some g=>rw[oR,oR,r];lia
theorem wA:∀{ws:List Wy}{n:Nat},oR ws (cp n none)=0|[],n=>by unfold oR;rfl|v::ws,0=>rfl|v::ws,n+1=>by rw[hJ,oR,wA]
theorem Ea{ws:List Wy}{b:Int}:∀{c:List aL}{a:Int},m9 ws b c a->(c.map (·.1)).Nodup->oR ws (J5 ws.length c)=Cz ws c|[],_,_,_=>by rw[J5,wA];simp[Cz,iw]|s::c,a,⟨v,e,_,q⟩,h=>by rw[dQ,fc]at h;rw[J5,zU e (El (gh e).1 h.1),Ea q h.2,uo e];lia
noncomputable def xR:Nat->List Su|0=>[[]]|n+1=>(xR n).map (none::·)++((xR n).map (ap bj::·)++(xR n).map (ap av::·))
theorem Ac:∀{n:Nat},(xR n).length=3^n|0=>rfl|n+1=>by rw[xR,d_,d_,dV,dV,dV,Ac,Nat.pow_succ];lia
theorem zO:∀{e:Su},e∈xR e.length|[]=>by simp[xR]|x::e=>by have h:=zO (e:=e);rw[eS,xR,eM,eM];cases x with|none=>exact .inl (ej.mpr ⟨e,h,rfl⟩)|some f=>cases f with|true=>exact .inr (.inl (ej.mpr ⟨e,h,rfl⟩))|false=>exact .inr (.inr (ej.mpr ⟨e,h,rfl⟩))
structure PQ(m:Int)(ws:List Wy)(k:Nat)(fs:List Int)(P:Int->Int)(lam:Int)(seen:List Su):Prop where
 pt:Tv ws fs P
 z:P 0=0
 e:P (m-1)=lam
 nd:seen.Nodup
 sl:∀e∈seen,e.length=ws.length/\oR ws e<=lam
 cnt:k+IW ws fs P<=25*(seen.length+1)
theorem PQ.few{q:Int}{fs:List Int}{P:Int->Int}{seen:List Su}(h:PQ m ws k fs P q seen)(r:ws.length<=12):k<=13286050:=by
 have h1:=u6 (l2:=xR ws.length) h.nd λe he=>by rw[<-(h.sl e he).1];exact zO
 rw[Ac]at h1;have t:3^ws.length<=3^12:=Nat.pow_le_pow_right (by decide) r;have u:(3:Nat)^12=531441:=by decide
 have:=h.cnt;lia
theorem PQ.zero(t:ws.length<=12)(u:∀v∈ws,0<=v.h):PQ m ws 0 (cp ws.length 0) (λ_=>0) 0 []:=by refine⟨λs v e ho=>?_,rfl,rfl,.nil,by simp,by have:=Gj (fs:=cp ws.length 0) (P:=λ_=>0) t;simp;lia⟩;obtain⟨z,g,q,y,_,r⟩:=uB ho;rw[e]at q;cases q;have:=Cr y;subst this;have:=u v (du e);cases hf:s.2<;>rw[hf]at r<;>simp[vM,Iv,hsp]at r ⊢;lia
noncomputable def Oi(F:Int->Int)(D:Int):List En->Int->Int|[],p=>F p+D|e::es,p=>if e.1=p then 7*e.2.2.2+(e.2.1:Int)else Oi F D es p
theorem qz{F:Int->Int}{D p:Int}{l:Nat}{o:Option aL×Int}:∀{es:List En},(es.map (·.1)).Nodup->(p,l,o)∈es->Oi F D es p=7*o.2+l
 |[],_,h=>by cases h|e::es,q,h=>by
   rw[dQ,fc]at q;rw[Oi];rcases de.mp h with rfl|h;.rw[if_pos rfl]
   .rw[if_neg (λz=>q.1 (by rw[z];exact ej.mpr ⟨_,h,rfl⟩))];exact qz q.2 h
theorem yu{F:Int->Int}{D p:Int}:∀{es:List En},(¬ ∃l o,(p,l,o)∈es)->Oi F D es p=F p+D|[],_=>rfl|e::es,h=>by rw[Oi,if_neg (λz=>h ⟨e.2.1,e.2.2,by rw[<-z];simp⟩)];exact yu λ⟨l,o,z⟩=>h ⟨l,o,dL _ z⟩
theorem KQ(F:Int->Int):∀(es:List En),∃D,∀p l o,(p,l,o)∈es->7*o.2+(l:Int)<=F p+D
 |[]=>⟨0,λ_ _ _ h=>by cases h⟩|e::es=>by
   obtain⟨D,h⟩:=KQ F es;refine⟨max D (7*e.2.2.2+(e.2.1:Int)-F e.1),λp l o z=>?_⟩;rcases de.mp z with rfl|z;.simp only;lia
   .have:=h p l o z;lia
theorem mD.pts{fs:List Int}{P:Int->Int}{D:Int}(h:mD m ws fs es)(q:HN m ws)(r:Pt ws fs F)(t:Tv ws fs P)(u:∀p l o,(p,l,o)∈es->7*o.2+(l:Int)<=P p+D):Tv ws fs (Oi P D es):=λs v e ho=>by
 by_cases c:∃l o,(frm v s.2,l,o)∈es;.obtain⟨l,o,c⟩:=c;obtain⟨l2,y,c2,c3⟩:=h.cl l o s v e c ho;rw[qz h.cm.nd c,qz h.cm.nd c2];have:=h.l5 q r c2;unfold Le at c3;unfold Iv;lia
 . rw[yu c];have h1:=t s v e ho;by_cases c2:∃l o,(too v s.2,l,o)∈es;.obtain⟨l2,y,c2⟩:=c2;rw[qz h.cm.nd c2];have:=u _ _ _ c2;lia
   .rw[yu c2];lia
theorem PQ.more{r:Int}{fs:List Int}{P:Int->Int}{seen:List Su}(h:PQ m ws k fs P r seen)(A:HN m ws)(H:Pt ws fs F)(t:mD m ws fs es)(u:(m-1,l,o)∈es)(hc:Sg ws fs es (m-1) l o.2 0 0 0 c)(hs:s∈c)(e:ws[s.1]?=ap v)(B:fs[s.1]?=ap g):∃I J L,PQ m ws (k+1) (aug (vM v g s.2) fs c) I J L:=by
 have M:iw ws c=o.2:=by have:=hc.hrs;lia
 have O:c.length=l:=by have:=hc.len;lia
 have U:Cz ws c=7*o.2+l:=by unfold Cz;rw[M,O]
 have W:r<=Cz ws c:=by have:=BW h.pt hc.Oq hc.mH;rw[h.e,h.z]at this;lia
 by_cases q:r=Cz ws c;.have y:=h.pt.aug hc.Oq hc.mH hc.nd (by rw[h.e,h.z];lia) hs e B;exact⟨P,r,seen,y.1,h.z,h.e,h.nd,h.sl,by have:=h.cnt;lia⟩
 . obtain⟨D,X⟩:=KQ P es;have Y:=t.pts A H h.pt X;have C:Oi P D es 0=0:=by rw[qz t.cm.nd t.cm.z];rfl
   have E:Oi P D es (m-1)=Cz ws c:=by rw[qz t.cm.nd u,U]
   have y:=Y.aug hc.Oq hc.mH hc.nd (by rw[C,E];lia) hs e B;have G:=Ea hc.Oq hc.nd;refine⟨Oi P D es,Cz ws c,seen++[J5 ws.length c],y.1,C,E,?_,λx hx=>?_,?_⟩;.rw[lJ];refine⟨h.nd,by simp,λa Z b hb ab=>?_⟩;have:=(h.sl a Z).2;rw[ab,dX.mp hb,G]at this;lia
   . rcases eM.mp hx with hx|hx;.have:=h.sl x hx;exact⟨this.1,by lia⟩
     .rw[dX.mp hx];exact⟨FZ,by rw[G];exact iL _⟩
   .have h1:=Gj (fs:=fs) (P:=Oi P D es) A.len;have h2:=h.cnt;rw[d_,n9];lia
noncomputable def cD(x:List aL×Int):D:=.tup [.tup (x.1.map sD),.int x.2]
theorem UJ{ns:List Int}(h:ns≠[]):∃i,ns.min?=ap i/\i∈ns/\∀j∈ns,i<=j:=by cases e:ns.min? with|none=>rw[List.min?_eq_none_iff]at e;exact absurd e h|some i=>have:=n8.mp e;exact⟨i,rfl,this.1,this.2⟩
noncomputable def unS:D->aL|.tup [.int j,.bl f]=>(j.toNat,f)|_=>(0,bj)
@[simp]theorem Mi{s:aL}:unS (sD s)=s:=rfl
noncomputable def S6(ws:List Wy)(fs:List Int)(s:aL):Int:=match ws[s.1]?,fs[s.1]?with|some v,ap g=>vM v g s.2|_,_=>0
noncomputable def rmD(ws:List Wy)(fs:List Int)(d:D):D:=.int (S6 ws fs (unS d))
@[simp]theorem abm{es:List En}{p:Int}:zZ av (.int p) (rA es)=ap (.val (.bl (vp (es.map en) p))):=by show ap (R.val (.bl ((es.map (·.1)).contains p)))=ap (R.val (.bl ((Oa (es.map en)).contains p)));rw[Ci]
noncomputable def Chk(m:Int)(ws:List Wy)(x:List aL×Int):Prop:=x.1.length<=5/\(∀s∈x.1,s.1<ws.length)/\m9 ws (m-1) x.1 0/\(x.1.map (·.1)).Nodup
theorem KZ.le{d:Int}{cs:List (List aL×Int)}{fs:List Int}(h:KZ m ws cs fs F d)(hc:Sg ws fs es (m-1) l o.2 0 0 0 c):d<=iw ws c:=by have:=qm h.pt hc.Oq hc.mH;rw[h.e,h.z]at this;lia
noncomputable abbrev So(ws:List Wy)(cs:List (List aL×Int)):Prop:=cs.Pairwise λa b=>iw ws a.1<=iw ws b.1
structure Ends(m:Int)(ws:List Wy)(cs:List (List aL×Int))(fs:List Int)(F:Int->Int)(d:Int):Prop where
 iv:KZ m ws cs fs F d
 ck:∀x∈cs,Chk m ws x
 st:So ws cs
inductive FcE(a0 a1 a2 a3 a4 a5 a6:Sl)(ρ:List Sl):Prop where|mk(s:Sl)(q0:ρ=[a0,a1,a2,a3,a4,a5,a6,s])(q1:fr s=bj)
inductive JE(m:Int)(ws:List Wy)(M:Nat)(ρ:List Sl):Prop where|mk(cs:List (List aL×Int))(fs:List Int)(es:List En)(F:Int->Int)(d:Int)(s5 s6:Sl)(q0:ρ=[.val av (aV m ws),.val av (.int (m-1)),.own av (fs.map D.int),.own av (cs.map cD),.val av (rA es),s5,s6])(q1:(fr s5=bj/\fr s6=bj))(q2:KZ m ws cs fs F d)(q3:mD m ws fs es)(q4:(∃P lam seen,PQ m ws cs.length fs P lam seen))(q5:cs.length+M=13286050)(q6:(∀x∈cs,Chk m ws x))(q7:So ws cs)
theorem Ms(hw:13286250<=w)(h:HN m ws)(hr:∀v∈ws,0<=v.r)(k:∀cs fs F d,cs.length<=13286050->Ends m ws cs fs F d->Q (.own (cs.map cD)) [.val av (aV m ws)]):(run Γ w (n+4) 8 [.val av (aV m ws)]).sat Q:=by
 have hn:=h.len;have m0:=h.m0;have m1:=h.m1;refine aX (d:=f8) rfl rfl (by decide) ?_;symm;simp[f8];refine eO (λρ=>ρ=[.val av (aV m ws),.val av (.int (m-1)),.own av ((cp ws.length (0:Int)).map D.int),.aW,.aW,.aW,.aW]) ?_ ?_;.simp;show _<=16777216;lia
 rintro _ rfl;have hh:∀v∈ws,0<=v.h:=λv hv=>(h.ok v hv).2.2;obtain⟨b0,X⟩:∃b,KZ m ws [] (cp ws.length 0) (F01 b) b:=KZ.zero m0 hh hr;symm;simp;apply ak;simp;refine zM (by lia) X.pt (.inr ⟨bj,by simp⟩) h X.fit.len λes q=>?_;simp;apply ak;simp;refine kW (JE m ws) ?_ (k:=w) (m:=13286050) (by lia) ⟨[],cp ws.length 0,es,F01 b0,b0,.aW,.aW,by simp,⟨rfl,rfl⟩,X,q,⟨_,_,_,PQ.zero hn hh⟩,by simp,by simp,by simp⟩;rintro M _⟨cs,fs,es,F,d,s5,s6,rfl,⟨h5,h6⟩,E,q,⟨P,aE,seen,hS⟩,hM,I,hst⟩;have Y:=E.fit.len;by_cases hq:∃l o,(m-1,l,o)∈es
 . obtain⟨l,o,A⟩:=hq;have Z:vp (es.map en) (m-1)=bj:=Cu.mpr ⟨l,o,A⟩;have ac:=q.l5 h E.pt A;simp[Z];apply ak;simp;refine Ij (by lia) q ac A λc hc=>?_;simp[h5];apply ak;have ae:c.length<=5:=by have:=hc.len;lia
   have W:∀s∈c,∃v g,ws[s.1]?=ap v/\fs[s.1]?=ap g/\0<vM v g s.2:=λs hs=>by obtain⟨v,e,o⟩:=hc.mH s hs;obtain⟨v',g,t,C,_,e4⟩:=uB o;exact⟨v',g,t,C,e4⟩
   simp[show c.length<=16777216 by lia];refine cV (FcE _ _ _ _ _ _ _) (rmD ws fs) ⟨.aW,rfl,rfl⟩ ?_ ?_;.rintro d hd _⟨s',rfl,J⟩;obtain⟨s,hs,rfl⟩:=ej.mp hd;obtain⟨v,g,t,C,_⟩:=W s hs;simp[J,sD];refine wX (.inr ⟨bj,rfl⟩) t C ?_;simp;refine⟨?_,_,rfl,rfl⟩;show D.int (S6 ws fs (unS (sD s)))=_;rw[Mi];unfold S6;rw[t,C]
   rintro _⟨s',rfl,J⟩;have L:(c.map sD).map (rmD ws fs)=(c.map (S6 ws fs)).map D.int:=by rw[fe,fe];rfl
   rw[L];have af:c≠[]:=by rintro rfl;have:(0:Int)=m-1:=hc.Oq;lia
   obtain⟨x,ag,ah,ai⟩:=UJ (ns:=c.map (S6 ws fs)) (by simpa using af);obtain⟨s,hs,al⟩:=ej.mp ah;obtain⟨v,g,t,C,e3⟩:=W s hs;have am:vM v g s.2=x:=by rw[<-al];unfold S6;rw[t,C]
   have ar:0<x:=by lia
   have aw:∀s∈c,∃v g,ws[s.1]?=ap v/\fs[s.1]?=ap g/\x<=vM v g s.2:=λu H=>by obtain⟨v,g,t,C,_⟩:=W u H;refine⟨v,g,t,C,?_⟩;have:=ai _ (ej.mpr ⟨u,H,rfl⟩);unfold S6 at this;rw[t,C]at this;exact this
   have O:∀s∈c,s.1<ws.length:=λu H=>by obtain⟨v,g,t,_⟩:=W u H;exact(gh t).1
   obtain⟨F',G⟩:=E.more q A hc ar aw;have U:So ws (cs++[(c,x)]):=by refine kF.mpr ⟨hst,by simp,λy hy z hz=>?_⟩;rw[dX.mp hz];exact Int.le_trans (E.ch y hy).1 (E.le hc)
   have B:=hS.more h E.pt q A hc hs t C;rw[am]at B;obtain⟨P',Yr,N6,B⟩:=B;have aI:=B.few hn;generalize c.map (S6 ws fs)=ns at*;simp[o5,ag,h6];apply ak;simp[show cs.length<16777216 by lia];apply ak;simp;refine Lj (.inr ⟨bj,rfl⟩) (λu H=>by rw[Y];exact O u H) ?_;simp;apply ak;simp;refine zM (by lia) G.pt (.inr ⟨bj,rfl⟩) h G.fit.len λax ay=>?_;simp;refine⟨M-1,by lia,cs++[(c,x)],aug x fs c,ax,F',o.2,.val av (.tup (c.map sD)),.val av (.int x),by simp[cD],⟨rfl,rfl⟩,G,ay,⟨P',Yr,N6,by rw[d_];exact B⟩,by simp;lia,λy hy=>?_,U⟩;rcases eM.mp hy with hy|hy;.exact I y hy
   . obtain rfl:y=(c,x):=by simpa using hy
     exact⟨ae,O,hc.Oq,hc.nd⟩
 .have Z:vp (es.map en) (m-1)=av:=kin_no hq;simp[Z];apply ak;simp;exact k cs fs F d (by lia) ⟨E,I,hst⟩
theorem Xa{c:Call}{x:Nat}{k d:P}:ev c (.Z3 x k d) ρ=match ρ[x]?with
 |some (.jE _)=>(dG (isVar k) (ev c k) ρ).bind λe ρ=>(dG (isVar d) (ev c d) ρ).bind λdd ρ=>match ρ[x]?with|some (.jE m)=>lift ((m.get e).bind λo=>(j9 dd).map λv=>.val (.int (o.getD v))) ρ|_=>.stuck
 |_=>.stuck:=(rfl)
theorem O5{c:Call}{x:Nat}:ex c n (.Nu x av) ρ=match ρ[x]?with|some .aW=>.ok .next (ρ.set x (.jE (.k [])))|_=>.stuck:=(rfl)
theorem Rx{c:Call}{x:Nat}{k e:P}:ex c n (.dput x k e) ρ=(ev c e ρ).bind λr ρ=>match ρ[x]?with
 |some (.jE _)=>(dG (isVar k) (ev c k) ρ).bind λh ρ=>match ρ[x]?,r with
   |some (.jE m),.val (.int v)=>match m.put h v with|some q=>.ok .next (ρ.set x (.jE q))|none=>.stuck
   |_,_=>.stuck
 |_=>.stuck:=(rfl)
@[simp]theorem Zk{x:Nat}{k d:P}:isVar (.Z3 x k d)=none:=rfl
@[simp]theorem abi{kvs:List (Int×Int)}:blt .Nr [.fZ (.k kvs)]=if kvs.length<=16777216/\kvs.Pairwise (λa b=>a.1<b.1)then ap (.own (kvs.map tW))else none:=rfl
theorem Wz:(Dc.get (.k kvs) (.int i))=ap ((kvs.find? λe=>decide (e.1=i)).map (·.2)):=rfl
theorem aaf{v:Int}(h:kvs.length<lim):Dc.put (.k kvs) (.int i) v=ap (.k (putD kvs i v)):=by show(if _ then _ else _)=_;rw[if_pos h]
noncomputable def hsD(ws:List Wy)(d:D):D:=.int (hst ws (unS d))
theorem Gr{ws:List Wy}:∀{c:List aL},(c.map (hst ws)).sum=iw ws c|[]=>rfl|s::c=>by rw[dQ,List.sum_cons,Gr,iw]
inductive F2s(a b:Sl)(ρ:List Sl):Prop where|mk(s:Sl)(q0:ρ=[a,b,s])(q1:fr s=bj)
theorem Ck(hc:∀s∈c,s.1<ws.length)(y:c.length<=1000)(k:Q (.val (.int (iw ws c))) [.val av (aV m ws),.val av (.tup (c.map sD))]):(run Γ w (n+2) 3 [.val av (aV m ws),.val av (.tup (c.map sD))]).sat Q:=by
 refine aX (d:=f3) rfl rfl (by decide) ?_;symm;simp[f3,show c.length<=16777216 by lia];refine cV (F2s _ _) (hsD ws) ⟨.aW,rfl,rfl⟩ ?_ ?_
 . rintro d hd _⟨u,rfl,h⟩;obtain⟨s,hs,rfl⟩:=ej.mp hd;have t:=hc s hs;have e:ws[s.1]?=ap ws[s.1]:=by simp[t]
   simp[h,sD];refine wY e ?_;simp;refine⟨?_,_,rfl,rfl⟩;show D.int (hst ws (unS (sD s)))=_;rw[Mi,mK e]
 rintro _⟨u,rfl,h⟩;have q:(c.map sD).map (hsD ws)=(c.map (hst ws)).map D.int:=by rw[fe,fe];rfl
 rw[q];have r:=Gr (ws:=ws) (c:=c);generalize c.map (hst ws)=ns at*;simp[o5,r];exact k
noncomputable def gv(kvs:List (Int×Int))(k:Int):Int:=((kvs.find? λe=>decide (e.1=k)).map (·.2)).getD 0
theorem aa7{k:Int}{r:List (Int×Int)}(h:∀q∈r,0<q.2):0<=gv r k:=by unfold gv;cases e:r.find? λq=>decide (q.1=k)with|none=>simp|some x=>have:=h x (List.mem_of_find?_eq_some e);simp;lia
theorem uq{k x:Int}{r:List (Int×Int)}:(putD r k (gv r k+x)).length<=r.length+1/\∀h∈putD r k (gv r k+x),h=(k,gv r k+x)\/h∈r:=by
 unfold putD;split
 . refine⟨by simp,λh e=>?_⟩;obtain⟨y,q,rfl⟩:=ej.mp e;by_cases z:y.1=k;.rw[if_pos z,z];exact .inl rfl
   .rw[if_neg z];exact .inr q
 . refine⟨by simp,λh e=>?_⟩;rcases eM.mp e with hj|hj;.exact .inr hj
   .exact .inl (dX.mp hj)
theorem XN{k v:Int}{r:List (Int×Int)}(h:r.Pairwise (λa b=>a.1<b.1))(t:∀u∈r,u.1<=k):(putD r k v).Pairwise (λa b=>a.1<b.1):=by
 unfold putD;split;.rw[List.pairwise_map];refine h.imp λ{a b}e=>?_;split<;>split<;>exact e
 .rename_i y;rw[kF];refine⟨h,by simp,λa q b A=>?_⟩;have h1:=t a q;have B:a.1≠k:=λz=>y (l9.mpr ⟨a,q,by simpa using z⟩);rw[dX.mp A];show a.1<k;lia
noncomputable def unP:D->Int×Int|.tup [.int a,.int b]=>(a,b)|_=>(0,0)
@[simp]theorem ai6{a b:Int}:unP (.tup [.int a,.int b])=(a,b):=rfl
structure Bnd(ws:List Wy)(cs:List (List aL×Int))(kvs:List (Int×Int)):Prop where
 len:kvs.length<=cs.length
 nn:∀kv∈kvs,1<=kv.1/\0<kv.2
 key:∀kv∈kvs,∃x∈cs,kv.1=iw ws x.1
 so:kvs.Pairwise (λa b=>a.1<b.1)
theorem Bnd.put{cs:List (List aL×Int)}(h:Bnd ws cs kvs){x:List aL×Int}(h0:1<=iw ws x.1)(h1:0<x.2)(z:∀y∈cs,iw ws y.1<=iw ws x.1):Bnd ws (cs++[x]) (putD kvs (iw ws x.1) (gv kvs (iw ws x.1)+x.2)):=by
 obtain⟨p2,p3⟩:=uq (k:=iw ws x.1) (x:=x.2) (r:=kvs);have A:=h.len;refine⟨by simp;lia,λt q=>?_,λt q=>?_,XN h.so λt q=>?_⟩
 . rcases p3 t q with e|e;.have:=aa7 (k:=iw ws x.1) λt q=>(h.nn t q).2;rw[e];exact⟨h0,by show 0<_+_;lia⟩
   .exact h.nn t e
 . rcases p3 t q with e|e;.exact⟨x,by simp,by rw[e]⟩
   .obtain⟨y,u,e⟩:=h.key t e;exact⟨y,by simp[u],e⟩
 .obtain⟨y,u,e⟩:=h.key t q;rw[e];exact z y u
inductive JBn(m:Int)(ws:List Wy)(cs:List (List aL×Int))(r:List D)(ρ:List Sl):Prop where|mk(nQ us:List (List aL×Int))(kvs:List (Int×Int))(s2 s3 s4:Sl)(q0:ρ=[.val av (aV m ws),.jE (.k kvs),s2,s3,s4])(q1:A3 (fr s2=bj) (fr s3=bj) (fr s4=bj))(q2:r=us.map cD)(q3:nQ++us=cs)(q4:Bnd ws nQ kvs)
theorem Hd(M:13286250<=w)(h:kY m ws)(k:∀kvs:List (Int×Int),kvs.length<=16000000->(∀H∈kvs,1<=H.1/\0<H.2)->Q (.own (kvs.map tW)) [.val av (aV m ws)]):(run Γ w (n+5) 10 [.val av (aV m ws)]).sat Q:=by
 refine aX (d:=f10) rfl rfl (by decide) ?_;symm;simp[f10,O5];apply ak;simp;refine Ms M (HN.of h) (λv B=>(h.ok v B).r0) λcs fs F d W z=>?_;simp;refine eV (JBn m ws cs) ?_ ?_ ⟨[],cs,[],.aW,.aW,.aW,rfl,⟨rfl,rfl,rfl⟩,rfl,rfl,⟨by simp,by simp,by simp,by simp⟩⟩;.rintro d r _⟨A,e,kvs,s2,s3,s4,rfl,⟨I,J,L⟩,hr,hd,q⟩;cases e with|nil=>cases hr|cons u e=>
     obtain⟨rfl,rfl⟩:d=cD u/\r=e.map cD:=by simpa using hr
     have C:u∈cs:=by rw[<-hd];simp
     have t:=z.ck u C;have O:A.length<=cs.length:=by rw[<-hd];simp
     have E:=q.len;have G:(A++[u])++e=cs:=by rw[ia];exact hd
     simp[cD,I,J];apply ak;simp;refine Ck t.2.1 (by have:=t.1;lia) ?_;simp[L];apply ak;simp[Rx,Xa,Wz];rw[aaf (by show _<16777216;lia)];simp;refine⟨A++[u],e,_,_,_,_,rfl,⟨rfl,rfl,rfl⟩,rfl,G,q.put ((z.iv.nn λv B=>(h.ok v B).h0).2 u C) (z.iv.ch u C).2.1 λy U=>?_⟩;have hst:=z.st;rw[<-hd]at hst;exact(kF.mp hst).2.2 y U u (by simp)
 . rintro _⟨A,e,kvs,s2,s3,s4,rfl,⟨I,J,L⟩,hr,hd,q⟩;have:e=[]:=by cases e with|nil=>rfl|cons _ _=>cases hr
   subst this;rw[hZ]at hd;subst hd;have E:=q.len;simp;apply ak;simp[show kvs.length<=16777216 by lia,q.so];exact k kvs (by lia) q.nn
noncomputable def moD(T:Int)(d:D):Option D:=if(unP d).1<=T then ap (.int ((unP d).2*(T-(unP d).1+1)))else none
theorem Ef{T:Int}:∀(kvs:List (Int×Int)),∃ns:List Int,(kvs.map tW).filterMap (moD T)=ns.map D.int
 |[]=>⟨[],rfl⟩|kv::r=>by
   obtain⟨ns,h1⟩:=Ef (T:=T) r;have e:moD T (tW kv)=if kv.1<=T then ap (.int (kv.2*(T-kv.1+1)))else none:=rfl;rw[dQ,hY,h1,e];by_cases c:kv.1<=T;.rw[if_pos c];exact⟨_::ns,rfl⟩
   .rw[if_neg c];exact⟨ns,rfl⟩
inductive F2t(a b:Sl)(ρ:List Sl):Prop where|mk(s:Sl)(t:Sl)(q0:ρ=[a,b,s,t])(q1:fr s=bj)(q2:fr t=bj)
theorem Bm{T:Int}{s:Sl}(hs:s=.own av (kvs.map tW)\/s=.val av (.lst (kvs.map tW)))(y:kvs.length<=16000000)(h0:∀h∈kvs,1<=h.1/\0<h.2)(z:T<=1000000000000000000)(k:∀i,Q (.val (.int i)) [s,.val av (.int T)]):(run Γ w (n+1) 21 [s,.val av (.int T)]).sat Q:=by refine aX (d:=f21) rfl rfl (by decide) ?_;symm;rcases hs with rfl|rfl;all_goals
  simp[f21,show kvs.length<=16777216 by lia];refine HD (F2t _ _) (moD T) ⟨.aW,.aW,rfl,rfl,rfl⟩ ?_ ?_
  . rintro d hd _⟨s,t,rfl,hs,q⟩;obtain⟨h,r,rfl⟩:=ej.mp hd;have:=(h0 h r).1;have e:moD T (tW h)=if h.1<=T then ap (.int (h.2*(T-h.1+1)))else none:=rfl;by_cases c:h.1<=T
    . rw[if_pos c]at e;have u:rF (.int h.2) (.int (T-h.1+1))=ap (.val (.int (h.2*(T-h.1+1)))):=by show(if _ then _ else _)=_;rw[if_pos];right;lia
      rw[e];simp[hs,q,tW,c,u];exact⟨_,_,rfl,rfl,rfl⟩
    .rw[if_neg c]at e;rw[e];simp[hs,q,tW,c];exact⟨_,_,rfl,rfl,rfl⟩
  .rintro _⟨s,t,rfl,hs,q⟩;obtain⟨ns,h1⟩:=Ef (T:=T) kvs;rw[h1];simp[o5];exact k _
theorem Bl{T:Int}(e:13286250<=w)(h:kY m ws)(q:T<=1000000000000000000)(k:∀i,Q (.val (.int i)) [.val av (aV m ws),.val av (.int T)]):(run Γ w (n+6) 22 [.val av (aV m ws),.val av (.int T)]).sat Q:=by refine aX (d:=f22) rfl rfl (by decide) ?_;symm;simp[f22];refine Hd e h λkvs r t=>?_;simp;refine Bm (.inl rfl) r t q λi=>?_;simp;exact k i
@[simp]theorem ack{c:Call}{i n:Nat}{a r:P}{is:List Nat}{one:Bool}{h:Option P}{ρ:List Sl}:ev c (.oF i a n is one h r) ρ=(Jw i (ev c a) ρ).bind λt e=>if t.1.length<=lim then(pQ c is one h r t.1 (e++cp n .aW)).bind λxs q=>.ok (.own xs) (bz t.2 (ap i) (q.take e.length))else .stuck:=(rfl)
@[simp]theorem adV{i:Nat}{f:Ev}{ρ:List Sl}:Jw i f ρ=(f ρ).bind λr e=>(lift (items r.d) e).bind λes e=>match e[i]?with|some (.val _ d)=>(lift (items d) e).bind λds e=>.ok ((es.zip ds).map λp=>D.tup [p.1,p.2],e) e|some (.own _ ds)=>.ok ((es.zip ds).map λp=>D.tup [p.1,p.2],e) (e.set i (.lent ds))|some (.lent ds)=>.ok ((es.zip ds).map λp=>D.tup [p.1,p.2],e) e|_=>.stuck:=rfl
noncomputable def rH:List Wy->List Int->List Wy|w::ws,l::ls=>{w with r:=l}::rH ws ls|_,_=>[]
theorem sW:∀{ws:List Wy}{ls:List Int},ls.length=ws.length->(rH ws ls).length=ws.length|[],[],_=>rfl|[],_::_,h=>by simp at h|_::_,[],h=>by simp at h|w::ws,l::ls,h=>by simp[rH,sW (ws:=ws) (ls:=ls) (by simpa using h)]
theorem JT:∀{ws:List Wy}{ls:List Int}{k:Nat}{u:Wy},(rH ws ls)[k]?=ap u->∃v l,ws[k]?=ap v/\ls[k]?=ap l/\u={v with r:=l}|[],_,k,u,h=>by simp[rH]at h|_::_,[],k,u,h=>by simp[rH]at h|w::ws,l::ls,0,u,h=>by simp[rH]at h;exact⟨w,l,rfl,rfl,h.symm⟩|w::ws,l::ls,k+1,u,h=>by simp only[rH,fm]at h ⊢;exact JT h
theorem MP:∀{ws:List Wy}{ls:List Int}{k:Nat}{v:Wy}{l:Int},ws[k]?=ap v->ls[k]?=ap l->(rH ws ls)[k]?=ap {v with r:=l}|[],_,k,v,l,h,_=>by simp at h|_::_,[],k,v,l,_,h=>by simp at h|w::ws,x::ls,0,v,l,h,h'=>by simp at h h';subst h h';simp[rH]|w::ws,x::ls,k+1,v,l,h,h'=>by simp only[rH,fm]at h h' ⊢;exact MP h h'
noncomputable def zrD:D->D|.tup [.tup [a,b,_,e],l]=>.tup [a,b,l,e]|d=>d
@[simp]theorem aix{a b c e l:D}:zrD (.tup [.tup [a,b,c,e],l])=.tup [a,b,l,e]:=rfl
theorem Nf:∀{ws:List Wy}{ls:List Int},((((ws.map Wy.d).zip (ls.map D.int)).map λp=>D.tup [p.1,p.2]).map zrD)=(rH ws ls).map Wy.d|[],_=>by simp[rH]|_::_,[]=>by simp[rH]|w::ws,l::ls=>by have:=Nf (ws:=ws) (ls:=ls);simp only[dQ,lc,rH,this];rfl
inductive FY(a b c:Sl)(ρ:List Sl):Prop where|mk(s:Sl)(t:Sl)(q0:ρ=[a,b,c,s,t])(q1:fr s=bj)(q2:fr t=bj)
noncomputable def LX1(s:Sl)(ls:List Int):Prop:=(∃b,s=.val b (.lst (ls.map D.int)))\/(∃b,s=.val b (.tup (ls.map D.int)))
noncomputable def LX2(s:Sl)(ls:List Int):Prop:=(∃b,s=.own b (ls.map D.int))\/(∃b,s=.val b (.lst (ls.map D.int)))
theorem Hr{s1:Sl}(r:ws.length<=12)(hs:LX1 s1 ls)(k:Q (.val (aV m (rH ws ls))) [.val av (aV m ws),s1]):(run Γ w (n+1) 17 [.val av (aV m ws),s1]).sat Q:=by refine aX (d:=f17) rfl rfl (by decide) ?_;symm;rcases hs with⟨b,rfl⟩|⟨b,rfl⟩;all_goals
  simp[f17];refine⟨λ_=>?_,by show _<=16777216;lia⟩;refine cV (FY _ _ _) zrD ⟨.aW,.aW,rfl,rfl,rfl⟩ ?_ ?_;.rintro d hd _⟨s,t,rfl,hs,h⟩;obtain⟨⟨x,y⟩,q,rfl⟩:=ej.mp hd;obtain⟨v,_,rfl⟩:=ej.mp (jI q).1;simp[hs,h,Wy.d];exact⟨_,_,rfl,rfl,rfl⟩
  rintro _⟨s,t,rfl,hs,h⟩;have e:=Nf (ws:=ws) (ls:=ls);generalize(((ws.map Wy.d).zip (ls.map D.int)).map λp=>D.tup [p.1,p.2]).map zrD=X at*;subst e;simp;apply ak;simp;exact k
noncomputable def sY:List Wy->List Int->List Wy|v::ws,l::ls=>⟨v.t,v.s,l,v.h⟩::sY ws ls|_,_=>[]
theorem sE:∀{ws:List Wy}{ls:List Int},ls.length=ws.length->(sY ws ls).length=ws.length|[],[],_=>rfl|[],_::_,h=>by simp at h|_::_,[],h=>by simp at h|w::ws,l::ls,h=>by simp[sY,sE (ws:=ws) (ls:=ls) (by simpa using h)]
theorem Ks:∀{ws:List Wy}{ls:List Int}{k:Nat}{u:Wy},(sY ws ls)[k]?=ap u->∃v l,ws[k]?=ap v/\ls[k]?=ap l/\u=⟨v.t,v.s,l,v.h⟩|[],_,k,u,h=>by simp[sY]at h|_::_,[],k,u,h=>by simp[sY]at h|w::ws,l::ls,0,u,h=>by simp[sY]at h;exact⟨w,l,rfl,rfl,h.symm⟩|w::ws,l::ls,k+1,u,h=>by simp only[sY,fm]at h ⊢;exact Ks h
noncomputable def ztD:D->D|.tup [.tup [a,b,_,e],l]=>.tup [b,a,l,e]|d=>d
@[simp]theorem ait{a b c e l:D}:ztD (.tup [.tup [a,b,c,e],l])=.tup [b,a,l,e]:=rfl
theorem Ji:∀{ws:List Wy}{ls:List Int},((((ws.map Wy.d).zip (ls.map D.int)).map λp=>D.tup [p.1,p.2]).map ztD)=(sY ws ls).map Wy.d|[],_=>by simp[sY]|_::_,[]=>by simp[sY]|w::ws,l::ls=>by have:=Ji (ws:=ws) (ls:=ls);simp only[dQ,lc,sY,this];rfl
noncomputable def Ob(ws:List Wy)(fo e:List Int):List Wy:=rH ws fo++sY ws e
inductive F4l(a b c d:Sl)(ρ:List Sl):Prop where|mk(s:Sl)(t:Sl)(q0:ρ=[a,b,c,d,s,t])(q1:fr s=bj)(q2:fr t=bj)
theorem wy{s1 s2:Sl}{h:List Int}(z:ws.length<=12)(q:fo.length=ws.length)(r:h.length=ws.length)(h1:LX1 s1 fo)(A:LX2 s2 h)(k:Q (.val (aV m (Ob ws fo h))) [.val av (aV m ws),s1,s2]):(run Γ w (n+2) 26 [.val av (aV m ws),s1,s2]).sat Q:=by
 refine aX (d:=f26) rfl rfl (by decide) ?_;refine eO (λρ=>ρ=[.val av (aV m ws),s1,s2,.own av ((sY ws h).map Wy.d)]) ?_ ?_;.rcases A with⟨b,rfl⟩|⟨b,rfl⟩;all_goals
    simp[f26];refine⟨λ_=>?_,by show _<=16777216;lia⟩;refine cV (F4l _ _ _ _) ztD ⟨.aW,.aW,rfl,rfl,rfl⟩ ?_ ?_;.rintro d hd _⟨s,t,rfl,hs,u⟩;obtain⟨⟨x,y⟩,B,rfl⟩:=ej.mp hd;obtain⟨v,_,rfl⟩:=ej.mp (jI B).1;simp[hs,u,Wy.d];exact⟨_,_,rfl,rfl,rfl⟩
    rintro _⟨s,t,rfl,hs,u⟩;have e:=Ji (ws:=ws) (ls:=h);generalize(((ws.map Wy.d).zip (h.map D.int)).map λp=>D.tup [p.1,p.2]).map ztD=X at*;subst e;simp
 rintro _ rfl;have C:=sW (ws:=ws) q;have E:=sE (ws:=ws) r;symm;have G:=h1;rcases h1 with⟨b,rfl⟩|⟨b,rfl⟩;all_goals
  simp;refine Hr z (by first|exact .inl ⟨_,rfl⟩|exact .inr ⟨_,rfl⟩) ?_;simp;refine⟨by show _<=16777216;lia,?_⟩;have e:D.tup [.int m,.tup ((rH ws fo).map Wy.d++(sY ws h).map Wy.d)]=aV m (Ob ws fo h):=by unfold aV Ob;rw[kQ]
  rw[e];exact k
theorem xQ(e:ws.length<=6)(k:Q (.val .non) [.val av (aV m ws)]):(run Γ w (n+1) 25 [.val av (aV m ws)]).sat Q:=by refine aX (d:=Xm) rfl rfl (by decide) ?_;symm;simp[Xm,show ¬(6:Int)<(ws.length:Int)by lia,show ¬ 6<ws.length by lia];exact k
noncomputable def Ce(d:D):D:=match d with|.tup [_,_,r,_]=>r|_=>d
@[simp]theorem ahe{a b c e:D}:Ce (.tup [a,b,c,e])=c:=rfl
inductive F2o(a b:Sl)(ρ:List Sl):Prop where|mk(s:Sl)(q0:ρ=[a,b,s])(q1:fr s=bj)
noncomputable def mL(ws:List Wy):List Int:=ws.map Wy.r
theorem wL(q:ws.length<=6)(k:Q (.val (aV m (Ob ws (mL ws) (mL ws)))) [.val av (aV m ws)]):(run Γ w (n+3) 27 [.val av (aV m ws)]).sat Q:=by
 refine aX (d:=Vi) rfl rfl (by decide) ?_;symm;simp[Vi];refine xQ q ?_;simp;apply ak;simp[show ws.length<=16777216 by lia];refine cV (F2o _ _) Ce ⟨.aW,rfl,rfl⟩ ?_ ?_;.rintro d hd _⟨s,rfl,hs⟩;obtain⟨v,_,rfl⟩:=ej.mp hd;simp[hs,Wy.d];exact⟨_,rfl,rfl⟩
 rintro _⟨s,rfl,hs⟩;have e:(ws.map Wy.d).map Ce=(mL ws).map D.int:=by unfold mL;rw[fe,fe];rfl
 rw[e];have h:(mL ws).length=ws.length:=dV _;generalize mL ws=ls at*;simp;apply ak;simp;refine wy (by lia) h h (.inl ⟨_,rfl⟩) (.inr ⟨_,rfl⟩) ?_;simp;exact k
noncomputable def fits(ws:List Wy)(ls:List Int):Prop:=ls.length=ws.length/\∀(j:Nat)v l,ws[j]?=ap v->ls[j]?=ap l->0<=l/\l<=v.r
theorem Xc{r:List Int}(h:kY m ws)(E:ws.length<=6)(h1:fo.length=ws.length)(A:r.length=ws.length)(B:∀l∈fo,0<=l/\l<=1000000000)(C:∀l∈r,0<=l/\l<=1000000000):kY m (Ob ws fo r):=by
 refine⟨h.m0,h.m1,by unfold Ob;rw[d_,sW h1,sE A];lia,λu hu=>?_⟩;rcases eM.mp hu with hu|hu;.obtain⟨k,t,e⟩:=k8 hu;obtain⟨v,l,y,z,rfl⟩:=JT (ws:=ws) (ls:=fo) (k:=k) (u:=u) (by rw[gi t,e]);have q:=h.ok v (du y);have:=B l (du z);exact⟨q.s0,q.s1,q.t0,q.t1,q.ne,this.1,this.2,q.h0,q.h1⟩
 .obtain⟨k,t,e⟩:=k8 hu;obtain⟨v,l,y,z,rfl⟩:=Ks (ws:=ws) (ls:=r) (k:=k) (u:=u) (by rw[gi t,e]);have q:=h.ok v (du y);have:=C l (du z);exact⟨q.t0,q.t1,q.s0,q.s1,λe=>q.ne e.symm,this.1,this.2,q.h0,q.h1⟩
@[simp]theorem Sd{i n:Nat}{a h:P}{is:List Nat}{one:Bool}{e:Option P}:isVar (.oF i a n is one e h)=none:=rfl
theorem K6{F:List Int}(h:n<=F.length):cut F (ap (n:Int)) none=F.drop n:=by unfold cut fH;simp;rw[Nat.min_eq_left h,iA (by simp)]
inductive F3w(a b:Sl)(ρ:List Sl):Prop where|mk(s:Sl)(t:Sl)(q0:ρ=[a,b,s,t])(q1:fr s=bj)(q2:fr t=bj)
theorem aho:∀{fs:List Int},((fs.map D.int).zip (ws.map Wy.d)).map (λp=>D.tup [p.1,p.2])=(fs.zip ws).map λp=>D.tup [.int p.1,p.2.d]:=by intro fs;rw[List.zip_map,fe];rfl
theorem MJ{bs:List Bool}:(bs.map D.bl).mapM Bx=ap bs:=by induction bs with|nil=>rfl|cons b bs e=>simp[e]
noncomputable def Tc(p:Int×Wy):Bool:=decide (0<=p.1)&&decide (p.1<=p.2.r)
noncomputable def okD:D->D|.tup [.int l,.tup [_,_,.int r,_]]=>.bl (decide (0<=l)&&decide (l<=r))|d=>d
theorem Mr{l s t r h:Int}:okD (.tup [.int l,.tup [.int s,.int t,.int r,.int h]])=.bl (decide (0<=l)&&decide (l<=r)):=rfl
@[simp]theorem ais{l:Int}{v:Wy}:okD (.tup [.int l,v.d])=.bl (Tc (l,v)):=rfl
theorem yX(u:ws.length<=12)(y:ls.length<=12)(k:Q (.val (.bl ((ls.zip ws).all Tc))) [.val av (aV m ws),.val av (.tup (ls.map D.int))]):(run Γ w (n+1) 16 [.val av (aV m ws),.val av (.tup (ls.map D.int))]).sat Q:=by
 refine aX (d:=f16) rfl rfl (by decide) ?_;symm;simp[f16];rw[aho];refine⟨λ_=>?_,by show _<=16777216;lia⟩;refine cV (F3w _ _) okD ⟨.aW,.aW,rfl,rfl,rfl⟩ ?_ ?_
 . rintro d hd _⟨s,t,rfl,hs,h⟩;obtain⟨⟨l,v⟩,z,rfl⟩:=ej.mp hd;by_cases h1:0<=l
   . by_cases q:l<=v.r;.simp[hs,h,Wy.d,h1,q,Mr];exact⟨_,_,rfl,rfl,rfl⟩
     .simp[hs,h,Wy.d,h1,q,Mr];exact⟨_,_,rfl,rfl,rfl⟩
   .simp[hs,h,Wy.d,h1,Mr];exact⟨_,_,rfl,rfl,rfl⟩
 . rintro _⟨s,t,rfl,hs,h⟩;have e:((ls.zip ws).map λp=>D.tup [.int p.1,p.2.d]).map okD=((ls.zip ws).map Tc).map D.bl:=by rw[fe,fe];exact hU λp _=>rfl
   rw[e,MJ];simp;rw[show((ls.zip ws).all Tc)=((ls.zip ws).all Tc)from rfl]at k;first|exact k|skip
theorem JZ(q:ls.length=ws.length):(ls.zip ws).all Tc=bj↔fits ws ls:=by
 rw[fg];constructor;.intro h;refine⟨q,λj v l r t=>?_⟩;have:=h (l,v) (du (i:=j) (by rw[hE];exact⟨t,r⟩));simpa[Tc]using this
 .rintro h⟨l,v⟩u;obtain⟨j,e⟩:=k6 u;rw[hE]at e;have:=h.2 j v l e.2 e.1;simpa[Tc]using this
theorem pA(e:ws.length<=12)(q:ls.length<=12)(k:∀b,(b=bj↔fits ws ls)->Q (.val (.bl b)) [.val av (aV m ws),.val av (.tup (ls.map D.int))]):(run Γ w (n+2) 28 [.val av (aV m ws),.val av (.tup (ls.map D.int))]).sat Q:=by
 refine aX (d:=U4) rfl rfl (by decide) ?_;symm;by_cases he:ls.length=ws.length;.simp[U4,he];refine yX e q ?_;simp;exact k _ (JZ he)
 .simp[U4,show ¬((ls.length:Int)=(ws.length:Int))by lia];exact k av ⟨λh=>(by cases h),λh=>absurd h.1 he⟩
theorem zb(e:ws.length<=12)(h:fits ws ls)(k:Q (.val (.bl bj)) [.val av (aV m ws),.val av (.tup (ls.map D.int))]):(run Γ w (n+2) 28 [.val av (aV m ws),.val av (.tup (ls.map D.int))]).sat Q:=pA e (by rw[h.1];exact e) λb q=>by rw[q.mpr h];exact k
noncomputable def Dm:List Wy->List Int->List Int|v::ws,l::ls=>(v.r-l)::Dm ws ls|_,_=>[]
theorem tR:∀{ws:List Wy}{ls:List Int},ls.length=ws.length->(Dm ws ls).length=ws.length|[],[],_=>rfl|[],_::_,h=>by simp at h|_::_,[],h=>by simp at h|w::ws,l::ls,h=>by simp[Dm,tR (ws:=ws) (ls:=ls) (by simpa using h)]
theorem KJ:∀{ws:List Wy}{ls:List Int}{k:Nat}{v:Wy}{l:Int},ws[k]?=ap v->ls[k]?=ap l->(Dm ws ls)[k]?=ap (v.r-l)|[],_,k,v,l,h,_=>by simp at h|_::_,[],k,v,l,_,h=>by simp at h|w::ws,x::ls,0,v,l,h,h'=>by simp at h h';subst h h';simp[Dm]|w::ws,x::ls,k+1,v,l,h,h'=>by simp only[Dm,fm]at h h' ⊢;exact KJ h h'
noncomputable def zbD:D->D|.tup [.tup [_,_,.int r,_],.int l]=>.int (r-l)|d=>d
@[simp]theorem aiK{a b e:D}{r l:Int}:zbD (.tup [.tup [a,b,.int r,e],.int l])=.int (r-l):=rfl
theorem M7:∀{ws:List Wy}{ls:List Int},((((ws.map Wy.d).zip (ls.map D.int)).map λp=>D.tup [p.1,p.2]).map zbD)=(Dm ws ls).map D.int|[],_=>by simp[Dm]|_::_,[]=>by simp[Dm]|w::ws,l::ls=>by have:=M7 (ws:=ws) (ls:=ls);simp only[dQ,lc,Dm,this];rfl
theorem Hf(r:ws.length<=6)(e:fits ws ls)(k:Q (.val (aV m (Ob ws ls (Dm ws ls)))) [.val av (aV m ws),.val av (.tup (ls.map D.int))]):(run Γ w (n+3) 29 [.val av (aV m ws),.val av (.tup (ls.map D.int))]).sat Q:=by
 refine aX (d:=QQ) rfl rfl (by decide) ?_;symm;simp[QQ];refine xQ r ?_;simp;apply ak;simp;refine zb (by lia) e ?_;simp;apply ak;simp;refine⟨λ_=>?_,by show _<=16777216;lia⟩;refine cV (F3w _ _) zbD ⟨.aW,.aW,rfl,rfl,rfl⟩ ?_ ?_;.rintro d hd _⟨s,t,rfl,hs,h⟩;obtain⟨⟨x,y⟩,q,rfl⟩:=ej.mp hd;obtain⟨v,_,rfl⟩:=ej.mp (jI q).1;obtain⟨l,_,rfl⟩:=ej.mp (jI q).2;simp[hs,h,Wy.d];exact⟨_,_,rfl,rfl,rfl⟩
 rintro _⟨s,t,rfl,hs,h⟩;rw[M7];simp;refine wy (by lia) e.1 (tR e.1) (.inr ⟨_,rfl⟩) (.inl ⟨_,rfl⟩) ?_;simp;exact k
theorem wH(h:kY m ws):∀l∈mL ws,0<=l/\l<=1000000000:=λl q=>by obtain⟨v,e,rfl⟩:=ej.mp q;exact⟨(h.ok v e).r0,(h.ok v e).r1⟩
noncomputable def LX(s:Sl)(ls:List Int):Prop:=(∃b,s=.own b (ls.map D.int))\/(∃b,s=.val b (.lst (ls.map D.int)))\/(∃b,s=.val b (.tup (ls.map D.int)))
theorem Kw:∀{ws:List Wy}{ls:List Int}{k:Nat}{v:Wy}{l:Int},ws[k]?=ap v->ls[k]?=ap l->(sY ws ls)[k]?=ap ⟨v.t,v.s,l,v.h⟩|[],_,k,v,l,h,_=>by simp at h|_::_,[],k,v,l,_,h=>by simp at h|w::ws,x::ls,0,v,l,h,h'=>by simp at h h';subst h h';simp[sY]|w::ws,x::ls,k+1,v,l,h,h'=>by simp only[sY,fm]at h h' ⊢;exact Kw h h'
structure Fth(ws:List Wy)(F fo:List Int):Prop where
 len:fo.length=ws.length
 at_:∀(j:Nat)v g,ws[j]?=ap v->F[ws.length+j]?=ap g->fo[j]?=ap (v.r-g)
inductive JLn(ws:List Wy)(fo ba:List Int)(a0 a1 a2:Sl)(i:Nat)(ρ:List Sl):Prop where|mk(s4:Sl)(s5:Sl)(s6:Sl)(s7:Sl)(s8:Sl)(q0:ρ=[a0,a1,a2,.own av (((rH ws fo)++(sY ws ba).take i).map Wy.d),s4,s5,s6,s7,s8])(q1:A5 (fr s4=bj) (fr s5=bj) (fr s6=bj) (fr s7=bj) (fr s8=bj))
inductive JDu(ws:List Wy)(fo:List Int)(a0 a1 a2:Sl)(i:Nat)(ρ:List Sl):Prop where|mk(s4:Sl)(s5:Sl)(s6:Sl)(s7:Sl)(s8:Sl)(q0:ρ=[a0,a1,a2,.own av (((rH ws fo).take i).map Wy.d),s4,s5,s6,s7,s8])(q1:A5 (fr s4=bj) (fr s5=bj) (fr s6=bj) (fr s7=bj) (fr s8=bj))
theorem zQ{s1 s2:Sl}{u:List Int}(Y:ws.length<=6)(H:fo.length=ws.length)(I:u.length=ws.length)(h1:LX s1 fo)(U:LX s2 u)(k:Q (.val (aV m (Ob ws fo u))) [.val av (aV m ws),s1,s2]):(run Γ w (n+1) 36 [.val av (aV m ws),s1,s2]).sat Q:=by
 refine aX (d:=f36) rfl rfl (by decide) ?_;have W:=sW (ws:=ws) H;have X:=sE (ws:=ws) I;refine eO (λρ=>ρ=[.val av (aV m ws),s1,s2,.own av [],.aW,.aW,.aW,.aW,.aW]) (by simp[f36]) ?_;rintro _ rfl;refine eO (JDu ws fo (.val av (aV m ws)) s1 s2 ws.length) ?_ ?_
 . simp[show(ws.length:Int)<=1000000000 by lia];refine kE (JDu ws fo (.val av (aV m ws)) s1 s2) ?_ ?_ ⟨.aW,.aW,.aW,.aW,.aW,by simp,rfl,rfl,rfl,rfl,rfl⟩
   . rintro i _ hi⟨s4,s5,s6,s7,s8,rfl,y,z,q,A,B⟩;have E:ws[i]?=ap ws[i]:=by simp[hi]
     have G:fo[i]?=ap (fo[i]'(by lia)):=by simp[show i<fo.length by lia]
     have J:=dO (f:=Wy.d) E;have L:=dO (f:=D.int) G;have M:=MP E G;have C:(rH ws fo).take (i+1)=(rH ws fo).take i++[{ws[i]with r:=fo[i]'(by lia)}]:=by rw[List.take_add_one,M];rfl
     generalize ws[i]=v at*;generalize fo[i]'(by lia)=l at*;rcases h1 with⟨b,rfl⟩|⟨b,rfl⟩|⟨b,rfl⟩;all_goals simp[y];apply ak;simp[J,Wy.d,z,q,A,B];apply ak;simp[L,show min i (rH ws fo).length<16777216 by lia];exact⟨.val av (.int i),.val av (.int v.s),.val av (.int v.t),.val av (.int v.r),.val av (.int v.h),by rw[C];simp[Wy.d],rfl,rfl,rfl,rfl,rfl⟩
   .rintro _⟨s4,s5,s6,s7,s8,rfl,y,z,q,A,B⟩;exact⟨rfl,_,_,_,_,_,rfl,y,z,q,A,B⟩
 rintro _⟨s4,s5,s6,s7,s8,rfl,y,z,q,A,B⟩;rw[iA (by lia)];refine eO (JLn ws fo u (.val av (aV m ws)) s1 s2 ws.length) ?_ ?_
 . simp[show(ws.length:Int)<=1000000000 by lia];refine kE (JLn ws fo u (.val av (aV m ws)) s1 s2) ?_ ?_ ⟨s4,s5,s6,s7,s8,by simp,y,z,q,A,B⟩
   . rintro i _ hi⟨s4,s5,s6,s7,s8,rfl,y,z,q,A,B⟩;have E:ws[i]?=ap ws[i]:=by simp[hi]
     have G:u[i]?=ap (u[i]'(by lia)):=by simp[show i<u.length by lia]
     have J:=dO (f:=Wy.d) E;have L:=dO (f:=D.int) G;have M:=Kw E G;have C:(sY ws u).take (i+1)=(sY ws u).take i++[⟨ws[i].t,ws[i].s,u[i]'(by lia),ws[i].h⟩]:=by rw[List.take_add_one,M];rfl
     generalize ws[i]=v at*;generalize u[i]'(by lia)=l at*;have O:((rH ws fo)++(sY ws u).take i).length<16777216:=by rw[d_,ke];lia
     rcases U with⟨b,rfl⟩|⟨b,rfl⟩|⟨b,rfl⟩;all_goals simp[y];apply ak;simp[J,Wy.d,z,q,A,B];apply ak;simp[L,show(rH ws fo).length+min i (sY ws u).length<16777216 by lia];exact⟨.val av (.int i),.val av (.int v.s),.val av (.int v.t),.val av (.int v.r),.val av (.int v.h),by rw[C];simp[Wy.d],rfl,rfl,rfl,rfl,rfl⟩
   .rintro _⟨s4,s5,s6,s7,s8,rfl,y,z,q,A,B⟩;exact⟨rfl,_,_,_,_,_,rfl,y,z,q,A,B⟩
 rintro _⟨s4,s5,s6,s7,s8,rfl,_⟩;rw[iA (by lia)];symm;simp;have e:D.tup [.int m,.tup ((rH ws fo).map Wy.d++(sY ws u).map Wy.d)]=aV m (Ob ws fo u):=by unfold aV Ob;rw[kQ]
 rw[e];exact k
theorem sV{c:Call}:ex c n (.vX k) ρ=.stuck:=(rfl)
theorem Lf(e:6<ws.length):run Γ w (n+1) 25 [.val av (aV m ws)]=.exc 2 [.val av (aV m ws)]:=by rw[jt (d:=Xm) rfl];unfold enter;simp[Xm,b25,sV,fJ,jw,xV,jf,show(6:Int)<ws.length by lia]
theorem yz(e:6<ws.length):run Γ w (n+2) 27 [.val av (aV m ws)]=.exc 2 [.val av (aV m ws)]:=by rw[jt (d:=Vi) rfl];unfold enter;simp[Vi,b27,sV,jf,fJ,jw,xV,gY,jV,iR,jY,jZ,jW,iU,iT,gK,dJ,bw,Lf e]
theorem Kc{d:D}(e:6<ws.length):run Γ w (n+2) 29 [.val av (aV m ws),.val av d]=.exc 2 [.val av (aV m ws),.val av d]:=by rw[jt (d:=QQ) rfl];unfold enter;simp[QQ,b29,sV,jf,fJ,jw,xV,gY,jV,iR,jY,jZ,jW,iU,iT,gK,dJ,bw,Lf e]
theorem Pq{T:Int}(e:6<ws.length):∃args,run Γ w (n+3) 30 [.val av (aV m ws),.val av (.int T)]=.exc 2 args:=by rw[jt (d:=f30) rfl];unfold enter;simp[f30,b30,ex,jf,fJ,jw,xV,gY,jV,iR,jY,jZ,jW,iU,iT,gK,dJ,bw,yz e]
theorem MF{T:Int}{d:D}(e:6<ws.length):∃args,run Γ w (n+3) 31 [.val av (aV m ws),.val av (.int T),.val av d]=.exc 2 args:=by rw[jt (d:=Wr) rfl];unfold enter;simp[Wr,b31,ex,jf,fJ,jw,xV,gY,jV,iR,jY,jZ,jW,iU,iT,gK,dJ,bw,yz e]
theorem Ls{ds:List D}{a b:P}(h1:Ht a=av)(e:Ht b=bj){d:D}:Kh (.tup ds) (part a (.int i)) (part b d)=ap (.val (.tup (cut ds (ap i) none))):=by unfold part;rw[h1,e];rfl
theorem TQ{ds:List D}{a b:P}(h1:Ht a=bj)(e:Ht b=av){d:D}:Kh (.tup ds) (part a d) (part b (.int i))=ap (.val (.tup (cut ds none (ap i)))):=by unfold part;rw[h1,e];rfl
theorem JR{F:List Int}(h:n<=F.length):cut F none (ap (n:Int))=F.take n:=by unfold cut fH;simp
theorem aaT(e:ws[j]?=ap v)(h:j<fo.length)(q:b<0\/v.r<b):¬ fits ws (fo.take j++[b]++fo.drop (j+1)):=λz=>by have:=z.2 j v b e (by simp[List.getElem?_append,show min j fo.length=j by lia]);lia
theorem Mg{A:Int}(hd:0<ds.length)(E:0<=A)(U:ws.length<=6)(G:fo.length=ws.length)(k:∀ls:List Int,ls.length<=100->¬ fits ws ls->Q (.val (.tup (ls.map D.int))) [.own bj (ds.map D.int),.val av (.int A),.val av (aV m ws),.val av (.tup (fo.map D.int))]):(run Γ w (n+2) 38 [.own bj (ds.map D.int),.val av (.int A),.val av (aV m ws),.val av (.tup (fo.map D.int))]).sat Q:=by
 refine aX (d:=f38) rfl rfl (by decide) ?_;symm;simp[f38];refine cQ hd E (by lia) (by lia) λc c0 c1=>?_;obtain⟨j,rfl⟩:∃j:Nat,c=(j:Int):=⟨c.toNat,by lia⟩;simp;apply ak;simp;refine cQ hd (by lia) (by lia) (by lia) λe f0 f1=>?_;simp;apply ak;have q:∀a:Nat,a<=16777216->a<=lim:=λa h=>h;by_cases H:j=fo.length
 . subst H;obtain⟨x0,x1⟩:=pg e (b:=2) (by lia);obtain⟨W,X⟩:=pg e (b:=7) (by lia);have go:∀ls:List Int,ls.length<=100->ls.length≠fo.length->Q (.val (.tup (ls.map D.int))) [.own bj (ds.map D.int),.val av (.int A),.val av (aV m ws),.val av (.tup (fo.map D.int))]:=λls h1 I=>k ls h1 λz=>I (by rw[z.1,G]);simp;apply ak;simp;refine⟨q _ (by lia),by lia,q _ (by lia),?_⟩;obtain z|z:e%2=0\/e%2=1:=by lia
   . have t:∀a b:D,at' [a,b] (e%2)=ap a:=λa b=>by rw[z];rfl
     simp[t];have:=go (fo++[0]) (by simp;lia) (by simp);simpa using this
   . have t:∀a b:D,at' [a,b] (e%2)=ap b:=λa b=>by rw[z];rfl
     simp[t];have:=go (fo++cp (1+e%7).toNat 0) (by simp;lia) (by simp;lia);simpa using this
 . have J:j<ws.length:=by lia
   have C:ws[j]?=ap ws[j]:=by simp[J]
   have L:=dO (f:=Wy.d) C;simp[show ¬((j:Int)=(fo.length:Int))by lia];apply ak;simp[L,Wy.d];generalize ws[j]=v at*;symm;simp;refine cQ hd (by lia) (by lia) (by lia) λc c0 c1=>?_;have u:=sO (cs:=fo) (a:=none) (b:=ap (j:Int));have B:=sO (cs:=fo) (a:=ap ((j:Int)+1)) (b:=none);rw[JR (by lia)]at u;rw[show(j:Int)+1=((j+1:Nat):Int)by lia,K6 (by lia)]at B;obtain⟨b,M,O⟩:∃b:Int,at' [D.int (-1),.int (v.r+1),.int (-1-e),.int (v.r+1+e)] c=ap (.int b)/\(b<0\/v.r<b):=by
    obtain rfl|rfl|rfl|rfl:c=0\/c=1\/c=2\/c=3:=by lia
    .exact⟨_,rfl,by lia⟩
    .exact⟨_,rfl,by lia⟩
    .exact⟨_,rfl,by lia⟩
    .exact⟨_,rfl,by lia⟩
   simp[M];apply ak;simp;refine cQ hd (by lia) (by lia) (by lia) λc2 _ _=>?_;simp;have Y:(fo.take j).length=j:=by simp;lia
   have Z:(fo.drop (j+1)).length=fo.length-(j+1):=by simp
   refine⟨λ_=>?_,λ_=>?_⟩;.symm;simp[TQ (a:=.con .non) (b:=.var 4) rfl rfl,Ls (a:=.bin .add (.var 4) (.con (.int 1))) (b:=.con .non) rfl rfl];rw[show(j:Int)+1=((j+1:Nat):Int)by lia,u,B];have:=k (fo.take j++fo.drop (j+1)) (by rw[d_];lia) (λz=>by have:=z.1;rw[d_]at this;lia);rw[kQ]at this;generalize fo.take j=x at*;generalize fo.drop (j+1)=y at*;simp;exact⟨q _ (by lia),this⟩
   .symm;simp[TQ (a:=.con .non) (b:=.var 4) rfl rfl,Ls (a:=.bin .add (.var 4) (.con (.int 1))) (b:=.con .non) rfl rfl];rw[show(j:Int)+1=((j+1:Nat):Int)by lia,u,B];have:=k (fo.take j++[b]++fo.drop (j+1)) (by rw[d_,d_];simp;lia) (aaT C (by lia) O);rw[kQ,kQ]at this;generalize fo.take j=x at*;generalize fo.drop (j+1)=y at*;simp;refine⟨q _ (by lia),q _ (by lia),?_⟩;simpa using this
theorem PK{c:Call}{i:Nat}{e q:P}:ex c n (.Bc i e q) ρ=(ev c e ρ).bind λr ρ=>(lift (put ρ i (vP r)) ρ).bind λh _=>.ok .next h:=(rfl)
theorem pP(e:ws.length<=12)(r:ls.length<=100)(h:¬ fits ws ls)(k:Q (.val (.bl av)) [.val av (aV m ws),.val av (.tup (ls.map D.int))]):(run Γ w (n+2) 28 [.val av (aV m ws),.val av (.tup (ls.map D.int))]).sat Q:=by
 by_cases he:ls.length=ws.length;.exact pA e (by lia) λb q=>by cases b with|false=>exact k|true=>exact absurd (q.mp rfl) h
 .refine aX (d:=U4) rfl rfl (by decide) ?_;symm;simp[U4,show ¬((ls.length:Int)=(ws.length:Int))by lia];exact k
theorem CQ(e:ws.length<=6)(h:ls.length<=100)(q:¬ fits ws ls):run Γ w (n+3) 29 [.val av (aV m ws),.val av (.tup (ls.map D.int))]=.exc 4 [.val av (aV m ws),.val av (.tup (ls.map D.int))]:=by obtain⟨_,_,t,rfl,rfl⟩:=sat_iff.mp (xQ (w:=w) (n:=n+1) (m:=m) (Q:=λr ρ=>r=.val .non/\ρ=[.val av (aV m ws)]) e ⟨rfl,rfl⟩);obtain⟨_,_,u,rfl,rfl⟩:=sat_iff.mp (pP (w:=w) (n:=n) (m:=m) (Q:=λr ρ=>r=.val (.bl av)/\ρ=[.val av (aV m ws),.val av (.tup (ls.map D.int))]) (by lia) h q ⟨rfl,rfl⟩);rw[jt (d:=QQ) rfl];unfold enter;simp[QQ,b29,sV,jf,fJ,jw,xV,gY,jV,iR,jY,jZ,jW,iU,iT,gK,dJ,bw,t,u]
theorem xJ{T:Int}(r:13286250<=w)(h:kY m ws)(e:ws.length<=6)(t:T<=1000000000000000000)(u:ls.length<=100)(y:¬ fits ws ls)(k:Q (.val (.bl av)) [.val av (aV m ws),.val av (.int T),.val av (.tup (ls.map D.int))]):(run Γ w (n+7) 31 [.val av (aV m ws),.val av (.int T),.val av (.tup (ls.map D.int))]).sat Q:=by have q:(mL ws).length=ws.length:=dV _;have z:=Xc h e q q (wH h) (wH h);refine aX (d:=Wr) rfl rfl (by decide) ?_;symm;simp[Wr,PK];refine wL e ?_;simp;refine Bl r z t λ_=>?_;simp;apply ak;simp;refine pP (by lia) u y ?_;simp;exact k
theorem Bk(h:ws.length<=6)(q:ls.length<=100)(r:¬ fits ws ls)(k:Q (.val (.str "much")) [.aW,.aW,.aW]):(run Γ w (n+4) 37 [.val av (aV m ws),.val av (.tup (ls.map D.int)),.val av (.int 1)]).sat Q:=by have e:=CQ (w:=w) (n:=n) (m:=m) h q r;refine aX (d:=YK) rfl rfl (by decide) ?_;symm;simp[YK];apply ak;rw[ex];simp[jf,fJ,jw,xV,gY,jV,iR,jY,jZ,jW,iU,iT,gK,dJ,bw,e];refine⟨λ_ _ _ _ _=>?_,rfl,rfl,rfl,rfl,rfl⟩;simp[Qu,fJ];exact k
theorem BL{i:Nat}{d:D}(e:6<ws.length)(hi:i<4)(k:Q (.val (.str "many")) [.aW,.aW,.aW]):(run Γ w (n+4) 37 [.val av (aV m ws),.val av d,.val av (.int (i:Int))]).sat Q:=by
 have h:=yz (w:=w) (n:=n+1) (m:=m) e;have q:=Kc (w:=w) (n:=n+1) (m:=m) (d:=d) e;obtain⟨_,r⟩:=Pq (w:=w) (n:=n) (m:=m) (T:=5) e;obtain⟨_,t⟩:=MF (w:=w) (n:=n) (m:=m) (T:=5) (d:=d) e;refine aX (d:=YK) rfl rfl (by decide) ?_;symm;simp[YK];apply ak;rw[ex];obtain rfl|rfl|rfl|rfl:i=0\/i=1\/i=2\/i=3:=by lia
 all_goals simp[jf,fJ,jw,xV,gY,jV,iR,jY,jZ,jW,iU,iT,gK,dJ,bw,h,q,r,t];refine⟨λ_ _ _ _ _=>?_,rfl,rfl,rfl,rfl,rfl⟩;simp[Qu,fJ];exact k
inductive JWd(m:Int)(ws:List Wy)(N:Nat)(a0:Sl)(t:Nat)(ρ:List Sl):Prop where|mk(us:List Wy)(q0:ρ=[a0,.val av (aV m ws),.val av (.int (N:Int)),.own av (us.map Wy.d)])(q1:(∀v∈us,v.Ok m))(q2:us.length+t=N)
theorem HJ(u:13286250<=w)(hd:0<ds.length)(h:kY m ws)(y:ws.length<=6)(k:∀e,kY m e->6<e.length->Q (.val (aV m e)) [.own bj (ds.map D.int),.val av (aV m ws)]):(run Γ w (n+5) 39 [.own bj (ds.map D.int),.val av (aV m ws)]).sat Q:=by
 have m0:=h.m0;have m1:=h.m1;refine aX (d:=f39) rfl rfl (by decide) ?_;symm;simp[f39];refine cQ hd (by lia) (by lia) (by lia) λc c0 c1=>?_;obtain⟨N,r⟩:∃N:Nat,7+c=(N:Int):=⟨(7+c).toNat,by lia⟩;simp[r];apply ak;simp[show ws.length<=16777216 by lia];apply ak;simp;refine kW (JWd m ws N _) ?_ (k:=w) (m:=N-ws.length) (by lia) ⟨ws,rfl,h.ok,by lia⟩;rintro t _⟨e,rfl,ho,z⟩;by_cases A:t=0
 . have:e.length=N:=by lia
   simp[this];apply ak;simp;have q:kY m e:=⟨m0,m1,by lia,ho⟩;refine zy q ?_;simp;exact k e q (by lia)
 . simp[show e.length<N by lia];symm;simp[show e.length<16777216 by lia];refine⟨t-1,by lia,e++[⟨0,m-1,e.length,1+e.length⟩],by simp[Wy.d],λv hv=>?_,by simp;lia⟩;rcases eM.mp hv with hv|hv;.exact ho v hv
   . obtain rfl:v=⟨0,m-1,e.length,1+e.length⟩:=by simpa using hv
     exact⟨iL 0,by show(0:Int)<m;lia,by show 0<=m-1;lia,by show m-1<m;lia,by show(0:Int)≠m-1;lia,by show(0:Int)<=e.length;lia,by show(e.length:Int)<=_;lia,by show 1<=1+(e.length:Int);lia,by show 1+(e.length:Int)<=_;lia⟩
inductive Zp{α β:Type}(R:α->β->Prop):List α->List β->Prop|nil:Zp R [] []|cons{a:α}{b:β}{l:List α}{k:List β}:R a b->Zp R l k->Zp R (a::l) (b::k)
theorem Zp.len{e q:Type}{R:e->q->Prop}{l:List e}{k:List q}(h:Zp R l k):k.length=l.length:=by induction h with|nil=>rfl|cons _ _ r=>simp[r]
theorem Zp.get{q t:Type}{R:q->t->Prop}{l:List q}{k:List t}(h:Zp R l k):∀{i:Nat}{a:q},l[i]?=ap a->∃b,k[i]?=ap b/\R a b:=by induction h with|nil=>intro i a e;simp at e|cons r _ u=>intro i a e;cases i with|zero=>simp at e;subst e;exact⟨_,by simp,r⟩|succ i=>simp at e;obtain⟨b,y,z⟩:=u e;exact⟨b,by simpa using y,z⟩
theorem Zp.ints{e:Type}{P:e->Int->Prop}{l:List e}{xs:List D}(h:Zp (λa d=>∃i:Int,d=D.int i/\P a i) l xs):∃is:List Int,xs=is.map D.int/\Zp P l is:=by induction h with|nil=>exact⟨[],rfl,.nil⟩|cons r _ q=>obtain⟨i,rfl,p⟩:=r;obtain⟨is,rfl,z⟩:=q;exact⟨i::is,rfl,.cons p z⟩
theorem G8{A:Type}{c:Call}{is:List Nat}{one:Bool}{t:P}(J:List Sl->Prop)(e:A->D)(B:A->D->Prop){Q:List D->List Sl->Prop}{l:List A}(j:J ρ)(h:∀p∈l,∀ρ,J ρ->∃u,cO ρ is one (e p)=ap u/\(ev c t u).sat λr z=>B p r.d/\J z)(k:∀xs ρ,J ρ->Zp B l xs->Q xs ρ):(pQ c is one none t (l.map e) ρ).sat Q:=by
 suffices hh:∀(l:List A)(y:List D)(ρ:List Sl),J ρ->(∀p∈l,∀ρ,J ρ->∃u,cO ρ is one (e p)=ap u/\(ev c t u).sat λr z=>B p r.d/\J z)->(turns is one (pq c none) (ev c t) (l.map e) y ρ).sat λxs ρ=>J ρ/\∃ys,xs=y++ys/\Zp B l ys from(hh l [] ρ j h).imp λxs ρ⟨C,ys,q2,q3⟩=>by rw[q2];exact k ys ρ C q3
 intro l;induction l with|nil=>intro y ρ j _;exact⟨j,[],by simp,.nil⟩|cons p l E=>intro y ρ j h;obtain⟨u,G,h1⟩:=h p (by simp) ρ j;rw[dQ];show(match cO ρ is one (e p)with|none=>Res.stuck|some ρ=>(pq c none ρ).bind λ(b:Bool)(ρ:List Sl)=>if b=bj then(ev c t ρ).bind λ(x:R)(ρ:List Sl)=>turns is one (pq c none) (ev c t) (l.map e) (y++[x.d]) ρ else turns is one (pq c none) (ev c t) (l.map e) y ρ).sat _;rw[G];show((pq c none u).bind _).sat _;rw[pq];show((ev c t u).bind _).sat _;rw[cX];refine h1.imp λr z⟨H,j3⟩=>?_;exact(E (y++[r.d]) z j3 λq I=>h q (by simp[I])).imp λxs ρ⟨C,ys,q2,q3⟩=>⟨C,r.d::ys,by rw[q2];simp,.cons H q3⟩
theorem K3:cm .ne (aV m ws) (aV m ws)=ap av:=by
 have h:(ws.map Wy.d).all (j8 6)=bj:=by rw[fg];intro d hd;obtain⟨v,_,rfl⟩:=ej.mp hd;rfl
 have q:∀e:List Wy,lg (e.map Wy.d) (e.map Wy.d)=bj:=λe=>by induction e with|nil=>rfl|cons v e u=>show(((v.s==v.s)&&((v.t==v.t)&&((v.r==v.r)&&((v.h==v.h)&&bj))))&&lg (e.map Wy.d) (e.map Wy.d))=bj;rw[u];simp
 have hd:j8 8 (aV m ws)=bj:=by show(bj&&((ws.map Wy.d).all (j8 6)&&bj))=bj;rw[h];rfl
 show(if _ then _ else _)=_;rw[if_pos (by simp[hd])];show ap (!((m==m)&&(lg (ws.map Wy.d) (ws.map Wy.d)&&bj)))=_;rw[q];simp
theorem ne_str{s:PySem.Str}:cm .ne (.str s) (.str s)=ap av:=by show ap (!(s==s))=_;simp
theorem Qp{s:PySem.Str}:cm .ne (.lst [.str s,.str s,.str s,.str s]) (.lst [.str s,.str s,.str s,.str s])=ap av:=by show ap (!((s==s)&&((s==s)&&((s==s)&&((s==s)&&bj)))))=_;simp
theorem WX:cm .Np (.bl av) (.bl av)=ap av:=rfl
noncomputable def QR(ws:List Wy)(fo:List Int)(d:D):D:=.int ((Dm ws fo).getD (oO d).toNat 0)
theorem JQ(e:fo.length=ws.length):((eu ws.length).map λ(k:Nat)=>D.int (k:Int)).map (QR ws fo)=(Dm ws fo).map D.int:=by
 rw[fe];have h:=tR e;refine ln (by simp[h]) λi h1 q=>?_;have hi:i<(Dm ws fo).length:=by simpa using q
 simp[QR,oO,hi]
theorem FP{i:Nat}(h:ws[i]?=ap v):(mL ws)[i]?=ap v.r:=by unfold mL;rw[eW,h];rfl
inductive F10(a0 a1 a2 a3 a4 a5 a6 a7 a8 a9:Sl)(ρ:List Sl):Prop where|mk(s:Sl)(q0:ρ=[a0,a1,a2,a3,a4,a5,a6,a7,a8,a9,s])(q1:fr s=bj)
inductive J85(a0 a1 a2 a3:Sl)(_:Nat)(ρ:List Sl):Prop where|mk(s4:Sl)(s5:Sl)(s6:Sl)(s7:Sl)(q0:ρ=[a0,a1,a2,a3,s4,s5,s6,s7,.aW,.aW])(q1:A4 (fr s4=bj) (fr s5=bj) (fr s6=bj) (fr s7=bj))
inductive K85(a0 a1 a2 a3 a4 a6 a7 a8 a9:Sl)(r:List D)(ρ:List Sl):Prop where|mk(s5:Sl)(q0:ρ=[a0,a1,a2,a3,a4,s5,a6,a7,a8,a9])(q1:fr s5=bj)
theorem Qz(ns:List Int)(hn:ns.length<=63):∃as,run Γ 100000000 40 40 [.val av (.lst (ns.map D.int))]=.ok (.val (.bl bj)) as:=by
 suffices h:(run Γ 100000000 40 40 [.val av (.lst (ns.map D.int))]).sat λr _=>r=.val (.bl bj)by obtain⟨a,ρ,e,rfl⟩:=sat_iff.mp h;exact⟨ρ,e⟩
 refine aX (d:=f40) rfl rfl (by decide) ?_;symm;simp[f40];refine Rt (M:=300) hn (by lia) λds ac Y=>?_;have hd:0<ds.length:=by lia
 simp;apply ak;simp;refine Ku Y hd (by lia) (by lia) (by lia) (by lia) λm ws L _ ae=>?_;have A:ws.length<=6:=by lia
 have H:(mL ws).length=ws.length:=dV _;simp;apply ak;simp[show ws.length<=16777216 by lia];refine cV (F10 _ _ _ _ _ _ _ _ _ _) Ce ⟨.aW,rfl,rfl⟩ ?_ ?_;.rintro d hd _⟨s,rfl,hs⟩;obtain⟨v,_,rfl⟩:=ej.mp hd;simp[hs,Wy.d];exact⟨_,rfl,rfl⟩
 rintro _⟨s,rfl,hs⟩;have e:(ws.map Wy.d).map Ce=(mL ws).map D.int:=by unfold mL;rw[fe,fe];rfl
 rw[e];simp;apply ak;simp;refine wL A ?_;simp;refine zQ A H H (.inr (.inl ⟨_,rfl⟩)) (.inr (.inl ⟨_,rfl⟩)) ?_;simp[K3];apply ak;simp;refine kE (J85 _ _ _ _) ?_ ?_ ⟨.aW,.aW,.aW,.aW,rfl,rfl,rfl,rfl,rfl⟩
 . rintro i _ hi⟨s4,s5,s6,s7,rfl,Z,B,E,h7⟩;simp[Z];apply ak;simp[H,show(ws.length:Int)<=1000000000 by lia];refine⟨λ_=>?_,by show _<=16777216;lia⟩;refine G8 (F10 _ _ _ _ _ _ _ _ _ _) (λk:Nat=>D.int (k:Int)) (λk d=>∃l:Int,d=.int l/\∀v,ws[k]?=ap v->0<=l/\l<=v.r) ⟨.aW,rfl,rfl⟩ ?_ ?_
   . rintro j t _⟨s,rfl,hs⟩;have t:=i7.mp t;have z:ws[j]?=ap ws[j]:=by simp[t]
     have vo:=L.ok _ (du z);have O:=dO (f:=D.int) (FP z);generalize ws[j]=v at*;have r0:=vo.r0;have r1:=vo.r1;simp[hs,O];refine Aj Y hd (by lia) (by lia) (by lia) λl l0 l1=>?_;simp;exact⟨λu I=>by rw[z]at I;cases I;lia,_,rfl,rfl⟩
   rintro xs _⟨s,rfl,hs⟩hz;obtain⟨fo,rfl,U⟩:=hz.ints;clear hz;have y:fo.length=ws.length:=by simpa using U.len
   have hf:fits ws fo:=⟨y,λj v l z J=>by
    have t:j<ws.length:=by have:=(gh z).1;exact this
    obtain⟨l',e3,q⟩:=U.get (i:=j) (a:=j) (by simp[t]);rw[J]at e3;cases e3;exact q v z⟩;clear U;simp[B];apply ak;simp[H,show(ws.length:Int)<=1000000000 by lia];refine⟨λ_=>?_,by show _<=16777216;lia⟩;refine cV (F10 _ _ _ _ _ _ _ _ _ _) (QR ws fo) ⟨.aW,rfl,rfl⟩ ?_ ?_
   . rintro d hd _⟨s,rfl,hs⟩;obtain⟨j,t,rfl⟩:=ej.mp hd;have t:=i7.mp t;have z:ws[j]?=ap ws[j]:=by simp[t]
     have J:fo[j]?=ap (fo[j]'(by lia)):=by simp[show j<fo.length by lia]
     have O:=dO (f:=D.int) (FP z);have a2:=dO (f:=D.int) J;have W:QR ws fo (.int (j:Int))=.int (ws[j].r-fo[j]'(by lia)):=by show D.int ((Dm ws fo).getD (j:Int).toNat 0)=_;rw[lP,mS,KJ z J];rfl
     rw[W];generalize ws[j]=v at*;generalize fo[j]'(by lia)=l at*;simp[hs,O,a2];exact⟨_,rfl,rfl⟩
   rintro _⟨s,rfl,hs⟩;rw[JQ y];simp[E];apply ak;simp;refine Hf A hf ?_;simp;refine zQ A y (tR y) (.inr (.inr ⟨_,rfl⟩)) (.inl ⟨_,rfl⟩) ?_;simp[K3];apply ak;simp;refine Mg hd (by lia) A y λls hl G=>?_;simp[h7];apply ak;simp;refine Bk A hl G ?_;simp[ne_str];refine xJ (by lia) L A (by lia) hl G ?_;simp[WX];exact⟨_,_,_,_,rfl,rfl,rfl,rfl,rfl⟩
 rintro _⟨s4,s5,s6,s7,rfl,Z,B,E,h7⟩;simp;apply ak;simp;refine HJ (by lia) hd L A λC I X=>?_;simp;have af:=I.len;symm;simp[show C.length<=16777216 by lia];refine cV (F10 _ _ _ _ _ _ _ _ _ _) Ce ⟨.aW,rfl,rfl⟩ ?_ ?_;.rintro d hd _⟨s,rfl,hs⟩;obtain⟨v,_,rfl⟩:=ej.mp hd;simp[hs,Wy.d];exact⟨_,rfl,rfl⟩
 rintro _⟨s,rfl,hs⟩;have e:(C.map Wy.d).map Ce=(mL C).map D.int:=by unfold mL;rw[fe,fe];rfl
 rw[e];have ag:(mL C).length=C.length:=dV _;generalize mL C=rl at*;simp;apply ak;simp[Ls (a:=.con (.int 1)) (b:=.con .non) rfl rfl];have hc:(cut (rl.map D.int) (ap 1) none).length<=12:=by rw[sO,dV];unfold cut;simp;lia
 refine⟨by show _<=16777216;lia,by show _<=16777216;lia,?_⟩;refine eV (K85 _ _ _ _ _ _ _ _ _) ?_ ?_ ⟨s5,rfl,B⟩
 . rintro d r _⟨s5,rfl,B⟩;simp[B];apply ak;simp;refine⟨λ_=>?_,by show _<=16777216;lia⟩;refine cV (F10 _ _ _ _ _ _ _ _ _ _) (λ_=>.str "many") ⟨.aW,rfl,rfl⟩ ?_ ?_;.rintro x hx _⟨s,rfl,hs⟩;obtain⟨j,t,rfl⟩:=ej.mp hx;have t:=i7.mp t;simp[hs];refine BL X t ?_;simp;exact⟨_,rfl,rfl⟩
   rintro _⟨s,rfl,hs⟩;have e4:((eu 4).map λ(k:Nat)=>D.int (k:Int)).map (λ_=>D.str "many")=[.str "many",.str "many",.str "many",.str "many"]:=rfl;simp only[e4];simp;refine⟨by show _<=16777216;lia,?_⟩;rw[Qp];simp;exact⟨_,rfl,rfl⟩
 .rintro _⟨s5,rfl,B⟩;simp;apply ak;simp
end _T
end
structure PySem.W.Fast:Prop where(tw7118047682139464080 tw6255589602009053152 tw8740547725407252710 tw3405894760793975742 tw8741279332821497104 tw6036359097071372851 tw10634083718056595614 tw14644245215670100192 tw2886367869114313321 tw9935719224042855434 tw831390459096507686 tw6020842873526101062 tw15487634329896331306 tw16387105707204380964 tw11409670853908953186 tw14577602434865928334 tw3853590999952367337 tw17511436904088891903 tw8289479109860474451 tw10950496726175424996 tw17607630409159004455 tw15255903280812911711 tw14009094070087604142 tw1614358372669198412 tw1085455868884318747 tw7296869999107122664 tw5143976100371202511 tw16439160644537508251 tw14283835977195324727 tw15533803071557190964 tw5983809907556243444 tw17874859012726701251 tw9164315283282184878 tw7033672661714328921 tw12621255533655996823 tw2155215429311631357 tw3651199129424323752 tw15302078876395612085 tw2657837604027968912 tw3138110990771436517 tw8474954503199586583 tw6053415520583614474 tw17806023542593910575 tw2023994683175184515 tw6569884666193171620 tw3970698712757721760 tw9071302417331737823 tw1138852190887947883 tw13684203903694854411 tw17900424492374051657 tw8208846753249657539 tw17793897891563457150 tw3966419980703803315 tw5051539196730291905 tw10707066048719649686 tw3797961824093873876 tw11619548294165962893 tw4013595161456419009 tw16990121751985480184 tw14607684989888443251 tw16772391600744568086 tw15086922642833256092 tw7105604833405125353 tw6296593367322945110 tw16683248729624462763 tw15312415924617504386 tw3664850093654891655 tw17730326149665069840 tw2583782585251894905 tw5527662965255394451 tw3092727312908782681 tw8186052517296007768 tw15336425160481173481 tw4241212501338616370 tw6759848071574941736 tw14699431554225401744 tw6393220416048578487 tw4859929934255008174 tw7041723220211655039 tw6127551677636416524 tw16343223326277951627 tw668884842107540300 tw12738735666917279333 tw13503820038942574784 tw15034606290654857847 tw4098667435155331146 tw8073680089194035146 tw3386829023057059489 tw14931343438823293731 tw10246634267660654745 tw4051167536592055392 tw11665519416833556793 tw3893052514103355235 tw4872377957817165142 tw15956620760362162618 tw6536339244350729830 tw2681209059944447906 tw11926450584406053581 tw7516487655214677444 tw8507154280311362422 tw10887844623084411923 tw2837654303658019358 tw11299851564073725967 tw4733420794016476951 tw6650701287101314047 tw13040823069325387879 tw6141169502444155005 tw5328499491703063376 tw18422973141456833980 tw4629932021702666412 tw6785293169553800641 tw16169673950307972307 tw6416545276081735622 tw3396677289579395151 tw16544186823480653632 tw3133398218580676612 tw7101266872958769486 tw4801660522370278572 tw540710700611575423 tw7953145383417148446 tw13334549676729489197 tw15161346316839075485 tw2279059899637651894 tw9575690799974493283 tw13534189271985732560 tw14963258462473008848 tw9865251924362996420 tw8592163822790567001 tw14899570983047755022 tw11167568073615864065 tw10046091642056661586 tw6587535294018629103 tw5658734271049223253 tw5663545268001169103 tw10820801531965916383 tw8044130903873840156 tw7281936137626912663 tw10664684458183501361 tw6549796253540774421 tw15980017505725846252 tw13950562037575011658 tw5420112763310836349 tw13368598637603410630 tw11104525285789668588 tw15305090307426171766 tw9851833400939603958 tw4962599744454737673 tw5302608081913129113 tw1514079841763658250 tw17202960049829666646 tw2700638437443601095 tw8265647042436574415 tw15297505117571504036 tw4495069938759208587 tw14875420397253758208 tw4420196379595134262 tw14928153162405941290 tw4159954887937844996 tw6368918565535402 tw1323174731003498278 tw14655748806182676884 tw1016340052324413407 tw8333799183789690143 tw17438351037303348152 tw7121324623611287181 tw13022311386752543976 tw14380285767328055512 tw6604016772809271698 tw14564255781635667772 tw13153709634013029840 tw9783165172341826704 tw1062564358081832774 tw11875920039627988124 tw4772355890626711007 tw11278186204552697319 tw12261342472306875823 tw3008096266183684309 tw9651004169181920480 tw4626983412151279811 tw8942867089522586430 tw97245613989592069 tw17792899842941868499 tw7396203054740864336 tw13510034574805619621 tw4351654709432986465 tw219937152339545468 tw15136088442206814489 tw10276082376331835475 tw9852543040189331765 tw3230984840798150545 tw17525371226267898117 tw16565575920533495571 tw7460202617868104695 tw8105070564050203480 tw14846020583389580236 tw1841399679548786025 tw3795735180359206641 tw8129331531398090348 tw1894389031620416798 tw14707707839613198420 tw4663485023644100443 tw5352567056333862967 tw4856452877574965048 tw12146065405128406523 tw13702411755056837783 tw15821863632809846182 tw9609515632332949301 tw2624428845145805127 tw1137651798532068664 tw4354603776764111063 tw18040006612948965394 tw8110456863299496648 tw2527796096570651669 tw17794996305552881259 tw14520254236604717998 tw4203853031192710607 tw5162995438304370190 tw10610374927603608191 tw4708530418943178780 tw282933477195279907 tw3422734783466348675 tw6091931790354615539 tw14440807022782839706 tw7378145890501144033 tw6245482472585824405 tw10377502796734828739 tw295549017785426097 tw14198997169887005956 tw18211917594494628509 tw15866655427606644952 tw6019184893922658015 tw9640733732246855006 tw3671319039988860282 tw9025453032677759681 tw14428139351175016122 tw1405866903950869895 tw4057801724750389986 tw17154550291036140437 tw11700851894085571913 tw17863640319138012688 tw17426784857475376752 tw4421399817146781374 tw8112413222830809530 tw3072209625655047399 tw10765530148946964995 tw5333969904177808372 tw18429751738817946873 tw1408059936225896778 tw3471236749983870506 tw7904570040449318901 tw15281100443805998759 tw16996373339751988245 tw9159349779959572928 tw6520781051101489733 tw6410760349055413804 tw16228200853267235832 tw7453253486194678295 tw3989842609202835696 tw14434126998674818353 tw6083970057585787722 tw8776911757433834832 tw9928724282215075539 tw13622387964482616675 tw16677989549845655022 tw15597130688677229658 tw1992077624584555650 tw5766064745640193774 tw1359880430700286677 tw9038927154044736934 tw4767322732494811237 tw18051518473813186095 tw4673730328258326439 tw321492268802408761 tw5512055383614035701 tw13262686623758951315 tw16388609540144858986 tw10821999053166102512 tw7742353786711493700 tw4288897691558645533 tw10414741862816279976 tw18118640661020151046 tw13096559338281670948 tw11903415302309860299 tw15324508523481783948 tw13036974375497740144 tw11022715505322784419 tw9439869931512026383 tw2315579954951943937 tw4648075473508252987 tw6299455385664738739 tw7968499268103940300 tw16783388515555892153 tw14395298216725762011 tw17948146847603172251 tw14373392485013679177 tw13677047453308896807 tw6049417375798553004 tw12355288898396034794 tw8438126760853225751 tw4926771944338817613 tw14011095755192781117 tw10381563515037334903 tw12938062706436020541 tw7708721859416154299 tw16889730770211946095 tw12787086782005768765 tw15868774320492443623 tw2866464975797383376 tw13208540596898623894 tw4393602130165728561 tw11345381305378059836 tw10943724905808132160 tw8738420321485798294 tw15325223069725840802 tw1276297551503769239 tw16003601331318964926 tw12415623357038696255 tw16479023144188729890 tw4245717835680208938 tw7027065267817077726 tw8686296483881685307 tw6172407815110274632 tw8621881442994357478 tw8632875624309256003 tw17856582335194550302 tw4760136386437696439 tw6309746093871589674 tw236179506096703966 tw2546132445381216532 tw15133231916934945197 tw14440649704654193563 tw15649114100640783468 tw3716447264726126250:True)
namespace _T
open PySem _L Spec PyProof.Rows _H
theorem lkS{P:List bd → Prop}{n:Nat}(h:∀(a:bd)(b:List bd),b.length=n → P (a::b))(b:List bd)(c:b.length=n+1):P b:=by cases b with|nil=>cases c|cons a b=>exact h a b (Nat.succ.inj c)
theorem lk0{P:List bd → Prop}(h:P [])(b:List bd)(c:b.length=0):P b:=by cases b with|nil=>exact h|cons a b=>cases c
theorem yf{P:List bd → Prop}(h:∀a,P [a]):∀b:List bd,b.length=1 → P b:=lkS λa=>lk0 (h a)
theorem iI{P:List bd → Prop}(h:∀a b,P [a,b]):∀c:List bd,c.length=2 → P c:=lkS λa=>yf (h a)
theorem pL{P:List bd → Prop}(h:∀a b c,P [a,b,c]):∀e:List bd,e.length=3 → P e:=lkS λa=>iI (h a)
theorem lk4{P:List bd → Prop}(h:∀a b c d,P [a,b,c,d]):∀e:List bd,e.length=4 → P e:=lkS λa=>pL (h a)
local macro_rules|`(term|‹$p›)=>`(λ_ _ _ _ _ _=>$p)
structure Txt(K:PySem.W.Frag):Prop where
 D0:bG K "step_places" s0
 D1:bG K "step_hours" s1
 D2:bG K "step_room" s2
 D3:bG K "steps_hours" s3
 D4:bG K "open_steps" s4
 D5:bG K "shortest_come" s5
 D6:bG K "steps_to" s6
 D7:bG K "stream_with" s7
 D8:bG K "chains_to_end" s8
 D9:bG K "cut_to_rate" s9
 D10:bG K "bends_of" qI
 D11:bG K "is_whole" Oj
 D12:bG K "whole_within" s12
 D13:bG K "is_row" s13
 D14:bG K "is_way" s14
 D15:bG K "made_net" s15
 D16:bG K "within_rooms" s16
 D17:bG K "with_rooms" s17
 D18:bG K "found_clocks" s18
 D19:bG K "light_stream" s19
 D20:bG K "bends_by" s20
 D21:bG K "most_of" s21
 D22:bG K "most_by" s22
 D23:bG K "rate_by" s23
 D24:bG K "stream_by" s24
 D25:bG K "few_enough" s25
 D26:bG K "lanes_net" s26
 D27:bG K "open_net" s27
 D28:bG K "is_forth" s28
 D29:bG K "laned_net" s29
 D30:bG K "best_forth" s30
 D31:bG K "forth_right" s31
 D32:bG K "_law_all" s32
 D33:bG K "_law_draw" s33
 D34:bG K "_law_wide" s34
 D35:bG K "_law_net" s35
 D36:bG K "_law_due" s36
 D37:bG K "_law_heard" s37
 D38:bG K "_law_bad" s38
 D39:bG K "_law_wider" s39
 D40:bG K "law" s40
 je:PySem.W.nsIn K cK "ValueError"=ap none
 GF:PySem.W.nsIn K cK "abs"=ap none
 NZ:PySem.W.nsIn K cK "all"=ap none
 DG:PySem.W.nsIn K cK "bool"=ap none
 mY:PySem.W.nsIn K cK "enumerate"=ap none
 NQ:PySem.W.nsIn K cK "int"=ap none
 aU:PySem.W.nsIn K cK "isinstance"=ap none
 aR:PySem.W.nsIn K cK "len"=ap none
 fL:PySem.W.nsIn K cK "list"=ap none
 N5:PySem.W.nsIn K cK "max"=ap none
 jN:PySem.W.nsIn K cK "min"=ap none
 bK:PySem.W.nsIn K cK "range"=ap none
 oX:PySem.W.nsIn K cK "reversed"=ap none
 vH:PySem.W.nsIn K cK "sorted"=ap none
 lN:PySem.W.nsIn K cK "sum"=ap none
 bu:PySem.W.nsIn K cK "tuple"=ap none
 eG:PySem.W.nsIn K cK "zip"=ap none
 jA:∃t,PySem.W.nsIn K cK "LEAST_PLACES"=ap (ap (er 2 t))lG:∃t,PySem.W.nsIn K cK "MOST_HOURS"=ap (ap (er 1000000 t))dW:∃t,PySem.W.nsIn K cK "MOST_LANED"=ap (ap (er 6 t))j7:∃t,PySem.W.nsIn K cK "MOST_PLACES"=ap (ap (er 6 t))mX:∃t,PySem.W.nsIn K cK "MOST_ROOM"=ap (ap (er 1000000000 t))mZ:∃t,PySem.W.nsIn K cK "MOST_WAYS"=ap (ap (er 12 t))iu:∃C,gG K "BadHour" C
 jP:∃C,gG K "HaulError" C
 lL:∃C,gG K "NoWay" C
 bV:∃C,gG K "TooMany" C
 bN:∃C,gG K "TooMuch" C
 m7:∃C,ud K "HaulError" C
 nP:∃C,ud K "TooMany" C
 ig:∃C,ud K "TooMuch" C
 qR:∃C C2,gG K "TooMany" C/\gG K "HaulError" C2/\mroIn K C (.ref C2)=ap bj
 qT:∃C C2,gG K "TooMuch" C/\gG K "HaulError" C2/\mroIn K C (.ref C2)=ap bj
 il:∃C,gG K "TooMany" C/\Ln K C
 ir:∃C,gG K "TooMuch" C/\Ln K C
 gO:∃C C2,gG K "TooMany" C/\gG K "BadHour" C2/\kitOne K (.ref C) (.ref C2)=ap av
 iV:∃C C2,gG K "TooMany" C/\gG K "NoWay" C2/\kitOne K (.ref C) (.ref C2)=ap av
 gP:∃C C2,gG K "TooMany" C/\gG K "TooMany" C2/\kitOne K (.ref C) (.ref C2)=ap bj
 gQ:∃C C2,gG K "TooMany" C/\gG K "TooMuch" C2/\kitOne K (.ref C) (.ref C2)=ap av
 gR:∃C C2,gG K "TooMuch" C/\gG K "BadHour" C2/\kitOne K (.ref C) (.ref C2)=ap av
 iW:∃C C2,gG K "TooMuch" C/\gG K "NoWay" C2/\kitOne K (.ref C) (.ref C2)=ap av
 gU:∃C C2,gG K "TooMuch" C/\gG K "TooMany" C2/\kitOne K (.ref C) (.ref C2)=ap av
 gV:∃C C2,gG K "TooMuch" C/\gG K "TooMuch" C2/\kitOne K (.ref C) (.ref C2)=ap bj
 fj:∃C,gG K "TooMany" C/\kitOne K (.ref C) (.type "ValueError")=ap bj
 fu:∃C,gG K "TooMuch" C/\kitOne K (.ref C) (.type "ValueError")=ap bj
noncomputable def iK{K:PySem.W.Frag}(T:Txt K):Nat->b_:=λk=>if k=5 then T.iu.choose else if k=0 then T.jP.choose else if k=3 then T.lL.choose else if k=2 then T.bV.choose else if k=4 then T.bN.choose else 0
structure Oks(Pg:c_)(w:eh)(K:PySem.W.Frag)(mg:Str->Option bd)(base:ef)(cl:Nat->b_)(n:Nat):Prop where
 c0:aY Pg w K mg base n (run Γ 100000000 n) 0 "step_places" 2
 c1:aY Pg w K mg base n (run Γ 100000000 n) 1 "step_hours" 2
 c2:aY Pg w K mg base n (run Γ 100000000 n) 2 "step_room" 3
 c3:aY Pg w K mg base n (run Γ 100000000 n) 3 "steps_hours" 2
 c4:aY Pg w K mg base n (run Γ 100000000 n) 4 "open_steps" 2
 c5:aY Pg w K mg base n (run Γ 100000000 n) 5 "shortest_come" 3
 c6:aY Pg w K mg base n (run Γ 100000000 n) 6 "steps_to" 3
 c7:aY Pg w K mg base n (run Γ 100000000 n) 7 "stream_with" 3
 c8:aY Pg w K mg base n (run Γ 100000000 n) 8 "chains_to_end" 1
 c9:aY Pg w K mg base n (run Γ 100000000 n) 9 "cut_to_rate" 2
 c10:aY Pg w K mg base n (run Γ 100000000 n) 10 "bends_of" 1
 c11:aY Pg w K mg base n (run Γ 100000000 n) 11 "is_whole" 1
 c12:aY Pg w K mg base n (run Γ 100000000 n) 12 "whole_within" 3
 c13:aY Pg w K mg base n (run Γ 100000000 n) 13 "is_row" 1
 c14:aY Pg w K mg base n (run Γ 100000000 n) 14 "is_way" 2
 c15:aY Pg w K mg base n (run Γ 100000000 n) 15 "made_net" 2
 c16:aY Pg w K mg base n (run Γ 100000000 n) 16 "within_rooms" 2
 c17:aY Pg w K mg base n (run Γ 100000000 n) 17 "with_rooms" 2
 c18:aY Pg w K mg base n (run Γ 100000000 n) 18 "found_clocks" 2
 c19:aY Pg w K mg base n (run Γ 100000000 n) 19 "light_stream" 2
 c20:aY Pg w K mg base n (run Γ 100000000 n) 20 "bends_by" 2
 c21:aY Pg w K mg base n (run Γ 100000000 n) 21 "most_of" 2
 c22:aY Pg w K mg base n (run Γ 100000000 n) 22 "most_by" 2
 c23:aY Pg w K mg base n (run Γ 100000000 n) 23 "rate_by" 2
 c24:aY Pg w K mg base n (run Γ 100000000 n) 24 "stream_by" 2
 Z7:aY Pg w K mg base n (run Γ 100000000 n) 25 "few_enough" 1
 Z8:aY Pg w K mg base n (run Γ 100000000 n) 26 "lanes_net" 3
 R0:aY Pg w K mg base n (run Γ 100000000 n) 27 "open_net" 1
 Z9:aY Pg w K mg base n (run Γ 100000000 n) 28 "is_forth" 2
 Ys:aY Pg w K mg base n (run Γ 100000000 n) 29 "laned_net" 2
 c30:aY Pg w K mg base n (run Γ 100000000 n) 30 "best_forth" 2
 c31:aY Pg w K mg base n (run Γ 100000000 n) 31 "forth_right" 3
 c32:aY Pg w K mg base n (run Γ 100000000 n) 32 "_law_all" 2
 c33:aY Pg w K mg base n (run Γ 100000000 n) 33 "_law_draw" 3
 c34:aY Pg w K mg base n (run Γ 100000000 n) 34 "_law_wide" 3
 c35:aY Pg w K mg base n (run Γ 100000000 n) 35 "_law_net" 4
 c36:aY Pg w K mg base n (run Γ 100000000 n) 36 "_law_due" 3
 c37:aY Pg w K mg base n (run Γ 100000000 n) 37 "_law_heard" 3
 c38:aY Pg w K mg base n (run Γ 100000000 n) 38 "_law_bad" 4
 c39:aY Pg w K mg base n (run Γ 100000000 n) 39 "_law_wider" 2
 c40:aY Pg w K mg base n (run Γ 100000000 n) 40 "law" 1
 x7:di Pg w K mg base cl n (run Γ 100000000 n) 7 "stream_with" 3
 x9:di Pg w K mg base cl n (run Γ 100000000 n) 9 "cut_to_rate" 2
 x19:di Pg w K mg base cl n (run Γ 100000000 n) 19 "light_stream" 2
 x24:di Pg w K mg base cl n (run Γ 100000000 n) 24 "stream_by" 2
 x25:di Pg w K mg base cl n (run Γ 100000000 n) 25 "few_enough" 1
 x26:di Pg w K mg base cl n (run Γ 100000000 n) 26 "lanes_net" 3
 x27:di Pg w K mg base cl n (run Γ 100000000 n) 27 "open_net" 1
 x29:di Pg w K mg base cl n (run Γ 100000000 n) 29 "laned_net" 2
 x30:di Pg w K mg base cl n (run Γ 100000000 n) 30 "best_forth" 2
 x31:di Pg w K mg base cl n (run Γ 100000000 n) 31 "forth_right" 3
set_option maxHeartbeats 0 in
theorem K8{Pg:c_}{w:eh}{K:PySem.W.Frag}{mg:Str->Option bd}{base:ef}(T:Txt K)(X:K.In base)(G:base.Ns cK mg):∀n,Oks Pg w K mg base (iK T) n
 |0=>{
   c0:=bL (ps:=["net","step"]) X G T.D0 rfl ‹iI λ_ _=>rfl›
   c1:=bL (ps:=["net","step"]) X G T.D1 rfl ‹iI λ_ _=>rfl›
   c2:=bL (ps:=["net","stream","step"]) X G T.D2 rfl ‹pL λ_ _ _=>rfl›
   c3:=bL (ps:=["net","steps"]) X G T.D3 rfl ‹iI λ_ _=>rfl›
   c4:=bL (ps:=["net","stream"]) X G T.D4 rfl ‹iI λ_ _=>rfl›
   c5:=bL (ps:=["net","stream","begun"]) X G T.D5 rfl ‹pL λ_ _ _=>rfl›
   c6:=bL (ps:=["net","come","place"]) X G T.D6 rfl ‹pL λ_ _ _=>rfl›
   c7:=bL (ps:=["stream","steps","loads"]) X G T.D7 rfl ‹pL λ_ _ _=>rfl›
   c8:=bL (ps:=["net"]) X G T.D8 rfl ‹yf λ_=>rfl›
   c9:=bL (ps:=["pairs","rate"]) X G T.D9 rfl ‹iI λ_ _=>rfl›
   c10:=bL (ps:=["net"]) X G T.D10 rfl ‹yf λ_=>rfl›
   c11:=bL (ps:=["thing"]) X G T.D11 rfl ‹yf λ_=>rfl›
   c12:=bL (ps:=["thing","least","most"]) X G T.D12 rfl ‹pL λ_ _ _=>rfl›
   c13:=bL (ps:=["thing"]) X G T.D13 rfl ‹yf λ_=>rfl›
   c14:=bL (ps:=["many","thing"]) X G T.D14 rfl ‹iI λ_ _=>rfl›
   c15:=bL (ps:=["many","ways"]) X G T.D15 rfl ‹iI λ_ _=>rfl›
   c16:=bL (ps:=["net","stream"]) X G T.D16 rfl ‹iI λ_ _=>rfl›
   c17:=bL (ps:=["net","rooms"]) X G T.D17 rfl ‹iI λ_ _=>rfl›
   c18:=bL (ps:=["net","stream"]) X G T.D18 rfl ‹iI λ_ _=>rfl›
   c19:=bL (ps:=["net","rate"]) X G T.D19 rfl ‹iI λ_ _=>rfl›
   c20:=bL (ps:=["net","last"]) X G T.D20 rfl ‹iI λ_ _=>rfl›
   c21:=bL (ps:=["bends","last"]) X G T.D21 rfl ‹iI λ_ _=>rfl›
   c22:=bL (ps:=["net","last"]) X G T.D22 rfl ‹iI λ_ _=>rfl›
   c23:=bL (ps:=["net","last"]) X G T.D23 rfl ‹iI λ_ _=>rfl›
   c24:=bL (ps:=["net","last"]) X G T.D24 rfl ‹iI λ_ _=>rfl›
   Z7:=bL (ps:=["net"]) X G T.D25 rfl ‹yf λ_=>rfl›
   Z8:=bL (ps:=["net","forth","back"]) X G T.D26 rfl ‹pL λ_ _ _=>rfl›
   R0:=bL (ps:=["net"]) X G T.D27 rfl ‹yf λ_=>rfl›
   Z9:=bL (ps:=["net","forth"]) X G T.D28 rfl ‹iI λ_ _=>rfl›
   Ys:=bL (ps:=["net","forth"]) X G T.D29 rfl ‹iI λ_ _=>rfl›
   c30:=bL (ps:=["net","last"]) X G T.D30 rfl ‹iI λ_ _=>rfl›
   c31:=bL (ps:=["net","last","forth"]) X G T.D31 rfl ‹pL λ_ _ _=>rfl›
   c32:=bL (ps:=["script","many"]) X G T.D32 rfl ‹iI λ_ _=>rfl›
   c33:=bL (ps:=["draws","at","many"]) X G T.D33 rfl ‹pL λ_ _ _=>rfl›
   c34:=bL (ps:=["draws","at","many"]) X G T.D34 rfl ‹pL λ_ _ _=>rfl›
   c35:=bL (ps:=["draws","at","places","most"]) X G T.D35 rfl ‹lk4 λ_ _ _ _=>rfl›
   c36:=bL (ps:=["net","forth","back"]) X G T.D36 rfl ‹pL λ_ _ _=>rfl›
   c37:=bL (ps:=["net","forth","way"]) X G T.D37 rfl ‹pL λ_ _ _=>rfl›
   c38:=bL (ps:=["draws","at","net","forth"]) X G T.D38 rfl ‹lk4 λ_ _ _ _=>rfl›
   c39:=bL (ps:=["draws","net"]) X G T.D39 rfl ‹iI λ_ _=>rfl›
   c40:=bL (ps:=["script"]) X G T.D40 rfl ‹yf λ_=>rfl›
   x7:=j5 (ps:=["stream","steps","loads"]) X G T.D7 rfl ‹pL λ_ _ _=>rfl›
   x9:=j5 (ps:=["pairs","rate"]) X G T.D9 rfl ‹iI λ_ _=>rfl›
   x19:=j5 (ps:=["net","rate"]) X G T.D19 rfl ‹iI λ_ _=>rfl›
   x24:=j5 (ps:=["net","last"]) X G T.D24 rfl ‹iI λ_ _=>rfl›
   x25:=j5 (ps:=["net"]) X G T.D25 rfl ‹yf λ_=>rfl›
   x26:=j5 (ps:=["net","forth","back"]) X G T.D26 rfl ‹pL λ_ _ _=>rfl›
   x27:=j5 (ps:=["net"]) X G T.D27 rfl ‹yf λ_=>rfl›
   x29:=j5 (ps:=["net","forth"]) X G T.D29 rfl ‹iI λ_ _=>rfl›
   x30:=j5 (ps:=["net","last"]) X G T.D30 rfl ‹iI λ_ _=>rfl›
   x31:=j5 (ps:=["net","last","forth"]) X G T.D31 rfl ‹pL λ_ _ _=>rfl›}|n+1=>have a:=K8 (Pg:=Pg) (w:=w) (base:=base) T X G n
   {c0:=bM (ps:=["net","step"]) X G T.D0 rfl rfl ‹iI λ_ _=>rfl› λ_ _ F=>d0 (cl:=iK T) F
    c1:=bM (ps:=["net","step"]) X G T.D1 rfl rfl ‹iI λ_ _=>rfl› λ_ _ F=>d1 (cl:=iK T) F
    c2:=bM (ps:=["net","stream","step"]) X G T.D2 rfl rfl ‹pL λ_ _ _=>rfl› λ_ _ F=>d2 (cl:=iK T) F
    c3:=bM (ps:=["net","steps"]) X G T.D3 rfl rfl ‹iI λ_ _=>rfl› λ_ _ F=>d3 (cl:=iK T) F (mg_none_of X G T.lN) a.c1
    c4:=bM (ps:=["net","stream"]) X G T.D4 rfl rfl ‹iI λ_ _=>rfl› λ_ _ F=>d4 (cl:=iK T) F (mg_none_of X G T.aR) (mg_none_of X G T.bK) a.c0 a.c2
    c5:=bM (ps:=["net","stream","begun"]) X G T.D5 rfl rfl ‹pL λ_ _ _=>rfl› λ_ _ F=>d5 (cl:=iK T) F (mg_none_of X G T.aR) (mg_none_of X G T.fL) a.c4 a.c1 a.c0
    c6:=bM (ps:=["net","come","place"]) X G T.D6 rfl rfl ‹pL λ_ _ _=>rfl› λ_ _ F=>d6 (cl:=iK T) F (mg_none_of X G T.oX) (mg_none_of X G T.bu) a.c0
    c7:=bM (ps:=["stream","steps","loads"]) X G T.D7 rfl rfl ‹pL λ_ _ _=>rfl› λ_ _ F=>d7 (cl:=iK T) F (mg_none_of X G T.fL)
    c8:=bM (ps:=["net"]) X G T.D8 rfl rfl ‹yf λ_=>rfl› λ_ _ F=>d8 (cl:=iK T) F (mg_none_of X G T.aR) (mg_none_of X G T.jN) a.c5 a.c2 a.c6 a.c7
    c9:=bM (ps:=["pairs","rate"]) X G T.D9 rfl rfl ‹iI λ_ _=>rfl› λ_ _ F=>d9 (cl:=iK T) F (mg_none_of X G T.jN)
    c10:=bM (ps:=["net"]) X G T.D10 rfl rfl ‹yf λ_=>rfl› λ_ _ F=>d10 (cl:=iK T) F (mg_none_of X G T.vH) a.c8 a.c3
    c11:=bM (ps:=["thing"]) X G T.D11 rfl rfl ‹yf λ_=>rfl› λ_ _ F=>d11 (cl:=iK T) F (mg_none_of X G T.DG) (mg_none_of X G T.NQ) (mg_none_of X G T.aU)
    c12:=bM (ps:=["thing","least","most"]) X G T.D12 rfl rfl ‹pL λ_ _ _=>rfl› λ_ _ F=>d12 (cl:=iK T) F a.c11
    c13:=bM (ps:=["thing"]) X G T.D13 rfl rfl ‹yf λ_=>rfl› λ_ _ F=>d13 (cl:=iK T) F (mg_none_of X G T.aU) (mg_none_of X G T.fL) (mg_none_of X G T.bu)
    c14:=bM (ps:=["many","thing"]) X G T.D14 rfl rfl ‹iI λ_ _=>rfl› λ_ _ F=>d14 (cl:=iK T) F (mg_none_of X G T.aR) (T.lG.elim λt e=>⟨t,mg_of X G e⟩) (T.mX.elim λt e=>⟨t,mg_of X G e⟩) a.c13 a.c12
    c15:=bM (ps:=["many","ways"]) X G T.D15 rfl rfl ‹iI λ_ _=>rfl› λ_ _ F=>d15 (cl:=iK T) F (mg_none_of X G T.mY) (mg_none_of X G T.aR) (mg_none_of X G T.bu) (T.jA.elim λt e=>⟨t,mg_of X G e⟩) (T.j7.elim λt e=>⟨t,mg_of X G e⟩) (T.mZ.elim λt e=>⟨t,mg_of X G e⟩) a.c13 a.c14 a.c12
    c16:=bM (ps:=["net","stream"]) X G T.D16 rfl rfl ‹iI λ_ _=>rfl› λ_ _ F=>d16 (cl:=iK T) F (mg_none_of X G T.NZ) (mg_none_of X G T.eG)
    c17:=bM (ps:=["net","rooms"]) X G T.D17 rfl rfl ‹iI λ_ _=>rfl› λ_ _ F=>d17 (cl:=iK T) F (mg_none_of X G T.bu) (mg_none_of X G T.eG)
    c18:=bM (ps:=["net","stream"]) X G T.D18 rfl rfl ‹iI λ_ _=>rfl› λ_ _ F=>d18 (cl:=iK T) F (mg_none_of X G T.bK) (mg_none_of X G T.lN) a.c5
    c19:=bM (ps:=["net","rate"]) X G T.D19 rfl rfl ‹iI λ_ _=>rfl› λ_ _ F=>d19 (cl:=iK T) F (mg_none_of X G T.aR) a.c8 a.c9 a.c18 a.c7
    c20:=bM (ps:=["net","last"]) X G T.D20 rfl rfl ‹iI λ_ _=>rfl› λ_ _ F=>d20 (cl:=iK T) F a.c10
    c21:=bM (ps:=["bends","last"]) X G T.D21 rfl rfl ‹iI λ_ _=>rfl› λ_ _ F=>d21 (cl:=iK T) F (mg_none_of X G T.lN)
    c22:=bM (ps:=["net","last"]) X G T.D22 rfl rfl ‹iI λ_ _=>rfl› λ_ _ F=>d22 (cl:=iK T) F a.c10 a.c21
    c23:=bM (ps:=["net","last"]) X G T.D23 rfl rfl ‹iI λ_ _=>rfl› λ_ _ F=>d23 (cl:=iK T) F (mg_none_of X G T.lN) a.c20
    c24:=bM (ps:=["net","last"]) X G T.D24 rfl rfl ‹iI λ_ _=>rfl› λ_ _ F=>d24 (cl:=iK T) F a.c19 a.c23
    Z7:=bM (ps:=["net"]) X G T.D25 rfl rfl ‹yf λ_=>rfl› λ_ _ F=>d25 (cl:=iK T) F (mg_none_of X G T.aR) (T.dW.elim λt e=>⟨t,mg_of X G e⟩)
    Z8:=bM (ps:=["net","forth","back"]) X G T.D26 rfl rfl ‹pL λ_ _ _=>rfl› λ_ _ F=>d26 (cl:=iK T) F (mg_none_of X G T.bu) (mg_none_of X G T.eG) a.c17
    R0:=bM (ps:=["net"]) X G T.D27 rfl rfl ‹yf λ_=>rfl› λ_ _ F=>d27 (cl:=iK T) F a.Z7 a.Z8
    Z9:=bM (ps:=["net","forth"]) X G T.D28 rfl rfl ‹iI λ_ _=>rfl› λ_ _ F=>d28 (cl:=iK T) F (mg_none_of X G T.aR) a.c16
    Ys:=bM (ps:=["net","forth"]) X G T.D29 rfl rfl ‹iI λ_ _=>rfl› λ_ _ F=>d29 (cl:=iK T) F (mg_none_of X G T.eG) a.Z7 a.Z9 a.Z8
    c30:=bM (ps:=["net","last"]) X G T.D30 rfl rfl ‹iI λ_ _=>rfl› λ_ _ F=>d30 (cl:=iK T) F (mg_none_of X G T.aR) (mg_none_of X G T.bu) (mg_none_of X G T.eG) a.R0 a.c24
    c31:=bM (ps:=["net","last","forth"]) X G T.D31 rfl rfl ‹pL λ_ _ _=>rfl› λ_ _ F=>d31 (cl:=iK T) F a.Z9 a.Ys a.c22 a.R0
    c32:=bM (ps:=["script","many"]) X G T.D32 rfl rfl ‹iI λ_ _=>rfl› λ_ _ F=>d32 (cl:=iK T) F (mg_none_of X G T.GF) (mg_none_of X G T.aR) (mg_none_of X G T.bK)
    c33:=bM (ps:=["draws","at","many"]) X G T.D33 rfl rfl ‹pL λ_ _ _=>rfl› λ_ _ F=>d33 (cl:=iK T) F (mg_none_of X G T.aR)
    c34:=bM (ps:=["draws","at","many"]) X G T.D34 rfl rfl ‹pL λ_ _ _=>rfl› λ_ _ F=>d34 (cl:=iK T) F (mg_none_of X G T.aR)
    c35:=bM (ps:=["draws","at","places","most"]) X G T.D35 rfl rfl ‹lk4 λ_ _ _ _=>rfl› λ_ _ F=>d35 (cl:=iK T) F (mg_none_of X G T.N5) (mg_none_of X G T.jN) (mg_none_of X G T.bK) a.c33 a.c34 a.c15
    c36:=bM (ps:=["net","forth","back"]) X G T.D36 rfl rfl ‹pL λ_ _ _=>rfl› λ_ _ F=>d36 (cl:=iK T) F (mg_none_of X G T.aR) (mg_none_of X G T.bK) (mg_none_of X G T.bu)
    c37:=bM (ps:=["net","forth","way"]) X G T.D37 rfl rfl ‹pL λ_ _ _=>rfl› λ_ _ F=>d37 (cl:=iK T) F (mg_none_of X G T.je) (mg_none_of X G T.aU) a.c30 a.c31 a.Ys a.R0 (nF X G (Hb T.m7 T.jP.choose_spec)) a.x30 a.x31 a.x29 a.x27 (pZ X (nF X G (Hb T.nP T.bV.choose_spec)) (aaV T.qR T.bV.choose_spec T.jP.choose_spec)) (pZ X (nF X G (Hb T.ig T.bN.choose_spec)) (aaV T.qT T.bN.choose_spec T.jP.choose_spec)) (abg T.il T.bV.choose_spec) (abg T.ir T.bN.choose_spec) (mg_of X G T.iu.choose_spec) (mg_of X G T.lL.choose_spec) (mg_of X G T.bV.choose_spec) (mg_of X G T.bN.choose_spec) (zp T.gO T.bV.choose_spec T.iu.choose_spec) (zp T.iV T.bV.choose_spec T.lL.choose_spec) (zp T.gP T.bV.choose_spec T.bV.choose_spec) (zp T.gQ T.bV.choose_spec T.bN.choose_spec) (zp T.gR T.bN.choose_spec T.iu.choose_spec) (zp T.iW T.bN.choose_spec T.lL.choose_spec) (zp T.gU T.bN.choose_spec T.bV.choose_spec) (zp T.gV T.bN.choose_spec T.bN.choose_spec) (abw T.fj T.bV.choose_spec) (abw T.fu T.bN.choose_spec)
    c38:=bM (ps:=["draws","at","net","forth"]) X G T.D38 rfl rfl ‹lk4 λ_ _ _ _=>rfl› λ_ _ F=>d38 (cl:=iK T) F (mg_none_of X G T.aR) a.c33
    c39:=bM (ps:=["draws","net"]) X G T.D39 rfl rfl ‹iI λ_ _=>rfl› λ_ _ F=>d39 (cl:=iK T) F (mg_none_of X G T.aR) (mg_none_of X G T.fL) a.c33 a.c15
    c40:=bM (ps:=["script"]) X G T.D40 rfl rfl ‹yf λ_=>rfl› λ_ _ F=>d40 (cl:=iK T) F (mg_none_of X G T.aR) (mg_none_of X G T.bK) (mg_none_of X G T.bu) a.c32 a.c38 a.c36 a.c37 a.c35 a.c34 a.c39 a.c31 a.Ys a.R0
    x7:=j4 (ps:=["stream","steps","loads"]) X G T.D7 rfl rfl ‹pL λ_ _ _=>rfl› λ_ _ F=>dx7 (cl:=iK T) F (mg_none_of X G T.fL)
    x9:=j4 (ps:=["pairs","rate"]) X G T.D9 rfl rfl ‹iI λ_ _=>rfl› λ_ _ F=>dx9 (cl:=iK T) F (mg_none_of X G T.jN) (nF X G (Hb T.ig T.bN.choose_spec))
    x19:=j4 (ps:=["net","rate"]) X G T.D19 rfl rfl ‹iI λ_ _=>rfl› λ_ _ F=>ag3 (cl:=iK T) F (mg_none_of X G T.aR) a.c8 a.c9 a.c18 a.c7 a.x9 a.x7
    x24:=j4 (ps:=["net","last"]) X G T.D24 rfl rfl ‹iI λ_ _=>rfl› λ_ _ F=>afK (cl:=iK T) F a.c19 a.c23 a.x19
    x25:=j4 (ps:=["net"]) X G T.D25 rfl rfl ‹yf λ_=>rfl› λ_ _ F=>agA (cl:=iK T) F (mg_none_of X G T.aR) (T.dW.elim λt e=>⟨t,mg_of X G e⟩) (nF X G (Hb T.nP T.bV.choose_spec))
    x26:=j4 (ps:=["net","forth","back"]) X G T.D26 rfl rfl ‹pL λ_ _ _=>rfl› λ_ _ F=>ahb (cl:=iK T) F (mg_none_of X G T.bu) (mg_none_of X G T.eG) a.c17
    x27:=j4 (ps:=["net"]) X G T.D27 rfl rfl ‹yf λ_=>rfl› λ_ _ F=>ahC (cl:=iK T) F a.Z7 a.Z8 a.x25 a.x26
    x29:=j4 (ps:=["net","forth"]) X G T.D29 rfl rfl ‹iI λ_ _=>rfl› λ_ _ F=>afJ (cl:=iK T) F (mg_none_of X G T.eG) a.Z7 a.Z9 a.Z8 (nF X G (Hb T.ig T.bN.choose_spec)) a.x25 a.x26
    x30:=j4 (ps:=["net","last"]) X G T.D30 rfl rfl ‹iI λ_ _=>rfl› λ_ _ F=>agK (cl:=iK T) F (mg_none_of X G T.aR) (mg_none_of X G T.bu) (mg_none_of X G T.eG) a.R0 a.c24 a.x27
    x31:=j4 (ps:=["net","last","forth"]) X G T.D31 rfl rfl ‹pL λ_ _ _=>rfl› λ_ _ F=>afh (cl:=iK T) F a.Z9 a.Ys a.c22 a.R0 a.x27}
theorem ZV{K:PySem.W.Frag}{x:Str}{i:Int}{t:Tok}(a:PySem.W.nsIn K cK x=ap (ap (er i t))):∃t,PySem.W.nsIn K cK x=ap (ap (er i t)):=⟨t,a⟩
set_option maxHeartbeats 0 in
theorem Vw{Pg:c_}{w:eh}{K:PySem.W.Frag}{mg:Str->Option bd}{h:ef}{i:b_}(T:Txt K)(X:K.In h)(G:h.Ns cK mg)(g:mg "law"=ap (.ref i)):∃fd:gz,(∀(s:bx)(u:bd),nI s fd ⟨[u],[]⟩ [("script",u)])/\∀base:ef,K.In base->base.Ns cK mg->iJ Pg w K mg base Jc 40 i fd ["script"] (PB K 1 (run Γ 100000000 40 40)):=by
 obtain⟨f,fd,a,F⟩:=T.D40.ex;have e:=g.symm.trans (mg_of X G a);cases e;refine⟨fd,λs u=>?_,λbase j l=>?_⟩;.obtain⟨oc,od,kV,m,q,r,cdv,ct,o,rfl,lk,p⟩:=F.ex;exact .of_eq rfl
 .have b:=K8 (Pg:=Pg) (w:=w) (base:=base) T j l 39;exact d40 (cl:=iK T) (k:=39) (n:=100000000) (c:=run Γ 100000000 39) F (mg_none_of X G T.aR) (mg_none_of X G T.bK) (mg_none_of X G T.bu) b.c32 b.c38 b.c36 b.c37 b.c35 b.c34 b.c39 b.c31 b.Ys b.R0
end _T
open PySem W PyProof.Rows
set_option maxRecDepth 100000 in
set_option maxHeartbeats 0 in
theorem PySem.Challenge.cw_hourhaul_k85_nets_laned_and_open_holds : PySem.Challenge.rw_hourhaul_k85_nets_laned_and_open.Holds := by
 w_on;o_law;k_head;(case hw=>w_witness2);k_fill;refine _L.Nh (l:=PySem.Challenge.rw_hourhaul_k85_nets_laned_and_open) (n:=63) (k:=40) (x:="script") (CX:=_L.Jc) (sp:=λK=>_H.PB K 1 (_H.run _T.Γ 100000000 40 40)) rfl (by decide) rfl ⟨rfl,by decide,by decide⟩ (λw h Y=>PySem.W.kIn_of Y) ?F ?S ?C;case F=>
  intro w mg q h j G i;refine _T.Vw ?T j G i;constructor;iterate 41(· refine' _H.VF ?a ?l ?c ?k;case a|l|c|k=>k_is)
  iterate 17(· k_is)
  . (refine' _T.ZV ?a);(case a=>k_is)
  . (refine' _T.ZV ?a);(case a=>k_is)
  . (refine' _T.ZV ?a);(case a=>k_is)
  . (refine' _T.ZV ?a);(case a=>k_is)
  . (refine' _T.ZV ?a);(case a=>k_is)
  . (refine' _T.ZV ?a);(case a=>k_is)
  . (refine' _H.Ky ?a);(case a=>k_is)
  . (refine' _H.Ky ?a);(case a=>k_is)
  . (refine' _H.Ky ?a);(case a=>k_is)
  . (refine' _H.Ky ?a);(case a=>k_is)
  . (refine' _H.Ky ?a);(case a=>k_is)
  . (refine' _H.De ?ca ?cq);(case ca=>k_is);(case cq=>k_exc)
  . (refine' _H.De ?ca ?cq);(case ca=>k_is);(case cq=>k_exc)
  . (refine' _H.De ?ca ?cq);(case ca=>k_is);(case cq=>k_exc)
  . (refine' _H.aau ?a ?c ?m);(case a=>k_is);(case c=>k_is);(case m=>k_is)
  . (refine' _H.aau ?a ?c ?m);(case a=>k_is);(case c=>k_is);(case m=>k_is)
  . (refine' _H.abI ?a ?g ?h ?b ?f ?n ?t ?m);(case a=>k_is);(case g=>k_is);(case h=>k_is);(case b=>k_is);(case f=>k_is);(case n=>k_is);(case t=>k_is);(case m=>k_is)
  . (refine' _H.abI ?a ?g ?h ?b ?f ?n ?t ?m);(case a=>k_is);(case g=>k_is);(case h=>k_is);(case b=>k_is);(case f=>k_is);(case n=>k_is);(case t=>k_is);(case m=>k_is)
  . (refine' _H.zg ?a ?c ?m);(case a=>k_is);(case c=>k_is);(case m=>kit_is)
  . (refine' _H.zg ?a ?c ?m);(case a=>k_is);(case c=>k_is);(case m=>kit_is)
  . (refine' _H.zg ?a ?c ?m);(case a=>k_is);(case c=>k_is);(case m=>kit_is)
  . (refine' _H.zg ?a ?c ?m);(case a=>k_is);(case c=>k_is);(case m=>kit_is)
  . (refine' _H.zg ?a ?c ?m);(case a=>k_is);(case c=>k_is);(case m=>kit_is)
  . (refine' _H.zg ?a ?c ?m);(case a=>k_is);(case c=>k_is);(case m=>kit_is)
  . (refine' _H.zg ?a ?c ?m);(case a=>k_is);(case c=>k_is);(case m=>kit_is)
  . (refine' _H.zg ?a ?c ?m);(case a=>k_is);(case c=>k_is);(case m=>kit_is)
  . (refine' _H.acp ?a ?m);(case a=>k_is);(case m=>kit_is)
  . (refine' _H.acp ?a ?m);(case a=>k_is);(case m=>kit_is)
 case S=>intro K H a ns o r p;obtain⟨as,e⟩:=_T.Qz ns o;exact _H.HY p e
 case C=>exact λH s e u z=>z
