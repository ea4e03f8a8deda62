import PyProof.Rows.All
import Wide.All
import OpenK.AllK
import Wide.FinOn
import Lean
import PyProof.EqAt
import PyProof.EqKinds
import PyProof.TupleCall
import PySem.Str
import PySem.Builtin.Int.W1All
import PyProof.NeKinds
import PyProof.ZipIter
import PyProof.SumWalkG
import PyProof.MinMaxWalk
import PyProof.WalksMore
import PyProof.SeqI3
import PyProof.WalkInts
import PyProof.Rows.CallKwBuiltin
import PyProof.Rows.Tup
import PyProof.CollectIter
import PyProof.EnumMake
import PyProof.TupleOfSeq
import PyProof.ListNew
import PyProof.ReprLoop
import PyProof.StationsW
import PyProof.ExcClass3
import PyProof.Rows.CatchBare
import OpenK.KOwn
import KE.KIsAll
import PyProof.NsDelKeeps
import PyProof.RulesAs
import PyProof.ExcArgsOwn
import PyProof.ListRange
import KE.RegKIsAll
import KE.KRevIter
import PyProof.Rows.SortRuns
import KE.KSortTup
import PyProof.DictWalks
import KE.KDictList
import KE.KItemsList
import PyProof.ExcBaseAll.ValueError
import PySem.Challenge.RW_hourhaul_k29_least_hours_of_all_streams
set_option Elab.async false
set_option linter.all false
set_option maxRecDepth 100000
set_option genInjectivity false
set_option genSizeOf false
set_option compiler.extract_closed false
set_option bootstrap.genMatcherCode false
open Option renaming some→a7,map_eq_some_iff→eT,isSome_iff_exists→gx,map_some→kw,bind_eq_some_iff→nV
open Bool renaming false→a_,true→bT,false_ne_true→eh,and_eq_true→fk,false_eq_true→gE,and_false→jx,and_eq_false_iff→kP,or_eq_false_iff→k7,false_and→k8,not_eq_true'→k_,or_eq_true→mx
open PySem renaming wpAny_bind→bd,Value→bx,Shared→b_,Addr→ce,starEach→cv,wpAny_pure→cx,wpAny→cz,model→cK,mainGlobals→cN,Program→da,Expr→dc,wpAny_mono→d_,World→eg,Heap→ej,Around→ek,eval→er,wpAny_newObj_type→et,Stmt→ey,wpAny_field→eL,foldedSetIterable→eN,bootBuiltins→eP,compareOp→eR,sizeLine_eq→fb,IsPair→fi,binaryOp→fo,wpAny_callSpecial?_slot→fx,swapsWith→fy,cLine→fT,wpAny_holding→gd,behindInMarks→gi,wpAny_pyIter_list→gy,backTo→gI,wpAny_seqItems→gN,wpAny_call_entry→gS,FuncData→gX,wpAny_setField_rec→g_,wpAny_pyIter_tuple→hE,sysModules→hJ,wpAny_passesOwn→hY,wpAny_truthy_bool→ia,PassesOwn→ip,attributeBase→iA,Builtin→iE,tupleKind_room_in1→iF,Scope→iO,wpAny_setField→i3,rawInt→i4,IsZip→i8,assignEach→i_,relabel→ja,sliceBounds→jn,wpAny_loadPart'→jI,wpAny_execs_nil→jR,holding→kc,getItem→ke,cellsFrom→kg,wpAny_rule→ko,NameKind→ku,Keyword→kC,wpAny_attempt→kD,swapsWithSole→kF,swappedStores→kG,assign→kH,wpAny_typeOf→k9,codeAny→li,call_meets→lj,callType_new→ll,letOwnedTupleGo→ln,codeAny_builtin→lw,wpAny_updateSeq_pair→lI,keywordEach→l6,ZipApart→l9,Operator→l_,IsPart→ma,tupleKind→me,setFlight→mf,callerA→mh,wpAny_standAt→mo,wpAny_onRaise→mr,plainId_quiet→ms,wpAny_Call_Name_kw→mv,typeIs_int→mw,valueAt→mI,seqIndex_neg→mS,notedBy→m3,concat_meets→nh,bindName→nk,bindArgs→nq,CmpOp→nz,wpAny_execs_cons→nI,wpAny_eqBool_int→nK,noteFrame→nL,noFill_tuple_add→nN,unsupported→n5,subscripted→n7,seqIndex_of→n9,Model→oj,Meets→ol,wpAny_specialOf→oo,setItem→ot,BindsTo→oB,typeLookup→oC,pyNext→oD,newFunctionEnv→oP,backToKw→o3,atKey→o_,wpAny_binaryOp_repeat_ref→p0,wpAny_comprehension_free→p5,seq_tuple_add→p_,assignInOrder→qb,storeName→qc,field→qf,bindL→qh,bindC→qk,wpAny_getItem_list_neg→qz,standAt→qE,codeAny_mono→rc,call_meetsIn→rd,wpAny_isTrue_Compare1→rg,builtinLookup_eq_fast→rh,wpAny_loadName_local→rj,wpAny_letGo→rk,unbindBehindTheSuite→rl,excClassObj→rX,wpAny_loadName_cell→r9,wpAny_isSubtype_exc→r_
open List renaming replicate→cp,getElem?_set_self→cu,size_toArray→cE,getElem?_append_left→cS,mem_cons→c_,map_cons→de,mem_map→df,mem_singleton→dy,range→dL,mem_of_getElem?→dQ,mem_cons_of_mem→dS,length_cons→dV,length_map→ef,length_append→ei,getElem?_set_ne→ew,append_assoc→eF,nodup_cons→eH,mem_append_right→eI,map_map→eJ,mem_append→eM,getElem?_map→eV,append_nil→e_,getElem?_append_right→fg,replicate_succ→fj,getD_eq_getElem?_getD→fm,eq_nil_of_length_eq_zero→ft,lookup_cons→fv,all_eq_true→fw,mem_append_left→fE,find?_cons→fF,getElem?_eq_getElem→fS,map_congr_left→gu,drop_eq_getElem_cons→gz,filterMap_cons→gT,not_mem_nil→g9,getElem?_replicate→hU,pairwise_cons→h8,mem_cons_self→h9,map_append→ig,getElem?_cons_succ→ix,cons_append→iN,length_replicate→iP,contains_iff_mem→iS,getD→jv,drop_eq_nil_iff→jW,length_range→kb,getElem?_take_of_lt→ki,length_take→ky,take_of_length_le→kB,mem_filter→kK,eq_nil_or_concat→kM,concat_eq_append→kN,length_singleton→kR,pairwise_append→kX,length→k4,nodup_append→lb,getElem?_set→lc,flatten_cons→lf,getElem?_of_mem→lp,getElem?_take→ly,filter_append→lz,contains_cons→lA,getElem_mem→l7,any_cons→l8,length_drop→mu,take_append_of_le_length→mE,sum_cons→mM,reverse_cons→mT,pairwise_map→m2,pairwise_iff_getElem→nX,getElem?_zip_eq_some→n3,ext_getElem→oa,any_eq_true→og,length_erase_of_mem→om,getElem?_cons_zero→oq,map_nil→ow,length_pos_of_mem→oz,of_mem_zip→oI,nil_append→oN,length_set→oU,min?_eq_some_iff→pz,length_filter_le→pE,countP_mono_left→pS,mem_erase_of_ne→p4,toArray→qA,map_set→rb,foldl→rS,all_cons→r8
open PySem.Heap renaming get?_push_size→cy,lt_size→du,get?_update_other→ea,size_push→eu,get?_update_self→ii,get?_none_of_le→jS,SameBut→rf
open PySem.Value renaming ref→dr,none→dE,int→fI,type→gJ,bool→jp,notImplemented→kS
open Sum renaming inl→dA,inr→mi
open Nat renaming lt_of_lt_of_le→dP,ne_of_lt→ec,le_trans→fR,lt_irrefl→h_,pow_le_pow_right→i7,le_of_lt→lT,le_of_not_lt→mB,ne_of_gt→oQ,mul_comm→pc,lt_trans→pf,le_of_eq→pp,le_mul_of_pos_left→pw,zero_add→ri
open Option.some renaming inj→ez
open PySem.PassesOwn renaming never→eA
open Or renaming inl→eB,inr→eC
open PySem.NameKind renaming free→eK,cell→gn
open Pure renaming pure→eS
open PyProof.Rows renaming callWith_type1→eW,Keyed→gl,IntsAre→gL,wpS_bind→hV,slot_tuple_getitem→ih,SortSt→iL,SortKind→i5,pendingOf→kf,wpS_pure→kl,envOfC→kq,AllBare→lm,assignInOrder_cons→mz,OwnCls→mA,subscriptTail→p9,listUpdate_at→qa,IsTup→qo,wpS_get→qr,wpS_forRange→qv,subscriptTail_builtinR→qB,seqObj→qS,minRun'→q_,seqEpoch_at→rL,failedOf→rV,arrOf→r6
open False renaming elim→fe
open Int renaming le_refl→fh,mul_comm→ic,mul_le_mul_of_nonneg_right→i6,emod_lt_of_pos→md,toNat_natCast→ml,sub_zero→mP,mul_zero→m4,mul_sub→m_,mul_add→ng,emod_nonneg→nv,add_zero→pV,toNat_of_nonneg→qq,mul_neg→qV,sub_self→ro
open PySem.Obj renaming mapFields→fq,mapSeq→gc,data_mapFields→j_,isFreed_of_fields→kT
open Ne renaming symm→fN
open Array renaming getElem?_eq_some_iff→f_,length_toList→jd,toList_inj→mn,getD→nE
open ForInStep renaming yield→ib
open PySem.Shared renaming heap→im
open PySem.SeqAt renaming EqAt→io
open PySem.Calls renaming spliced_cons→iq,spliced_nil→ka,callWith_builtin→kx,evalArgs_plain→kU,Name_function_global→nB
open PySem.Str renaming ofString→iK
open PySem.Around renaming under_plainId→iX
open PySem.Builtin.Tuple renaming tupleExact→i9
open True renaming intro→kA
open PyProof.Rows.IntsAre renaming length→kL
open PySem.Builtin.SmallTypes renaming ownedTupleIsFree→kQ,nextOf→lP
open PyProof.Rows.IsTup renaming new→k6
open Function renaming comp_def→lx
open PySem.Builtin.List renaming listExtendWith→lS,listTooLong→n_
open PySem.Heap.SameBut renaming update→ny
open PySem.EntryCells renaming newEntry→n4
open PySem.Builtin.Slice renaming slicePlaces→n8,sliceAdjust→rq
open Prod renaming ext_iff→oy
open PySem.CmpOp renaming NotIn→pX
open List(foldl toArray map foldl_cons forIn_cons forIn_nil length_zip length_nil)
open PySem.W(mg_none_of kitOne mg_of mroIn keepIn findIn kitAny clsIn methodObj excIn KitX kitx_dict kia_one specialIn takesIn findObj handed_on)
open PySem.Heap(get?_push_of_some IsList IsTuple)
open Nat(le_refl)
open PySem.Builtin.SmallTypes(ownedTupleHandOut)
open PySem.Builtin.Tuple(tupleItemsOf)
open Option(bind_some isSome_map getD_none)
open PySem.Builtin.Slice(sliceApplied)
open PySem.Builtin.List(listLengthHint listSameRef)
open Int(mul_one add_mul)
open Array(toList)
open PySem.F(slot_tuple_add entry_tuple_add args_tuple_add_2 slot_tuple_mul plainAttrs_list slot_dict_get)
open PySem.SeqAt.EqAt(int_str str_int)
open PySem.SeqAt.RcAt(lists_lengths)
open PySem.SeqAt.RcNeAt(none_int none_str bool_int bool_str int_none int_bool int_int int_list str_none str_bool str_str str_list list_int list_str)
theorem eG{h:PySem.Heap}{o b:PySem.Obj}{a:PySem.Addr}(e:h.get? a=a7 o):(h.push b).get? a=a7 o:=PySem.Heap.get?_push_of_some _ e
theorem fu{b:Type}{l:List b}{i:Nat}{a:b}(h:l[i]?=a7 a):∃h:i<l.length,l[i]=a:=List.getElem?_eq_some_iff.mp h
theorem fY{b:Type}{l:List b}{i j:Nat}{a:b}(h:j≠i):(l.set i a)[j]?=l[j]?:=List.getElem?_set_ne (fN h)
theorem uO{n:Nat}:0<=n:=Nat.zero_le n
theorem dU{n:Nat}:n<=n:=Nat.le_refl n
namespace _L
open PySem Spec PyProof.Rows
variable{w:eg}{h:ej}{t' i:Nat}{M:oj}{A:ek}{s:b_}{pos:Pos}{pins:List (ce×Obj)}{K:PySem.W.Frag}{tg:dc}{us:List bx}
noncomputable abbrev Key:=Sum Int Str
noncomputable def pY:Key->bx->Bool|.inl k,v=>Value.isInt k v|.inr x,v=>Value.isStrOf x v
noncomputable def agc(w:eg):Key->Int|.inl k=>hashInt k|.inr x=>hashStr w x
theorem bF:∀{k:Key}{v:bx},pY k v=bT->(∃i t,k=dA i/\v=fI i t)\/(∃x t,k=mi x/\v=Value.str x t)|.inl i,v,h=>by obtain⟨t,e⟩:=Value.isInt_shape (k:=i) (v:=v) h;exact .inl ⟨i,t,rfl,e⟩|.inr x,v,h=>by obtain⟨t,e⟩:=Value.isStrOf_shape (x:=x) (v:=v) h;exact .inr ⟨x,t,rfl,e⟩
theorem HY(i:Int)(t:Tok):pY (.inl i) (.int i t)=bT:=by simp[pY,Value.isInt]
theorem Hu(x:Str)(t:Tok):pY (.inr x) (.str x t)=bT:=by simp[pY,Value.isStrOf]
theorem Uo(a b:Int):decide ((dA a:Key)=dA b)=(a==b):=by
 by_cases e:a=b;.subst e;simp
 .have h:¬(dA a:Key)=dA b:=λq=>e (Sum.inl.inj q);rw[decide_eq_false h];exact(beq_eq_false_iff_ne.mpr e).symm
theorem VR(a b:Str):decide ((mi a:Key)=mi b)=decide (a=b):=by
 by_cases e:a=b;.subst e;simp
 .have h:¬(mi a:Key)=mi b:=λq=>e (Sum.inr.inj q);rw[decide_eq_false h,decide_eq_false e]
theorem Vf(a:Int)(b:Str):decide ((dA a:Key)=mi b)=a_:=decide_eq_false (λq=>nomatch q)
theorem Wx(a:Str)(b:Int):decide ((mi a:Key)=dA b)=a_:=decide_eq_false (λq=>nomatch q)
noncomputable def aY(prog:da)(w:eg):PySem.KeyKind prog w Key where
 is:=pY;hash:=agc w;inj:=λv a b g f=>by
  rcases bF g with⟨i,t,rfl,rfl⟩|⟨x,t,rfl,rfl⟩
  . rcases bF f with⟨j,u,rfl,e⟩|⟨y,u,rfl,e⟩;.injection e with e1 _;rw[e1]
    .exact nomatch e
  . rcases bF f with⟨j,u,rfl,e⟩|⟨y,u,rfl,e⟩;.exact nomatch e
    .injection e with e1 _;rw[e1]
 byValue:=λk v h=>by rcases bF h with⟨i,t,rfl,rfl⟩|⟨x,t,rfl,rfl⟩<;>rfl
 pyHash:=λc h=>by
  rcases bF c with⟨i,t,rfl,rfl⟩|⟨x,t,rfl,rfl⟩;.exact wpAny_pyHash_int h
  .exact wpAny_pyHash_str h
 eqBool:=λl c h=>by
  rcases bF l with⟨i,t,rfl,rfl⟩|⟨x,t,rfl,rfl⟩
  . rcases bF c with⟨j,u,rfl,rfl⟩|⟨y,u,rfl,rfl⟩;.rw[Uo]at h;exact nK h
    .rw[Vf]at h;exact int_str i t y u _ _ _ _ h
  . rcases bF c with⟨j,u,rfl,rfl⟩|⟨y,u,rfl,rfl⟩;.rw[Wx]at h;exact str_int x t j u _ _ _ _ h
    .rw[VR]at h;exact wpAny_eqBool_str h
 «strs»:=λk x t v h=>by
  rcases bF h with⟨i,u,rfl,e⟩|⟨y,u,rfl,e⟩;.exact nomatch e
  .injection e with e1 _;subst e1;cases v<;>rfl
theorem yS(prog:da)(w:eg)(i:Int)(t:Tok):(aY prog w).is (.inl i) (.int i t)=bT:=HY i t
theorem zH(prog:da)(w:eg)(x:Str)(t:Tok):(aY prog w).is (.inr x) (.str x t)=bT:=Hu x t
inductive V where|non|bl(b:Bool)|int(i:Int)|str(x:Str)|byt(b:Array UInt8)|flt(b:UInt64)|ref(a:ce)|ty(n:String)deriving DecidableEq
noncomputable def RelV:V->bx->Prop|.non,u=>u=dE|.bl b,u=>u=jp b|.int i,u=>∃t,u=fI i t|.str x,u=>∃t,u=Value.str x t|.byt b,u=>∃t,u=Value.bytes b t|.flt b,u=>∃t,u=Value.float b t|.ref a,u=>u=dr a|.ty n,u=>u=gJ n
noncomputable abbrev Vals:List V->List bx->Prop:=Paired RelV
theorem Vals.length{xs:List V}{us:List bx}(r:Vals xs us):xs.length=us.length:=Paired.length r
theorem Vals.get:∀{xs:List V}{us:List bx}{i:Nat}{x:V},Vals xs us->xs[i]?=a7 x->∃u,us[i]?=a7 u/\RelV x u|_,_,_,_,.nil,e=>by simp at e|_,_,0,_,.cons r _,e=>by simp at e;subst e;exact⟨_,rfl,r⟩|_,_,i+1,x,.cons _ t,e=>by obtain⟨u,h1,a⟩:=Vals.get (i:=i) (x:=x) t (by simpa using e);exact⟨u,by simpa using h1,a⟩
theorem Vals.set{x:V}{u:bx}(r:RelV x u):∀{xs:List V}{us:List bx}(i:Nat),Vals xs us->Vals (xs.set i x) (us.set i u)|_,_,_,.nil=>.nil|_,_,0,.cons _ t=>.cons r t|_,_,i+1,.cons q t=>.cons q (Vals.set r i t)
theorem Vals.append:∀{xs ys:List V}{us ws:List bx},Vals xs us->Vals ys ws->Vals (xs++ys) (us++ws)|_,_,_,_,.nil,s=>s|_,_,_,_,.cons r t,s=>.cons r (Vals.append t s)
theorem Vals.take:∀{xs:List V}{us:List bx}(n:Nat),Vals xs us->Vals (xs.take n) (us.take n)|_,_,0,_=>.nil|_,_,_+1,.nil=>.nil|_,_,n+1,.cons r t=>.cons r (Vals.take n t)
theorem Vals.drop:∀{xs:List V}{us:List bx}(n:Nat),Vals xs us->Vals (xs.drop n) (us.drop n)|_,_,0,r=>r|_,_,_+1,.nil=>.nil|_,_,n+1,.cons _ t=>Vals.drop n t
noncomputable def qL:Option V->Option bx->Prop|some v,a7 u=>RelV v u|none,none=>True|_,_=>False
noncomputable def KV{κ:Type}:List (κ×V)->List (κ×bx)->Prop:=Paired λ(p:κ×V)(q:κ×bx)=>p.1=q.1/\RelV p.2 q.2
noncomputable def kV:Key->V|.inl i=>.int i|.inr x=>.str x
inductive HO where|lst(xs:List V)|tup(xs:List V)|dK(kvs:List (Key×V))|dT(kvs:List (List Key×V))|set(S:Int->Bool)(n:Nat)|ins(C dx:ce)(fs:List (Str×V))|own(x:ce)|xd(fs:List (Str×V))|met(f x:ce)|uZ(lo hi:Int)|dD(o:Obj)(u:HO)|TY(ps:Array bx)|ext(φ:ej->Prop)
noncomputable abbrev Hp:=ce->Option HO
variable{H:Hp}
noncomputable def upd(H:Hp)(a:ce)(o:HO):Hp:=λb=>if b=a then a7 o else H b
theorem aL{a:ce}{o:HO}:upd H a o a=a7 o:=by unfold upd;rw[if_pos rfl]
theorem aA{a b:ce}{o:HO}(h:b≠a):upd H a o b=H b:=by unfold upd;rw[if_neg h]
theorem xj{a:ce}{o u:HO}:upd (upd H a o) a u=upd H a u:=by funext b;unfold upd;split<;>rfl
theorem Z4{a b:ce}{o u:HO}(h:H a=a7 o)(h':H b=a7 u)(d:o≠u):a≠b:=by intro e;subst e;rw[h]at h';exact d (ez h')
theorem iD{a b:ce}{o:HO}(h:H a=a7 o)(h':H b=none):a≠b:=by intro e;subst e;rw[h]at h';cases h'
section
variable(P:da)(w:eg)
noncomputable def bA(H:Hp)(h:ej)(a:ce):HO->Prop|.lst xs=>xs.length<=sizeLine/\∃(b:List bx)(n:Nat),Vals xs b/\h.get? a=a7 {cls:=.type "list",data:=.seq b.toArray n}|.tup xs=>xs.length<=sizeLine/\∃b:List bx,Vals xs b/\qo h a b.toArray|.dK kvs=>kvs.length<=sizeLine/\(a==hJ)=a_/\∃vs,KV kvs vs/\h.DictOf (aY P w) a vs|.dT kvs=>kvs.length<=sizeLine/\(a==hJ)=a_/\∃xs:List (List Key×ce×bx),Paired (λ(p:List Key×V)(q:List Key×ce×bx)=>p.1=q.1/\H q.2.1=a7 (.tup (p.1.map kV))/\RelV p.2 q.2.2) kvs xs/\∃o es ep,h.get? a=a7 o/\o.ExactDict/\o.data=.dict es ep/\es.toList=xs.map (entryOfKey (me (aY P w)))/\(xs.map (·.1)).Nodup|.set S n=>h.SetOf (intKind P w) a S n|.ins C e fs=>H e=a7 (.own a)/\fs.length<=1000/\e≠a/\h.get? a=a7 (PySem.W.instObj C e)/\∃c,h.Ns1 e c/\(∀f,qL (fs.lookup f) (c f))/\PySem.Within c (fs.map (·.1))|.own _=>∃o,h.get? a=a7 o|.xd fs=>∃c,h.Ns1 a c/\∀f,qL (fs.lookup f) (c f)|.uZ lo hi=>∃t u v,h.get? a=a7 {cls:=.type "range",data:=.fields #[.int lo t,.int hi u,.int 1 v]}|.dD o u=>h.get? a=a7 o/\bA H h a u|.TY ps=>h.get? a=a7 {cls:=.none,data:=.fields ps}|.met f x=>h.get? a=a7 (methodObj (.ref f) (.ref x))|.ext g=>g h/\(∃o,h.get? a=a7 o)/\∀h1 j:ej,g h1->(∀o,h1.get? a=a7 o->j.get? a=a7 o)->g j
noncomputable def jX(H:Hp)(h:ej):Prop:=∀a o,H a=a7 o->bA P w H h a o
end
section
variable{P:da}{w:eg}{H H':Hp}{h h':ej}{a:ce}{o:HO}
theorem bA.lt(x:bA P w H h a o):a<h.objs.size:=by cases o with|lst xs=>obtain⟨_,_,_,_,e⟩:=x;exact du e|tup xs=>obtain⟨_,_,_,p⟩:=x;exact p.lt|dK kvs=>obtain⟨_,_,_,_,o,_,_,e,_⟩:=x;exact du e|dT kvs=>obtain⟨_,_,_,_,o,_,_,e,_⟩:=x;exact du e|set S n=>obtain⟨o,_,_,_,e,_⟩:=x;exact du e|ins C b fs=>obtain⟨_,_,_,e,_⟩:=x;exact du e|own y=>obtain⟨_,e⟩:=x;exact du e|xd fs=>obtain⟨_,⟨_,_,_,e,_⟩,_⟩:=x;exact du e|uZ lo hi=>obtain⟨_,_,_,e⟩:=x;exact du e|dD c u=>obtain⟨e,_⟩:=x;exact du e|TY ps=>exact du (show h.get? a=a7 _ from x)|met f y=>exact du (show h.get? a=a7 _ from x)|ext g=>obtain⟨_,⟨_,e⟩,_⟩:=x;exact du e
theorem Paired.Wm{g j:Type}{F G:g->j->Prop}:∀{c:List g}{e:List j},Paired F c e->(∀a b,F a b->G a b)->Paired G c e|_,_,.nil,_=>.nil|_,_,.cons r t,f=>.cons (f _ _ r) (Paired.Wm t f)
theorem bA.stay(x:bA P w H h a o)(k:∀b u,(b=a\/H b=a7 (.own a))->h.get? b=a7 u->h'.get? b=a7 u)(ho:∀b,H b=a7 (.own a)->H' b=a7 (.own a))(ht:∀b xs,H b=a7 (.tup xs)->H' b=a7 (.tup xs)):bA P w H' h' a o:=by induction o with|lst xs=>obtain⟨z,j,n,r,e⟩:=x;exact⟨z,j,n,r,k _ _ (.inl rfl) e⟩|tup xs=>obtain⟨z,j,r,g,e,c⟩:=x;exact⟨z,j,r,g,k _ _ (.inl rfl) e,c⟩|dK kvs=>obtain⟨z,y,vs,r,g,es,ep,e,c⟩:=x;exact⟨z,y,vs,r,g,es,ep,k _ _ (.inl rfl) e,c⟩|dT kvs=>obtain⟨z,y,xs,r,g,es,ep,e,c⟩:=x;exact⟨z,y,xs,Paired.Wm r λp q z=>⟨z.1,ht _ _ z.2.1,z.2.2⟩,g,es,ep,k _ _ (.inl rfl) e,c⟩|set S n=>obtain⟨g,es,ep,t,e,c⟩:=x;exact⟨g,es,ep,t,k _ _ (.inl rfl) e,c⟩|ins C E fs=>obtain⟨d,z,ne,e,l,⟨od,es,ep,m,c⟩,r⟩:=x;exact⟨ho _ d,z,ne,k _ _ (.inl rfl) e,l,⟨od,es,ep,k _ _ (.inr d) m,c⟩,r⟩|own y=>obtain⟨g,e⟩:=x;exact⟨g,k _ _ (.inl rfl) e⟩|xd fs=>obtain⟨l,⟨od,es,ep,e,c⟩,r⟩:=x;exact⟨l,⟨od,es,ep,k _ _ (.inl rfl) e,c⟩,r⟩|uZ lo hi=>obtain⟨t,u,v,e⟩:=x;exact⟨t,u,v,k _ _ (.inl rfl) e⟩|dD g u B=>obtain⟨e,q⟩:=x;exact⟨k _ _ (.inl rfl) e,B q⟩|TY ps=>have e:h.get? a=a7 {cls:=.none,data:=.fields ps}:=x;show h'.get? a=a7 {cls:=.none,data:=.fields ps};exact k a _ (.inl rfl) e|met f y=>have e:h.get? a=a7 (methodObj (.ref f) (.ref y)):=x;show h'.get? a=a7 (methodObj (.ref f) (.ref y));exact k a _ (.inl rfl) e|ext G=>obtain⟨p,⟨o,e⟩,st⟩:=x;exact⟨st _ _ p λo q=>k _ _ (.inl rfl) q,⟨o,k _ _ (.inl rfl) e⟩,st⟩
theorem jX.lt(x:jX P w H h)(e:H a=a7 o):a<h.objs.size:=(x a o e).lt
theorem jX.fresh(x:jX P w H h)(e:h.objs.size<=a):H a=none:=by cases q:H a with|none=>rfl|some u=>exact absurd (dP (x.lt q) e) (h_ _)
theorem jX.kept(x:jX P w H h)(k:∀b u,h.get? b=a7 u->h'.get? b=a7 u):jX P w H h':=λa o e=>(x a o e).stay (λb u _ q=>k b u q) (λ_ q=>q) λ_ _ q=>q
theorem jX.laid(x:jX P w H h)(k:∀b u,h.get? b=a7 u->h'.get? b=a7 u)(j:h.objs.size<=a)(new:bA P w (upd H a o) h' a o):jX P w (upd H a o) h':=λb u e=>by
 have f:=x.fresh j;by_cases g:b=a;.subst g;rw[aL]at e;cases e;exact new
 .rw[aA g]at e;exact(x b u e).stay (λc v _ q=>k c v q) (λc q=>by rw[aA (iD q f)];exact q) λc xs q=>by rw[aA (iD q f)];exact q
end
noncomputable def Rd(H:Hp)(a:ce)(u:HO):Prop:=H a=a7 u\/∃o,H a=a7 (.dD o u)
theorem Rd.ok{P:da}{a:ce}{u:HO}(r:Rd H a u)(x:jX P w H h):bA P w H h a u:=by
 rcases r with r|⟨o,r⟩;.exact x a u r
 .obtain⟨_,q⟩:=x a _ r;exact q
noncomputable def Mut:Option HO->Prop|some (.lst _)=>True|some (.dK _)=>True|some (.dT _)=>True|some (.set _ _)=>True|some (.ins _ _ _)=>True|some (.ext _)=>True|_=>False
section
variable{P:da}{w:eg}{H:Hp}{h h':ej}{x e:ce}{o':HO}
theorem jX.write(ok:jX P w H h)(g:Mut (H x))(he:e=x\/H e=a7 (.own x))(k:∀b u,b≠e->h.get? b=a7 u->h'.get? b=a7 u)(l:∃u,h'.get? e=a7 u)(new:bA P w (upd H x o') h' x o'):jX P w (upd H x o') h':=λb u q=>by
 have f:∀c y,H c=a7 (.own y)->c≠x:=λc y r z=>by subst z;rw[r]at g;exact g
 have m:∀c xs,H c=a7 (.tup xs)->c≠x:=λc xs r z=>by subst z;rw[r]at g;exact g
 by_cases j:b=x;.subst j;rw[aL]at q;cases q;exact new
 . rw[aA j]at q;by_cases a:b=e
   . have n:H b=a7 (.own x):=by
      rcases he with z|z;.exact absurd (a.trans z) j
      .rw[a];exact z
     rw[q]at n;cases n;obtain⟨v,o⟩:=l;exact⟨v,by rw[a];exact o⟩
   . refine(ok b u q).stay (λc v hc r=>k c v ?_ r) (λc r=>by rw[aA (f c b r)];exact r) λc xs r=>by rw[aA (m c xs r)];exact r
     rcases hc with rfl|hc;.exact a
     . rintro rfl;rcases he with z|z;.exact f c b hc z
       .rw[hc]at z;cases z;exact j rfl
end
structure Un(fs ex:List ce)(H H':Hp)(h h':ej):Prop where
 keep:∀b o,h.get? b=a7 o->H b=none->b∉fs->b∉ex->h'.get? b=a7 o
 slot:∀b o,h.get? b=a7 o->H b=none->b∈fs->b∉ex->∃sl,h'.get? b=a7 {o with slots:=sl}free:∀b o,h.get? b=a7 o->H b=none->b∉ex->H' b=none
 there:∀b o,h.get? b=a7 o->b∉ex->∃o',h'.get? b=a7 o'
 tups:∀b xs,H b=a7 (.tup xs)->H' b=a7 (.tup xs)qO:∀b o u,H b=a7 (.dD o u)->H' b=a7 (.dD o u)uH:∀b ps,H b=a7 (.TY ps)->∃more,H' b=a7 (.TY (ps++more))
section
variable{fs fs' ex ex':List ce}{H H1 H2:Hp}{h h1 h2 h':ej}{a x e:ce}{o:HO}
theorem Un.any(u:Un fs ex H H1 h h1){b:ce}{c:Obj}(q:h.get? b=a7 c)(n:H b=none)(f:b∉ex):∃sl,h1.get? b=a7 {c with slots:=sl}:=by
 by_cases g:b∈fs;.exact u.slot b c q n g f
 .exact⟨c.slots,u.keep b c q n g f⟩
theorem Un.kept(k:∀b u,h.get? b=a7 u->h'.get? b=a7 u):Un fs ex H H h h':=⟨λb c q _ _ _=>k b c q,λb c q _ _ _=>⟨c.slots,k b c q⟩,λ_ _ _ n _=>n,λb c q _=>⟨c,k b c q⟩,λ_ _ q=>q,λ_ _ _ q=>q,λ_ ps q=>⟨#[],by rw[q];simp⟩⟩
theorem Un.refl:Un fs ex H H h h:=Un.kept λ_ _ q=>q
theorem Un.laid(k:∀b u,h.get? b=a7 u->h'.get? b=a7 u)(f:h.objs.size<=a)(c:H a=none):Un fs ex H (upd H a o) h h' where
 keep:=λb u q _ _ _=>k b u q;slot:=λb u q _ _ _=>⟨u.slots,k b u q⟩;free:=λb u q n _=>by rw[aA (ec (dP (du q) f))];exact n
 there:=λb u q _=>⟨u,k b u q⟩;tups:=λb xs q=>by rw[aA (iD q c)];exact q
 qO:=λb u xs q=>by rw[aA (iD q c)];exact q
 uH:=λb ps q=>⟨#[],by rw[aA (iD q c),q];simp⟩
theorem Un.write(f:Mut (H x))(he:e=x\/H e=a7 (.own x))(k:∀b u,b≠e->h.get? b=a7 u->h'.get? b=a7 u)(g:∃u,h'.get? e=a7 u):Un fs ex H (upd H x o) h h':=by
 have l:∀b,H b=none->b≠x:=λb n z=>by subst z;rw[n]at f;exact f
 have m:∀b,H b=none->b≠e:=λb n z=>by
  subst z;rcases he with r|r;.exact l b n r
  .rw[n]at r;cases r
 have j:∀b u,H b=a7 u->¬ Mut (a7 u)->b≠x:=λb u q nm z=>by subst z;rw[q]at f;exact nm f
 refine⟨λb u q n _ _=>k b u (m b n) q,λb u q n _ _=>⟨u.slots,k b u (m b n) q⟩,λb u q n _=>by rw[aA (l b n)];exact n,λb u q _=>?_,λb xs q=>by rw[aA (j b _ q λz=>z)];exact q,λb u xs q=>by rw[aA (j b _ q λz=>z)];exact q,λb ps q=>⟨#[],by rw[aA (j b _ q λz=>z),q];simp⟩⟩;by_cases c:b=e;.subst c;exact g
 .exact⟨u,k b u c q⟩
end
noncomputable def trk(h:ej)(H:Hp):List ce:=(dL h.objs.size).filter λa=>(H a).isSome
noncomputable def yf(h:ej)(H:Hp):ej:=PySem.W.hideAll h (trk h H)
theorem GQ(h:ej)(H:Hp):(yf h H).objs.size=h.objs.size:=PySem.W.hideAll_size _ _
theorem K8{b:ce}{o:Obj}(e:h.get? b=a7 o)(n:H b=none):(yf h H).get? b=a7 o:=PySem.W.hideAll_get _ e λa=>by have q:(H b).isSome=bT:=(kK.mp a).2;rw[n]at q;simp at q
theorem O9{b:ce}{o:Obj}(e:(yf h H).get? b=a7 o):h.get? b=a7 o/\H b=none:=by have a:h.get? b=a7 o:=PySem.W.of_hideAll (trk h H) e;refine⟨a,?_⟩;cases q:H b with|none=>rfl|some x=>have c:b∈trk h H:=kK.mpr ⟨List.mem_range.mpr (du a),by simp[q]⟩;have z:(yf h H).get? b=none:=PySem.W.hideAll_none (trk h H) c;rw[z]at e;cases e
structure Mod(K:PySem.W.Frag)(mg:Str->Option bx)(base:ej):Prop where
 qZ:K.In base
 glob:base.Ns cN mg
 blt:∃mb,base.Ns builtinsNs mb/\∀x:Str,x≠"__name__"->mb x=eP x
 nolimit:base.NoLimit
structure Cx where
 prog:da
 w:eg
 K:PySem.W.Frag
 mg:Str->Option bx
 base:ej
 A:ek
 N:List Str
 s₀:b_
 H₀:Hp
 env:Env
 outer:List Env
 stack:List Env
 ex:List ce
 fn:Str->Bool
 calm:Bool
 pn:List (ce×Obj)xe:bx->b_->Prop
variable{X:Cx}
noncomputable def frs(l:List Env):List ce:=l.filterMap (·.frame)
noncomputable abbrev Cx.fs(X:Cx):List ce:=frs X.outer
noncomputable def uQ(a:iO)(x:Str):Prop:=a.names.lookup x=a7 .local\/a.names.lookup x=a7 .cell\/a.names.lookup x=a7 .free
noncomputable def Loc(a:iO)(x:Str):Prop:=a.names.lookup x=a7 .local\/a.names.lookup x=a7 .cell
noncomputable def Look(env:Env)(h:ej)(m:Str->Option bx)(x:Str)(u:bx):Prop:=(env.kindOf x=a7 .local/\m x=a7 u)\/((env.kindOf x=a7 .cell\/env.kindOf x=a7 .free)/\∃c,env.cells.lookup x=a7 c/\h.IsCell c (a7 u))
structure Cx.Ok(X:Cx):Prop where
 mod:Mod X.K X.mg X.base
 kind:X.env.scope.kind=.function
 glob:X.env.globals=cN
 blt:X.env.builtins=builtinsNs
 above:X.s₀.heap.objs.size<=X.env.locals
 inj:∀x y c,X.env.cells.lookup x=a7 c->X.env.cells.lookup y=a7 c->x=y
 has:∀x,(X.env.kindOf x=a7 .cell\/X.env.kindOf x=a7 .free)->∃c,X.env.cells.lookup x=a7 c
 cab:∀x c,X.fn x=bT->X.env.cells.lookup x=a7 c->X.s₀.heap.objs.size<=c
 hd:X.calm=bT->X.A.handled=none
 frames:X.A.frames=a7 X.stack
 Rv:X.stack=X.outer\/(X.stack=X.env::X.outer/\X.env.frame=a7 X.env.locals)XQ:∀b∈X.ex,b≠X.env.locals/\∀x c,X.env.cells.lookup x=a7 c->c≠b
 bs:∀b o,X.base.get? b=a7 o->X.s₀.heap.get? b=a7 o/\X.H₀ b=none
 Ii:X.base.objs.size<=X.s₀.heap.objs.size
 u0:∀b o,X.base.get? b=a7 o->b∉X.ex
 yD:∀b∈X.ex,b∉X.fs
 lV:X.s₀.heap.FunFrames X.base X.outer
 Nt:∀b∈X.fs,X.H₀ b=none
structure Inv(X:Cx)(pins:List (ce×Obj))(σ:List (Option V))(H:Hp)(s:b_):Prop where
 ok:X.Ok
 os:s.os=X.s₀.os
 bare:lm s.gens
 base:Un X.fs X.ex X.H₀ H X.s₀.heap s.heap
 loc:∃m,s.heap.Ns X.env.locals m/\∀(i:Nat)(x:Str)(v:V),X.N[i]?=a7 x->σ[i]?=a7 (a7 v)->uQ X.env.scope x->∃u,RelV v u/\Look X.env s.heap m x u
 cell:∀x c,X.env.cells.lookup x=a7 c->∃v,s.heap.IsCell c v
 free:H X.env.locals=none
 fZ:∀x c,X.env.cells.lookup x=a7 c->H c=none
 pin:∀p∈X.pn++pins,s.heap.get? p.1=a7 p.2/\H p.1=none/\p.1≠X.env.locals/\p.1∉X.fs/\∀v,p.2.data≠.cell v
 hok:jX X.prog X.w H s.heap
 len:σ.length=X.N.length
section
variable{X:Cx}{pins:List (ce×Obj)}{σ:List (Option V)}{H H':Hp}{s:b_}{h':ej}
theorem Cx.Ok.Qe(ok:X.Ok){b:ce}{o:Obj}(e:X.base.get? b=a7 o):b∉X.fs:=λa=>by have:=(ok.lV.mem a).1;rw[e]at this;cases this
theorem Inv.bs(I:Inv X pins σ H s):∀b o,X.base.get? b=a7 o->s.heap.get? b=a7 o/\H b=none:=λb o e=>⟨I.base.keep b o (I.ok.bs b o e).1 (I.ok.bs b o e).2 (I.ok.Qe e) (I.ok.u0 b o e),I.base.free b o (I.ok.bs b o e).1 (I.ok.bs b o e).2 (I.ok.u0 b o e)⟩
theorem Inv.bk(I:Inv X pins σ H s):∀b o,X.base.get? b=a7 o->s.heap.get? b=a7 o:=λb o e=>(I.bs b o e).1
theorem Inv.mod(I:Inv X pins σ H s):Mod X.K X.mg X.base:=I.ok.mod
theorem Inv.O4(I:Inv X pins σ H s):X.K.In s.heap:=I.ok.mod.qZ.keeps I.bk
theorem Inv.lt(I:Inv X pins σ H s):X.env.locals<s.heap.objs.size:=let⟨_,hn,_⟩:=I.loc;hn.lt
theorem Inv.sz(I:Inv X pins σ H s):X.s₀.heap.objs.size<=s.heap.objs.size:=fR I.ok.above (lT I.lt)
theorem Inv.ae1(I:Inv X pins σ H s){a:ce}(h:s.heap.objs.size<=a):a∉X.fs:=λb=>by obtain⟨_,o,ho,_⟩:=I.ok.lV.mem b;exact absurd (dP (du ho) (fR I.sz h)) (h_ _)
theorem Inv.Ku(I:Inv X pins σ H s):∀x c,X.env.cells.lookup x=a7 c->c≠X.env.locals:=λx c e z=>by obtain⟨v,o,ho,hd⟩:=I.cell x c e;obtain⟨m,⟨f,es,ep,a,b,_⟩,_⟩:=I.loc;rw[z,a]at ho;cases ho;rw[b]at hd;cases hd
theorem Inv.lV(I:Inv X pins σ H s):s.heap.FunFrames X.base X.outer:=by
 have all:∀(l:List Env),(∀b∈frs l,b∈X.fs)->X.s₀.heap.FunFrames X.base l->s.heap.FunFrames X.base l:=by intro l;induction l with|nil=>intro _ _;trivial|cons env r g=>intro hs j;obtain⟨k,⟨L,o,a,m,ho,hd⟩,hr⟩:=j;have c:L∈X.fs:=hs L (by unfold frs;rw[gT,a];exact h9);obtain⟨sl,e⟩:=I.base.slot L o ho (I.ok.Nt L c) c λz=>I.ok.yD L z c;exact⟨k,⟨L,_,a,m,e,hd⟩,g (λb f=>hs b (by unfold frs;rw[gT,a];exact dS _ f)) hr⟩
 exact all X.outer (λ_ f=>f) I.ok.lV
theorem Inv.stack(I:Inv X pins σ H s):s.heap.FunFrames X.base X.stack:=by
 rcases I.ok.Rv with e|⟨e,a⟩;.rw[e];exact I.lV
 .rw[e];obtain⟨m,b,_⟩:=I.loc;refine .cons (by rw[I.ok.kind];decide) a b ?_ I.lV;exact jS (fR I.ok.Ii I.ok.above)
theorem Inv.uv(I:Inv X pins σ H s):∀b∈frs X.stack,b∈X.env.locals::X.fs:=λb a=>by
 rcases I.ok.Rv with e|⟨e,c⟩;.rw[e]at a;exact dS _ a
 .rw[e]at a;unfold frs at a;rw[gT,c]at a;exact a
theorem Inv.qQ(I:Inv X pins σ H s):∀b∈frs X.stack,H b=none:=λb hb=>by
 rcases c_.mp (I.uv b hb)with e|hb;.rw[e];exact I.free
 .obtain⟨_,o,ho,_⟩:=I.ok.lV.mem hb;exact I.base.free b o ho (I.ok.Nt b hb) λz=>I.ok.yD b z hb
theorem Inv.step{g':Array GenState}{d':Drawn}{ch:List ce}(I:Inv X pins σ H s)(f:∀b∈ch,(b∈X.ex\/X.s₀.heap.objs.size<=b)/\b≠X.env.locals/\(∀x c,X.env.cells.lookup x=a7 c->c≠b)/\∀p∈X.pn++pins,p.1≠b)(keep:∀b o,b≠X.env.locals->b∉X.fs->b∉ch->s.heap.get? b=a7 o->H b=none->h'.get? b=a7 o)(slot:∀b o,b≠X.env.locals->b∈X.fs->b∉ch->s.heap.get? b=a7 o->H b=none->∃sl,h'.get? b=a7 {o with slots:=sl})(free:∀b o,b∉ch->s.heap.get? b=a7 o->H b=none->H' b=none)(there:∀b o,b∉ch->s.heap.get? b=a7 o->∃B,h'.get? b=a7 B)(tups:∀b xs,H b=a7 (.tup xs)->H' b=a7 (.tup xs))(qO:∀b o u,H b=a7 (.dD o u)->H' b=a7 (.dD o u))(uH:∀b ps,H b=a7 (.TY ps)->∃more,H' b=a7 (.TY (ps++more)))(ns:∀m,s.heap.Ns X.env.locals m->h'.Ns X.env.locals m)(hok:jX X.prog X.w H' h')(O:lm g'):Inv X pins σ H' {s with heap:=h',gens:=g',drawn:=d',toks:=t'}:=by
 have C:∀b o,X.s₀.heap.get? b=a7 o->b≠X.env.locals:=λb o e=>ec (dP (du e) I.ok.above);have j:∀b o,X.s₀.heap.get? b=a7 o->b∉X.ex->b∉ch:=λb o e a y=>by
  rcases(f b y).1 with z|z;.exact a z
  .exact absurd (dP (du e) z) (h_ _)
 have g:∀x c,X.env.cells.lookup x=a7 c->∀v,s.heap.IsCell c v->h'.IsCell c v:=λx c e v⟨o,ho,hd⟩=>by
  have E:c∉ch:=λz=>(f c z).2.2.1 x c e rfl;by_cases hc:c∈X.fs;.obtain⟨sl,q⟩:=slot c o (I.Ku x c e) hc E ho (I.fZ x c e);exact⟨_,q,hd⟩
  .exact⟨o,keep c o (I.Ku x c e) hc E ho (I.fZ x c e),hd⟩
 refine⟨I.ok,I.os,O,⟨λb o e n y a=>?_,λb o e n y a=>?_,λb o e n a=>?_,λb o e a=>?_,λb xs e=>tups b xs (I.base.tups b xs e),λb o xs e=>qO b o xs (I.base.qO b o xs e),λb ps e=>?_⟩,?_,λx c e=>?_,?_,λx c e=>?_,λp L=>?_,hok,I.len⟩;.exact keep b o (C b o e) y (j b o e a) (I.base.keep b o e n y a) (I.base.free b o e n a)
 .obtain⟨sl,t⟩:=I.base.slot b o e n y a;obtain⟨J,G⟩:=slot b _ (C b o e) y (j b o e a) t (I.base.free b o e n a);exact⟨J,G⟩
 .obtain⟨B,t⟩:=I.base.there b o e a;exact free b B (j b o e a) t (I.base.free b o e n a)
 .obtain⟨B,t⟩:=I.base.there b o e a;exact there b B (j b o e a) t
 .obtain⟨m1,t⟩:=I.base.uH b ps e;obtain⟨Q,G⟩:=uH b _ t;exact⟨m1++Q,by rw[G,Array.append_assoc]⟩
 . obtain⟨m,U,W⟩:=I.loc;refine⟨m,ns m U,λi x v t G Y=>?_⟩;obtain⟨u,r,l⟩:=W i x v t G Y;refine⟨u,r,?_⟩;rcases l with l|⟨k,c,e,z⟩;.exact .inl l
   .exact .inr ⟨k,c,e,g x c e _ z⟩
 .obtain⟨v,z⟩:=I.cell x c e;exact⟨v,g x c e v z⟩
 .obtain⟨m,⟨o,_,_,ho,_⟩,_⟩:=I.loc;exact free _ o (λz=>(f _ z).2.1 rfl) ho I.free
 .obtain⟨v,o,ho,hd⟩:=I.cell x c e;exact free c o (λz=>(f c z).2.2.1 x c e rfl) ho (I.fZ x c e)
 .obtain⟨e,n,ne,N,d⟩:=I.pin p L;have E:p.1∉ch:=λz=>(f p.1 z).2.2.2 p L rfl;exact⟨keep p.1 p.2 ne N E e n,free p.1 p.2 E e n,ne,N,d⟩
theorem Inv.un(I:Inv X pins σ H s)(u:Un X.fs [] H H' s.heap h')(hok:jX X.prog X.w H' h'):Inv X pins σ H' {s with heap:=h',toks:=t'}:=by obtain⟨m,⟨o,es,ep,ho,r⟩,_⟩:=id I.loc;obtain⟨sl,j⟩:=u.any ho I.free (by simp);exact I.step (g':=s.gens) (d':=s.drawn) (ch:=[]) (λ_ z=>nomatch z) (λb o _ c _ e n=>u.keep b o e n c (by simp)) (λb o _ c _ e n=>u.slot b o e n c (by simp)) (λb o _ e n=>u.free b o e n (by simp)) (λb o _ e=>u.there b o e (by simp)) u.tups u.qO u.uH (λp k=>by obtain⟨q,f,g,a,l⟩:=k;rw[ho]at a;cases a;exact⟨_,f,g,j,l⟩) hok I.bare
theorem Inv.call{g':Array GenState}{d':Drawn}{ch:List ce}(I:Inv X pins σ H s)(u:Un (frs X.stack) ch H H' s.heap h')(hok:jX X.prog X.w H' h')(l:lm g')(a:∀b∈ch,(b∈X.ex\/X.s₀.heap.objs.size<=b)/\b≠X.env.locals/\(∀x c,X.env.cells.lookup x=a7 c->c≠b)/\∀p∈X.pn++pins,p.1≠b):Inv X pins σ H' {s with heap:=h',gens:=g',drawn:=d',toks:=t'}:=by obtain⟨m,⟨o,es,ep,ho,r⟩,_⟩:=id I.loc;obtain⟨sl,g⟩:=u.any ho I.free λz=>(a _ z).2.1 rfl;exact I.step (ch:=ch) a (λb o g q hc e n=>u.keep b o e n (λz=>(c_.mp (I.uv b z)).elim g q) hc) (λb o _ _ hc e n=>u.any e n hc) (λb o hc e n=>u.free b o e n hc) (λb o hc e=>u.there b o e hc) u.tups u.qO u.uH (λy t=>by obtain⟨B,j,k,f,v⟩:=t;rw[ho]at f;cases f;exact⟨_,j,k,g,v⟩) hok l
theorem Inv.turned{it:ce}(I:Inv X pins σ H s)(k:∀b o,b≠it->s.heap.get? b=a7 o->h'.get? b=a7 o)(g:H it=none)(f:it≠X.env.locals)(h1:it∈X.ex\/X.s₀.heap.objs.size<=it)(j:∀x c,X.env.cells.lookup x=a7 c->c≠it)(l:∀p∈X.pn++pins,p.1≠it):Inv X pins σ H {s with heap:=h',toks:=t'}:=by
 have a:∀b u,H b=a7 u->b≠it:=λb u e z=>by rw[z,g]at e;cases e
 refine I.step (g':=s.gens) (d':=s.drawn) (ch:=[it]) (λb t=>?_) (λb o _ _ hc e _=>k b o (λz=>hc (by simp[z])) e) (λb o _ _ hc e _=>⟨o.slots,k b o (λz=>hc (by simp[z])) e⟩) (λ_ _ _ _ n=>n) (λb o hc e=>⟨o,k b o (λz=>hc (by simp[z])) e⟩) (λ_ _ e=>e) (λ_ _ _ e=>e) (λb ps e=>⟨#[],by rw[e];simp⟩) (λm y=>?_) (λb u e=>?_) I.bare
 . have e:b=it:=by simpa using t
   subst e;exact⟨h1,f,j,l⟩
 .obtain⟨o,es,ep,ho,r⟩:=y;exact⟨o,es,ep,k _ o (fN f) ho,r⟩
 . refine(I.hok b u e).stay (λc v hc q=>k c v ?_ q) (λ_ q=>q) λ_ _ q=>q;rcases hc with z|z;.rw[z];exact a b u e
   .exact a c _ z
theorem Inv.tok(I:Inv X pins σ H s)(t:Nat):Inv X pins σ H {s with toks:=t}:=I.un (h':=s.heap) (t':=t) Un.refl I.hok
theorem Inv.kept{t':Nat}(I:Inv X pins σ H s)(k:∀b u,s.heap.get? b=a7 u->h'.get? b=a7 u):Inv X pins σ H {s with heap:=h',toks:=t'}:=I.un (Un.kept k) (I.hok.kept k)
theorem Inv.laid{a:ce}{o:HO}{t':Nat}(I:Inv X pins σ H s)(k:∀b u,s.heap.get? b=a7 u->h'.get? b=a7 u)(c:s.heap.objs.size<=a)(new:bA X.prog X.w (upd H a o) h' a o):Inv X pins σ (upd H a o) {s with heap:=h',toks:=t'}:=I.un (Un.laid k c (I.hok.fresh c)) (I.hok.laid k c new)
theorem Inv.write{x e:ce}{o:HO}{t':Nat}(I:Inv X pins σ H s)(c:Mut (H x))(he:e=x\/H e=a7 (.own x))(k:∀b u,b≠e->s.heap.get? b=a7 u->h'.get? b=a7 u)(a:∃u,h'.get? e=a7 u)(new:bA X.prog X.w (upd H x o) h' x o):Inv X pins σ (upd H x o) {s with heap:=h',toks:=t'}:=I.un (Un.write c he k a) (I.hok.write c he k a new)
theorem Inv.Dv{a:List (ce×Obj)}(I:Inv X pins σ H s)(h:∀p∈a,s.heap.get? p.1=a7 p.2/\H p.1=none/\p.1≠X.env.locals/\p.1∉X.fs/\∀v,p.2.data≠.cell v):Inv X a σ H s:=⟨I.ok,I.os,I.bare,I.base,I.loc,I.cell,I.free,I.fZ,λp b=>(eM.mp b).elim (λz=>I.pin p (fE _ z)) (h p),I.hok,I.len⟩
theorem rZ{N:List Str}(c:N.Nodup){j:Nat}{x:Str}(a:N[i]?=a7 x)(b:N[j]?=a7 x):i=j:=by obtain⟨h1,e⟩:=fu a;obtain⟨g,f⟩:=fu b;exact(List.getElem_inj c).mp (e.trans f.symm)
theorem vX{E:bx->b_->Prop}{x:Str}{v:V}{u:bx}{Q:Unit->b_->Prop}(I:Inv X pins σ H s)(hN:X.N.Nodup)(hi:X.N[i]?=a7 x)(l:Loc X.env.scope x)(r:RelV v u)(h:∀s',Inv X pins (σ.set i (a7 v)) H s'->(∃a,rf a s.heap s'.heap/\(a=X.env.locals\/X.env.cells.lookup x=a7 a))->Q () s')(hf:X.fn x=bT\/X.env.scope.names.lookup x=a7 .local:=by first|(left;rfl)|(right;rfl)|assumption):cz M A (qc X.env x u) Q E s:=by
 obtain⟨m,hn,hl⟩:=id I.loc;have O:(X.env.scope.kind==.class||(X.env.scope.kind==.module&&X.env.locals !=X.env.globals))=a_:=by rw[I.ok.kind];rfl
 have C:i<σ.length:=by rw[I.len];exact(fu hi).1
 have Ku:=I.Ku;have f:∀{a:ce}{h':ej},(∃o,s.heap.get? a=a7 o/\H a=none)->rf a s.heap h'->jX X.prog X.w H h':=λ{a h'}ha hs b ob e=>by
  obtain⟨_,_,t⟩:=ha;refine(I.hok b ob e).stay (λc Z hc q=>(hs.2 c ?_).trans q) (λ_ q=>q) λ_ _ q=>q;rintro rfl;rcases hc with rfl|hc;.rw[t]at e;cases e
  .rw[t]at hc;cases hc
 rcases l with hk|hk
 . refine wpAny_storeName_local hk hn (λh' ac hs=>?_) O;obtain⟨oL,_,_,ae,_⟩:=id hn;refine h _ ⟨I.ok,I.os,I.bare,⟨λb o e n G l=>?_,λb o e n G l=>?_,I.base.free,λb o e l=>?_,I.base.tups,I.base.qO,I.base.uH⟩,⟨_,ac,λj y v' g B e3=>?_⟩,λy c e=>?_,I.free,I.fZ,λp hp=>?_,f ⟨oL,ae,I.free⟩ hs,by simpa using I.len⟩ ⟨_,hs,.inl rfl⟩;.exact(hs.2 b (ec (dP (du e) I.ok.above))).trans (I.base.keep b o e n G l)
   .obtain⟨sl,g⟩:=I.base.slot b o e n G l;exact⟨sl,(hs.2 b (ec (dP (du e) I.ok.above))).trans g⟩
   .obtain⟨o',g⟩:=I.base.there b o e l;exact⟨o',(hs.2 b (ec (dP (du e) I.ok.above))).trans g⟩
   . by_cases J:j=i;.subst J;rw[hi]at g;cases g;rw[cu C]at B;cases B;exact⟨u,r,.inl ⟨hk,by simp⟩⟩
     . rw[fY J]at B;obtain⟨u',r',q⟩:=hl j y v' g B e3;refine⟨u',r',?_⟩;rcases q with⟨k,e⟩|⟨k,c,e,z⟩;.refine .inl ⟨k,?_⟩;have:y≠x:=λe=>J (rZ hN g (e▸hi));simp[this,e]
       .exact .inr ⟨k,c,e,z.sameBut hs (Ku y c e)⟩
   .obtain⟨Z,z⟩:=I.cell y c e;exact⟨Z,z.sameBut hs (Ku y c e)⟩
   .obtain⟨e,n,ne,nf,d⟩:=I.pin p hp;exact⟨(hs.2 p.1 ne).trans e,n,ne,nf,d⟩
 . have L:X.fn x=bT:=by
    rcases hf with z|z;.exact z
    .rw[z]at hk;cases hk
   obtain⟨c,hc⟩:=I.ok.has x (.inl hk);obtain⟨Z,z⟩:=I.cell x c hc;refine wpAny_storeName_cell I.ok.kind hk hc z (λh' U hs=>?_);obtain⟨oc,W,af⟩:=id z;refine h {s with heap:=h'} ⟨I.ok,I.os,I.bare,⟨λb o e n G l=>?_,λb o e n G l=>?_,I.base.free,λb o e l=>?_,I.base.tups,I.base.qO,I.base.uH⟩,⟨m,hn.sameBut hs (fN (Ku x c hc)),λj y v' g B e3=>?_⟩,λy c' e=>?_,I.free,I.fZ,λp hp=>?_,f ⟨oc,W,I.fZ x c hc⟩ hs,by simpa using I.len⟩ ⟨c,hs,.inr hc⟩;.exact(hs.2 b (ec (dP (du e) (I.ok.cab x c L hc)))).trans (I.base.keep b o e n G l)
   .obtain⟨sl,g⟩:=I.base.slot b o e n G l;exact⟨sl,(hs.2 b (ec (dP (du e) (I.ok.cab x c L hc)))).trans g⟩
   .obtain⟨o',g⟩:=I.base.there b o e l;exact⟨o',(hs.2 b (ec (dP (du e) (I.ok.cab x c L hc)))).trans g⟩
   . by_cases J:j=i;.subst J;rw[hi]at g;cases g;rw[cu C]at B;cases B;exact⟨u,r,.inr ⟨.inl hk,c,hc,U⟩⟩
     . rw[fY J]at B;obtain⟨u',r',q⟩:=hl j y v' g B e3;refine⟨u',r',?_⟩;rcases q with q|⟨k,c',e,z'⟩;.exact .inl q
       .refine .inr ⟨k,c',e,z'.sameBut hs ?_⟩;rintro rfl;exact J (rZ hN g (I.ok.inj _ _ _ e hc▸hi))
   . by_cases Y:c'=c;.subst Y;exact⟨_,U⟩
     .obtain⟨w2,z2⟩:=I.cell y c' e;exact⟨w2,z2.sameBut hs Y⟩
   .obtain⟨e,n,ne,nf,d⟩:=I.pin p hp;refine⟨(hs.2 p.1 ?_).trans e,n,ne,nf,d⟩;intro q;rw[q,W]at e;have q':oc=p.2:=ez e;exact d Z (by rw[<-q'];exact af)
theorem jl{E:bx->b_->Prop}{x:Str}{v:V}{u:bx}{Q:Unit->b_->Prop}(I:Inv X pins σ H s)(b:X.N.Nodup)(hi:X.N[i]?=a7 x)(c:Loc X.env.scope x)(r:RelV v u)(h:∀a,Inv X pins (σ.set i (a7 v)) H a->Q () a)(e:X.fn x=bT\/X.env.scope.names.lookup x=a7 .local:=by first|(left;rfl)|(right;rfl)|assumption):cz M A (qc X.env x u) Q E s:=vX I b hi c r (λa f _=>h a f) e
end
noncomputable abbrev XK:=bx->Option ce->Hp->Prop
noncomputable abbrev St:=List (Option V)
noncomputable abbrev VK:=V->Hp->Prop
noncomputable abbrev TE:=St->Hp->VK->Prop
variable{te:TE}
noncomputable abbrev TT:=St->Hp->(Bool->Hp->Prop)->Prop
noncomputable abbrev TA:=St->Hp->(List V->Hp->Prop)->Prop
structure Ends where
 nx:St->Hp->Prop
 rt:VK
 bk:St->Hp->Prop:=λ_ _=>False
 ct:St->Hp->Prop:=λ_ _=>False
noncomputable abbrev TS:=Ends->St->Hp->Prop
inductive EP(X:Cx)(pins:List (ce×Obj))(σ:St)(Q:VK)(u:bx)(s':b_):Prop where|mk(v:V)(H':Hp)(q0:Inv X pins σ H' s')(q1:RelV v u)(q2:Q v H')
noncomputable def TP(X:Cx)(pins:List (ce×Obj))(σ:St)(Q:Bool->Hp->Prop)(b:Bool)(c:b_):Prop:=∃a,Inv X pins σ a c/\Q b a
inductive AP(X:Cx)(pins:List (ce×Obj))(σ:St)(Q:List V->Hp->Prop)(us:List bx)(s':b_):Prop where|mk(vs:List V)(H':Hp)(q0:Inv X pins σ H' s')(q1:Vals vs us)(q2:Q vs H')
noncomputable def SP(X:Cx)(pins:List (ce×Obj))(D:Ends)(f:Flow)(b:b_):Prop:=match f with|.next=>∃σ' a,Inv X pins σ' a b/\D.nx σ' a|.brk=>∃σ' a,Inv X pins σ' a b/\D.bk σ' a|.cont=>∃σ' a,Inv X pins σ' a b/\D.ct σ' a|.ret u=>∃v σ' a,Inv X pins σ' a b/\RelV v u/\D.rt v a
noncomputable def PE(X:Cx)(e:dc)(t:TE):Prop:=∀(pins:List (ce×Obj))(s:b_)(σ:St)(H:Hp)(Q:VK),Inv X pins σ H s->t σ H Q->cz (cK X.prog X.w) X.A (er e X.env) (EP X pins σ Q) X.xe s
noncomputable def PT(X:Cx)(e:dc)(t:TT):Prop:=∀(pins:List (ce×Obj))(s:b_)(σ:St)(H:Hp)(Q:Bool->Hp->Prop),Inv X pins σ H s->t σ H Q->cz (cK X.prog X.w) X.A (isTrue e X.env (er e X.env)) (TP X pins σ Q) X.xe s
noncomputable def PW(X:Cx)(e:dc)(t:TT):Prop:=∀(a:Sem bx)(pins:List (ce×Obj))(s:b_)(σ:St)(H:Hp)(Q:Bool->Hp->Prop),Inv X pins σ H s->t σ H Q->cz (cK X.prog X.w) X.A (isTrue e X.env a) (TP X pins σ Q) X.xe s
theorem PW.pt{e:dc}{t:TT}(h:PW X e t):PT X e t:=h _
noncomputable def PA(X:Cx)(es:List dc)(t:TA):Prop:=∀(pos:Pos)(pins:List (ce×Obj))(s:b_)(σ:St)(H:Hp)(Q:List V->Hp->Prop),Inv X pins σ H s->t σ H Q->cz (cK X.prog X.w) X.A (spliced (gI pos (cv es X.env))) (AP X pins σ Q) X.xe s
noncomputable def PS(X:Cx)(st:ey)(t:TS):Prop:=∀(pins:List (ce×Obj))(s:b_)(σ:St)(H:Hp)(D:Ends),Inv X pins σ H s->t D σ H->cz (cK X.prog X.w) X.A (exec st X.env) (SP X pins D) X.xe s
noncomputable def qi(X:Cx)(st:List ey)(t:TS):Prop:=∀(pins:List (ce×Obj))(s:b_)(σ:St)(H:Hp)(D:Ends),Inv X pins σ H s->t D σ H->cz (cK X.prog X.w) X.A (execs st X.env) (SP X pins D) X.xe s
theorem cC{b:Type}{t:Sem b}{Q c:b->b_->Prop}{E:bx->b_->Prop}(h:cz M A t Q E s)(e:∀a s,Q a s->c a s):cz M A t c E s:=d_ h e λ_ _ x=>x
section
variable{X:Cx}
noncomputable def U0(i:Nat):TE:=λσ H Q=>∃v,σ[i]?=a7 (a7 v)/\Q v H
noncomputable def tC(v:V):TE:=λ_ H Q=>Q v H
theorem dZ{x:Str}(f:X.N[i]?=a7 x)(g:uQ X.env.scope x)(hd:(x==("__debug__":Str))=a_:=by decide)(b:(x==("__classdict__":Str))=a_:=by decide):PE X (.Name x pos) (U0 i):=by
 intro pins s σ H Q I h;obtain⟨v,e,h⟩:=h;obtain⟨m,j,k⟩:=I.loc;obtain⟨u,r,l⟩:=k i x v f e g;have fin:EP X pins σ Q u s:=⟨v,H,I,r,h⟩;rcases l with⟨hk,n⟩|⟨hk,c,hc,a⟩;.exact wpAny_Name (rj I.ok.kind hk j n fin) hd
 . rcases hk with hk|hk;.exact wpAny_Name (r9 I.ok.kind hk hc a fin) hd
   .exact wpAny_Name (wpAny_loadName_free I.ok.kind hk hc a fin b) hd
theorem tM{i j pos}:PE X (.Constant (.int i) j pos) (tC (.int i)):=λ_ _ _ H _ I h=>wpAny_Constant_int ⟨.int i,H,I.tok _,⟨_,rfl⟩,h⟩
theorem abr{b j pos}:PE X (.Constant (.bool b) j pos) (tC (.bl b)):=λ_ _ _ H _ I h=>Constant_bool ⟨.bl b,H,I,rfl,h⟩
theorem Vh{j pos}:PE X (.Constant .none j pos) (tC .non):=λ_ _ _ H _ I h=>Constant_none ⟨.non,H,I,rfl,h⟩
noncomputable def Gl(X:Cx)(x:Str):Prop:=X.env.kindOf x=a7 .globalImplicit
theorem rQ{E:bx->b_->Prop}{σ:St}{x:Str}{u:bx}{Q:bx->b_->Prop}(I:Inv X pins σ H s)(a:Gl X x)(b:X.mg x=a7 u)(h:Q u s)(hd:(x==("__debug__":Str))=a_:=by decide):cz (cK X.prog X.w) X.A (er (.Name x pos) X.env) Q E s:=nB I.ok.kind a (Calls.loadGlobal_global (by rw[I.ok.glob];exact I.mod.glob.keeps I.bk) b h) hd
theorem kE{E:bx->b_->Prop}{σ:St}{x:Str}{u:bx}{Q:bx->b_->Prop}(I:Inv X pins σ H s)(a:Gl X x)(b:X.mg x=none)(c:eP x=a7 u)(h:Q u s)(e:x≠"__name__":=by decide)(hd:(x==("__debug__":Str))=a_:=by decide):cz (cK X.prog X.w) X.A (er (.Name x pos) X.env) Q E s:=by obtain⟨g,h1,f⟩:=I.mod.blt;exact nB I.ok.kind a (Calls.loadGlobal_builtin (by rw[I.ok.glob];exact I.mod.glob.keeps I.bk) b (by rw[I.ok.blt];exact h1.keeps I.bk) ((f x e).trans c) h) hd
theorem gC{x:Str}{v:V}{u:bx}(a:Gl X x)(b:X.mg x=a7 u)(r:RelV v u)(hd:(x==("__debug__":Str))=a_:=by decide):PE X (.Name x pos) (tC v):=λ_ _ _ H _ I h=>rQ I a b ⟨v,H,I,r,h⟩ hd
theorem FQ{x:Str}{v:V}{u:bx}(a:Gl X x)(b:X.mg x=none)(c:eP x=a7 u)(r:RelV v u)(e:x≠"__name__":=by decide)(hd:(x==("__debug__":Str))=a_:=by decide):PE X (.Name x pos) (tC v):=λ_ _ _ H _ I h=>kE I a b c ⟨v,H,I,r,h⟩ e hd
variable{a b:dc}{ta tb:TE}{pos:Pos}
noncomputable def PC(X:Cx)(op:nz)(a b:dc)(t:TE):Prop:=∀(pins:List (ce × Obj))(s:b_)(σ:St)(H:Hp)(Q:VK),Inv X pins σ H s->t σ H Q->cz (cK X.prog X.w) X.A (er a X.env) (λv c=>cz (cK X.prog X.w) X.A (er b X.env) (λu e=>cz (cK X.prog X.w) X.A (eR op v u) (EP X pins σ Q) X.xe e) X.xe c) X.xe s
noncomputable def tB(t:TE):TT:=λσ H Q=>t σ H λx e=>∃c,x=.bl c/\Q c e
theorem XF{op:nz}{t:TE}(h:PC X op a b t)(h1:gi op b=a_:=by first|(apply abW<;>decide)|rfl):PT X (.Compare a [op] [b] pos) (tB t):=by intro pins s σ H Q I e;refine rg (cC (h pins s σ H _ I e) λv s1 h1=>cC h1 λu s2 f=>cC f λc s3⟨x,H1,I1,r1,q1⟩=>?_) h1;obtain⟨d,rfl,q⟩:=q1;cases r1;exact ia ⟨H1,I1,q⟩
theorem Jq{e:dc}{t:TE}(h:PE X e t)(he:∀c,isTrue e X.env c=(do let v<-c;qE e.pos;kc [v] (truthy v)):=by intro _;rfl):PT X e (tB t):=by intro pins s σ H Q I f;refine isTrue_plain (cC (h pins s σ H _ I f) λv s1⟨x,H1,I1,r1,q1⟩=>?_) (he _);obtain⟨d,rfl,q⟩:=q1;cases r1;exact ia ⟨H1,I1,q⟩
variable{tA tB':TT}{rest:List dc}
noncomputable def tOr(t u:TT):TT:=λσ H Q=>t σ H λc e=>if c=bT then Q bT e else u σ e Q
noncomputable def af8(t:TT):TT:=λσ H Q=>t σ H λc e=>Q (!c) e
theorem Lh(f:PT X a tA):PW X (.BoolOp .Or [a] pos) tA:=by intro wh pins s σ H Q I h;refine isTrue_or (cC (f pins s σ H Q I h) λc s1 e=>?_);cases c with|false=>exact isTrue_or_nil e|true=>exact e
theorem S6(f:PT X a tA)(g:PW X (.BoolOp .Or (b::rest) pos) tB'):PW X (.BoolOp .Or (a::b::rest) pos) (tOr tA tB'):=by intro wh pins s σ H Q I h;refine isTrue_or (cC (f pins s σ H _ I h) λc s1⟨e,I1,q1⟩=>?_);cases c with|true=>exact⟨e,I1,q1⟩|false=>exact g wh pins s1 σ e Q I1 q1
theorem JR(e:PT X a tA):PT X (.UnaryOp .Not a pos) (af8 tA):=by intro pins s σ H Q I h;exact isTrue_not (e pins s σ H (λc f=>Q (!c) f) I h)
noncomputable def abT(ta tb:TE):TE:=λσ H Q=>ta σ H λx e=>∃c,x=.bl c/\if c=bT then tb σ e Q else Q (.bl a_) e
noncomputable def aaY(ta:TE):TE:=λσ H Q=>ta σ H λx e=>∃c,x=.bl c/\Q (.bl (!c)) e
theorem Uu{op}{t:TE}(h:PE X a t):PE X (.BoolOp op [a] pos) t:=λpins s σ H Q I c=>BoolOp_one (h pins s σ H Q I c)
theorem Xl(f:PE X a ta)(g:PE X (.BoolOp .And (b::rest) pos) tb):PE X (.BoolOp .And (a::b::rest) pos) (abT ta tb):=by intro pins s σ H Q I h;refine BoolOp_and (cC (f pins s σ H _ I h) λv s1⟨x,H1,I1,r1,e⟩=>?_);obtain⟨c,rfl,e⟩:=e;cases r1;refine ia ?_;cases c with|true=>exact g pins s1 σ H1 Q I1 e|false=>exact⟨.bl a_,H1,I1,rfl,e⟩
theorem JD(f:PE X a ta):PE X (.UnaryOp .Not a pos) (aaY ta):=by intro pins s σ H Q I h;refine UnaryOp_ (cC (f pins s σ H _ I h) λv s1⟨x,H1,I1,r1,e⟩=>?_);obtain⟨c,rfl,e⟩:=e;cases r1;exact not_of (ia ⟨.bl (!c),H1,I1,rfl,e⟩)
noncomputable def tIf(t:TT)(ta tb:TE):TE:=λσ H Q=>t σ H λc e=>if c=bT then ta σ e Q else tb σ e Q
theorem KC{c:dc}(hc:PT X c tA)(f:PE X a ta)(g:PE X b tb):PE X (.IfExp c a b pos) (tIf tA ta tb):=by intro pins s σ H Q I h;refine wpAny_IfExp (cC (hc pins s σ H _ I h) λd s1⟨e,I1,q1⟩=>?_);cases d with|true=>exact f pins s1 σ e Q I1 q1|false=>exact g pins s1 σ e Q I1 q1
end
noncomputable def gF(K:PySem.W.Frag)(H:Hp)(a:ce)(xs:List V):Prop:=Rd H a (.lst xs)\/∃(o:Obj)(b:Array bx)(n:Nat),K.lookup a=a7 o/\o.cls=.type "list"/\o.dict=none/\o.data=.seq b n/\b.size<=sizeLine/\Vals xs b.toList
noncomputable def mq(K:PySem.W.Frag)(H:Hp)(a:ce)(xs:List V):Prop:=Rd H a (.tup xs)\/∃(o:Obj)(b:Array bx)(n:Nat),K.lookup a=a7 o/\o.cls=.type "tuple"/\o.data=.seq b n/\b.size<=sizeLine/\Vals xs b.toList
noncomputable def agD:bx->Option V|.none=>a7 .non|.bool b=>a7 (.bl b)|.int i _=>a7 (.int i)|.str x _=>a7 (.str x)|.bytes b _=>a7 (.byt b)|.float b _=>a7 (.flt b)|.ref a=>a7 (.ref a)|.type n=>a7 (.ty n)|_=>none
theorem RelV.abs{x:V}{u:bx}(r:RelV x u):agD u=a7 x:=by cases x with|non=>cases r;rfl|bl _=>cases r;rfl|int _=>obtain⟨t,rfl⟩:=r;rfl|str _=>obtain⟨t,rfl⟩:=r;rfl|byt _=>obtain⟨t,rfl⟩:=r;rfl|flt _=>obtain⟨t,rfl⟩:=r;rfl|ref _=>cases r;rfl|ty _=>cases r;rfl
theorem RelV.inj{x y:V}{u:bx}(r:RelV x u)(q:RelV y u):x=y:=ez (r.abs.symm.trans q.abs)
theorem Vals.inj:∀{xs ys:List V}{us:List bx},Vals xs us->Vals ys us->xs=ys|_,_,_,.nil,.nil=>rfl|_,_,_,.cons r t,.cons a t'=>by rw[r.inj a,Vals.inj t t']
section
variable{X:Cx}{pins:List (ce×Obj)}{σ:St}{H:Hp}{s:b_}{a:ce}{xs ys:List V}
theorem gF.of(h:H a=a7 (.lst xs)):gF K H a xs:=.inl (.inl h)
theorem mq.of(h:H a=a7 (.tup xs)):mq K H a xs:=.inl (.inl h)
theorem Inv.list(I:Inv X pins σ H s)(h:gF X.K H a xs):∃b:List bx,Vals xs b/\PlainL s.heap a b.toArray/\xs.length<=sizeLine:=by
 rcases h with h|⟨o,b,n,c,hc,hd,hs,hz,r⟩;.obtain⟨z,b,n,r,e⟩:=h.ok I.hok;exact⟨b,r,⟨_,n,e,rfl,rfl,rfl⟩,z⟩
 .refine⟨b.toList,r,⟨o,n,I.O4 a o c,hc,hd,by simpa using hs⟩,?_⟩;have e:=r.length;simp only[jd]at e;omega
theorem Inv.tuple(I:Inv X pins σ H s)(h:mq X.K H a xs):∃b:List bx,Vals xs b/\qo s.heap a b.toArray/\xs.length<=sizeLine:=by
 rcases h with h|⟨o,b,n,c,hc,hs,hz,r⟩;.obtain⟨z,b,r,p⟩:=h.ok I.hok;exact⟨b,r,p,z⟩
 .refine⟨b.toList,r,⟨o,I.O4 a o c,hc,n,by simpa using hs⟩,?_⟩;have e:=r.length;simp only[jd]at e;omega
theorem Inv.uD(I:Inv X pins σ H s)(h:gF X.K H a xs)(h':gF X.K H a ys):xs=ys:=by
 obtain⟨b,r,⟨o,n,e,_,_,d⟩,_⟩:=I.list h;obtain⟨its',f,⟨g,j,c,_,_,d'⟩,_⟩:=I.list h';rw[e]at c;cases c;rw[d]at d';injection d' with d1 _;have:b=its':=by simpa using congrArg toList d1
 subst this;exact r.inj f
theorem Inv.o8(I:Inv X pins σ H s)(h:mq X.K H a xs)(h':mq X.K H a ys):xs=ys:=by
 obtain⟨b,r,⟨o,e,_,n,d⟩,_⟩:=I.tuple h;obtain⟨its',f,⟨g,c,_,j,d'⟩,_⟩:=I.tuple h';rw[e]at c;cases c;rw[d]at d';injection d' with d1 _;have:b=its':=by simpa using congrArg toList d1
 subst this;exact r.inj f
end
noncomputable abbrev Cx.wish(X:Cx)(E:bx->b_->Prop):Cx:={X with xe:=E}
noncomputable abbrev Cx.nox(X:Cx):Cx:=X.wish λ_ _=>False
theorem Cx.Ok.wish{X:Cx}(ok:X.Ok)(E:bx->b_->Prop):(X.wish E).Ok:=⟨ok.mod,ok.kind,ok.glob,ok.blt,ok.above,ok.inj,ok.has,ok.cab,ok.hd,ok.frames,ok.Rv,ok.XQ,ok.bs,ok.Ii,ok.u0,ok.yD,ok.lV,ok.Nt⟩
theorem Cx.Ok.kY{E:bx->b_->Prop}(ok:(X.wish E).Ok):X.Ok:=⟨ok.mod,ok.kind,ok.glob,ok.blt,ok.above,ok.inj,ok.has,ok.cab,ok.hd,ok.frames,ok.Rv,ok.XQ,ok.bs,ok.Ii,ok.u0,ok.yD,ok.lV,ok.Nt⟩
section
variable{X:Cx}{pins:List (ce×Obj)}{σ:St}{H:Hp}{s:b_}{E:bx->b_->Prop}
theorem Inv.wish(I:Inv X pins σ H s)(E:bx->b_->Prop):Inv (X.wish E) pins σ H s:=⟨I.ok.wish E,I.os,I.bare,I.base,I.loc,I.cell,I.free,I.fZ,I.pin,I.hok,I.len⟩
theorem Inv.kY(I:Inv (X.wish E) pins σ H s):Inv X pins σ H s:=⟨I.ok.kY,I.os,I.bare,I.base,I.loc,I.cell,I.free,I.fZ,I.pin,I.hok,I.len⟩
theorem SP.kY{D:Ends}{f:Flow}{b:b_}(h:SP (X.wish E) pins D f b):SP X pins D f b:=by cases f with|next=>obtain⟨σ',a,I,q⟩:=h;exact⟨σ',a,I.kY,q⟩|brk=>obtain⟨σ',a,I,q⟩:=h;exact⟨σ',a,I.kY,q⟩|cont=>obtain⟨σ',a,I,q⟩:=h;exact⟨σ',a,I.kY,q⟩|ret u=>obtain⟨v,σ',a,I,r,q⟩:=h;exact⟨v,σ',a,I.kY,r,q⟩
theorem qi.nox{st:List ey}{t:TS}(h:qi X.nox st t):qi X st t:=λpins s σ H D I a=>d_ (h pins s σ H D (I.wish _) a) (λ_ _ q=>q.kY) λ_ _ z=>fe z
end
section
variable{X:Cx}{st:ey}{rest:List ey}{t u:TS}{e:dc}{te:TE}{pos:Pos}
noncomputable def abD:TS:=λD σ H=>D.nx σ H
noncomputable def af7(t u:TS):TS:=λD σ H=>t {D with nx:=u D} σ H
theorem qT:qi X [] abD:=λ_ _ σ H _ I h=>jR ⟨σ,H,I,h⟩
theorem jj(h1:PS X st t)(a:qi X rest u):qi X (st::rest) (af7 t u):=by intro pins s σ H D I h;refine nI (cC (h1 pins s σ H {D with nx:=u D} I h) λf s1 q=>?_);cases f with|next=>obtain⟨σ',b,c,q⟩:=q;exact a pins s1 σ' b D c q|ret v=>exact q|brk=>exact q|cont=>exact q
theorem Du(h1:PS X st t):qi X [st] t:=by intro pins s σ H D I h;refine nI (cC (h1 pins s σ H D I h) λf s1 q=>?_);cases f with|next=>exact jR q|ret v=>exact q|brk=>exact q|cont=>exact q
theorem Inv.quiet{σ:St}(I:Inv X pins σ H s):interactive X.env=a_:=by simp[interactive,I.ok.kind]
noncomputable def Z1(te:TE):TS:=λD σ H=>te σ H λ_ a=>D.nx σ a
theorem wQ(he:PE X e te)(hs:fy e none pos.line X.env=eS a_:=by rfl):PS X (.Expr e pos) (Z1 te):=by intro pins s σ H D I h;exact wpAny_Expr_any (cC (he pins s σ H _ I h) λv s1⟨x,H1,I1,r1,q1⟩=>⟨σ,H1,I1,q1⟩) I.quiet hs
noncomputable def agA(te:TE):TS:=λD σ H=>te σ H D.rt
theorem xO(he:PE X e te):PS X (.Return (a7 e) pos) (agA te):=by intro pins s σ H D I h;exact wpAny_Return_some (cC (he pins s σ H _ I h) λv s1⟨x,H1,I1,r1,q1⟩=>⟨x,σ,H1,I1,r1,q1⟩)
noncomputable def afP(c:TT)(t u:TS):TS:=λD σ H=>c σ H λb a=>if b=bT then t D σ a else u D σ a
theorem Eo{c:dc}{a b:List ey}{f:TT}(hc:PT X c f)(j:qi X a t)(k:qi X b u):PS X (.If c a b pos) (afP f t u):=by intro pins s σ H D I h;refine wpAny_If (cC (hc pins s σ H _ I h) λd s1⟨g,I1,q1⟩=>?_);cases d with|true=>exact j pins s1 σ g D I1 q1|false=>exact k pins s1 σ g D I1 q1
noncomputable def Mv:TS:=λ_ _ _=>False
theorem zp:PS X st Mv:=λ_ _ _ _ _ _ h=>h.elim
theorem HR{sts:List ey}:qi X sts Mv:=λ_ _ _ _ _ _ h=>h.elim
end
noncomputable abbrev TG:=V->St->Hp->(St->Hp->Prop)->Prop
noncomputable abbrev IK:=List V->St->Hp->(St->Hp->Prop)->Prop
noncomputable def PG(X:Cx)(a:dc)(t:TG):Prop:=∀(pins:List (ce × Obj))(s:b_)(σ:St)(H:Hp)(v:V)(u:bx)(Q:St->Hp->Prop),Inv X pins σ H s->RelV v u->t v σ H Q->cz (cK X.prog X.w) X.A (kH a X.env u) (λ_ c=>∃σ' b,Inv X pins σ' b c/\Q σ' b) X.xe s
noncomputable def PGs(X:Cx)(b:List dc)(t:IK):Prop:=∀(pins:List (ce × Obj))(s:b_)(σ:St)(H:Hp)(vs:List V)(us:List bx)(Q:St->Hp->Prop),Inv X pins σ H s->Vals vs us->t vs σ H Q->cz (cK X.prog X.w) X.A (qb ((i_ b X.env).map (·.2)) us) (λ_ c=>∃σ' a,Inv X pins σ' a c/\Q σ' a) X.xe s
noncomputable abbrev Kd:=V->V->V->Hp->(Hp->Prop)->Prop
noncomputable def UG(X:Cx)(t:Kd):Prop:=∀(pins:List (ce × Obj))(s:b_)(σ:St)(H:Hp)(o i v:V)(ov iv u:bx)(Q:Hp->Prop),Inv X pins σ H s->RelV o ov->RelV i iv->RelV v u->t o i v H Q->cz (cK X.prog X.w) X.A (ot ov iv u) (λ_ b=>∃a,Inv X pins σ a b/\Q a) X.xe s
noncomputable abbrev Yl:=V->V->Hp->VK->Prop
noncomputable def S9(X:Cx)(op:l_)(t:Yl):Prop:=∀(pins:List (ce × Obj))(s:b_)(σ:St)(H:Hp)(x y:V)(v u:bx)(Q:VK),Inv X pins σ H s->RelV x v->RelV y u->t x y H Q->cz (cK X.prog X.w) X.A (inplaceOp op v u) (EP X pins σ Q) X.xe s
section
variable{X:Cx}{pos:Pos}
noncomputable def lg(i:Nat):TG:=λv σ H Q=>Q (σ.set i (a7 v)) H
theorem aB{x:Str}(a:X.N.Nodup)(hi:X.N[i]?=a7 x)(b:Loc X.env.scope x)(c:X.fn x=bT\/X.env.scope.names.lookup x=a7 .local:=by first|(left;rfl)|(right;rfl)|assumption):PG X (.Name x pos) (lg i):=by intro pins s σ H v u Q I r h;exact wpAny_assign_Name (jl I a hi b r (λf e=>⟨_,H,e,h⟩) c)
noncomputable def Uq:IK:=λvs σ H Q=>vs=[]/\Q σ H
noncomputable def Km(t:TG)(u:IK):IK:=λvs σ H Q=>∃v r,vs=v::r/\t v σ H λσ' a=>u r σ' a Q
theorem bR:PGs X [] Uq:=by intro pins s σ H vs us Q I r h;obtain⟨e,h⟩:=h;subst e;cases r;exact assignInOrder_nil ⟨σ,H,I,h⟩
theorem aG{e:dc}{es:List dc}{t:TG}{u:IK}(h1:PG X e t)(b:PGs X es u)(hs:(i_ (e::es) X.env).map (·.2)=kH e X.env::(i_ es X.env).map (·.2):=by rfl):PGs X (e::es) (Km t u):=by intro pins s σ H vs us Q I r h;obtain⟨v,g,c,h⟩:=h;subst c;cases r with|cons r f=>rw[hs];refine mz (cC (h1 pins s σ H _ _ _ I r h) λ_ s1⟨a,H1,I1,q1⟩=>?_);exact b pins s1 a H1 _ _ Q I1 f q1
noncomputable def Xi(K:PySem.W.Frag)(n:Nat)(t:IK):TG:=λv σ H Q=>∃a xs,v=.ref a/\mq K H a xs/\xs.length=n/\t xs σ H Q
theorem cR{es:List dc}{k:Nat}{t:IK}{n:Nat}(hc:X.calm=bT)(h:PGs X es t)(g:(i_ es X.env).length=n:=by rfl)(hst:(i_ es X.env).findIdx? (·.1)=none:=by rfl):PG X (.Tuple es k pos) (Xi X.K n t):=by intro pins s σ H v u Q I r c;obtain⟨a,xs,j,l,m,c⟩:=c;subst j;cases r;obtain⟨p,f,ht,hz⟩:=I.tuple l;refine assign_Tuple_tuple (I.ok.hd hc) ht (by simp[g,<-m,f.length]) hst λh' q=>?_;have x:Inv X pins σ H {s with heap:=h'}:=I.kept (t':=s.toks) λb o e=>q b o (ec (du e)) e;exact h pins _ σ H xs _ Q x (by simpa using f) c
noncomputable def afq(to a:TE)(t:Kd):TG:=λv σ H Q=>to σ H λo b=>a σ b λi c=>t o i v c λe=>Q σ e
theorem Ut{o i:dc}{to a:TE}{t:Kd}(ho:PE X o to)(hi:PE X i a)(hs:UG X t)(b:∀ v,kH (.Subscript o i pos) X.env v=(do
  let ov<-kc [v] (er o X.env)let iv<-kc [v,ov] (er i X.env)qE pos
  kc [v,ov,iv] (ot ov iv v)release [v,ov,iv] []):=by intro _;rfl):PG X (.Subscript o i pos) (afq to a t):=by intro pins s σ H v u Q I r h;rw[b];refine bd (gd (cC (ho pins s σ H _ I h) λov s1⟨x,H1,I1,r1,q1⟩=>?_));refine bd (gd (cC (hi pins s1 σ H1 _ I1 q1) λiv s2⟨y,H2,I2,r2,q2⟩=>?_));refine bd (mo (bd (gd (cC (hs pins s2 σ H2 x y v ov iv u _ I2 r1 r2 r q2) λ_ s3⟨c,I3,q3⟩=>?_))));exact wpAny_release ⟨σ,c,I3,q3⟩
noncomputable def WW(te:TE)(g:TG):TS:=λD σ H=>te σ H λx a=>g x σ a D.nx
theorem My{e:dc}{g:TG}(he:PE X e te)(a:PG X tg g)(hs:kF [tg] e pos.line X.env=eS a_:=by rfl)(b:kG [tg] e X.env=eS none:=by rfl)(h1:(i_ [tg] X.env).map (·.2)=[kH tg X.env]:=by rfl):PS X (.Assign [tg] e pos) (WW te g):=by intro pins s σ H D I h;refine wpAny_Assign_stores (cC (he pins s σ H _ I h) λv s1⟨x,H1,I1,r1,q1⟩=>?_) hs b;rw[h1];exact cC (a pins s1 σ H1 x v _ I1 r1 q1) λ_ s2 q=>q
theorem o7{x:Str}{e:dc}{a:Pos}(b:X.N.Nodup)(hi:X.N[i]?=a7 x)(c:Loc X.env.scope x)(he:PE X e te)(hs:fy e (a7 (.Name x a)) pos.line X.env=eS a_:=by rfl)(f:X.fn x=bT\/X.env.scope.names.lookup x=a7 .local:=by first|(left;rfl)|(right;rfl)|assumption):PS X (.Assign [.Name x a] e pos) (WW te (lg i)):=by intro pins s σ H D I h;refine wpAny_Assign_Name (cC (he pins s σ H _ I h) λv s1⟨y,H1,I1,r1,q1⟩=>?_) hs;exact jl I1 b hi c r1 (λs2 g=>⟨_,H1,g,q1⟩) f
noncomputable def af3(i j:Nat)(a:TA):TS:=λD σ H=>a σ H λvs b=>∃v w,vs=[v,w]/\D.nx ((σ.set i (a7 v)).set j (a7 w)) b
theorem Vd{j:Nat}{x y:Str}{a b:dc}{r:TA}{g k pt:Pos}{kt k2 XR}(hc:X.calm=bT)(t:X.N.Nodup)(hi:X.N[i]?=a7 x)(C:X.N[j]?=a7 y)(l:i≠j)(u:X.env.scope.names.lookup x=a7 .local)(z:X.env.scope.names.lookup y=a7 .local)(E:PA X [a,b] r)(G:kG [.Tuple [.Name x g,.Name y k] kt pt] (.Tuple [a,b] k2 XR) X.env=eS (a7 [x,y]))(hs:kF [.Tuple [.Name x g,.Name y k] kt pt] (.Tuple [a,b] k2 XR) pos.line X.env=eS a_:=by rfl):PS X (.Assign [.Tuple [.Name x g,.Name y k] kt pt] (.Tuple [a,b] k2 XR) pos) (af3 i j r):=by
 intro pins s σ H D I h;rw[exec_Assign_arm];refine bd (mo ?_);rw[hs];refine bd (cx ?_);rw[if_neg (by decide)];refine bd (Tuple_ (cC (E _ pins s σ H _ I h) λus s1⟨vs,H1,I1,r1,m⟩=>?_));obtain⟨v,w,J,m⟩:=m;subst J;obtain⟨c,f,rfl,L,O⟩:∃c f,us=[c,f]/\RelV v c/\RelV w f:=by cases r1 with|cons p q=>cases q with|cons p' Q=>cases Q;exact⟨_,_,rfl,p,p'⟩
 refine et ?_ (by show 2<=sizeLine;decide);have U:Inv X pins σ H1 {s1 with heap:=s1.heap.push {cls:=.type "tuple",data:=.seq [c,f].toArray}}:=I1.kept (t':=s1.toks) λb o e=>eG e;rw[G];refine bd (cx ?_);show cz (cK X.prog X.w) X.A (do rule "assign.swapped-stores";let items<-unpackItems (.ref s1.heap.objs.size) 2 none;qb [λv=>nk X.env y v,λv=>nk X.env x v] items.reverse;eS Flow.next) _ _ _;refine bd (ko (bd (unpackItems_tuple (items:=#[c,f]) (I.ok.hd hc) (k6 s1.heap _) λh' n=>?_)));have W:=U.kept (h':=h') (t':=s1.toks) λb o e=>n b o (ec (du e)) e;show cz _ _ (qb [λv=>nk X.env y v,λv=>nk X.env x v] [f,c]>>=λ_=>eS Flow.next) _ _ _;refine bd (mz (wpAny_bindName (jl W t C (.inl z) O (λs2 Y=>?_) (.inr z))));refine mz (wpAny_bindName (jl Y t hi (.inl u) L (λs3 B=>assignInOrder_nil (cx ?_)) (.inr u)));rw[List.set_comm _ _ (fN l)]at B;exact⟨_,H1,B,m⟩
noncomputable def agz(i:Nat)(te:TE)(a:Yl):TS:=λD σ H=>∃x,σ[i]?=a7 (a7 x)/\te σ H λy b=>a x y b λz c=>D.nx (σ.set i (a7 z)) c
theorem Vv{x:Str}{e:dc}{op:l_}{o:Yl}{b:Pos}(p:X.N.Nodup)(hi:X.N[i]?=a7 x)(j:Loc X.env.scope x)(he:PE X e te)(ho:S9 X op o)(q:X.fn x=bT\/X.env.scope.names.lookup x=a7 .local:=by first|(left;rfl)|(right;rfl)|assumption):PS X (.AugAssign (.Name x b) op e pos) (agz i te o):=by
 intro pins s σ H D I h;obtain⟨v,t,h⟩:=h;obtain⟨m,B,C⟩:=I.loc;have n:uQ X.env.scope x:=by rcases j with k|k;exact .inl k;exact .inr (.inl k)
 obtain⟨u,r,l⟩:=C i x v hi t n;refine wpAny_AugAssign_Name ?_;have go:cz (cK X.prog X.w) X.A (er e X.env) (λw f=>cz (cK X.prog X.w) X.A (inplaceOp op u w) (λr g=>cz (cK X.prog X.w) X.A (qc X.env x r) (λ_=>SP X pins D .next) X.xe g) X.xe f) X.xe s:=by refine cC (he pins s σ H _ I h) λw s1⟨y,H1,I1,r1,q1⟩=>?_;refine cC (ho pins s1 σ H1 v y u w _ I1 r r1 q1) λz s2⟨J,H2,I2,r2,q2⟩=>?_;exact jl I2 p hi j r2 (λs3 E=>⟨_,H2,E,q2⟩) q
 rcases l with⟨hk,G⟩|⟨hk,c,hc,a⟩;.exact rj I.ok.kind hk B G go
 . rcases hk with hk|hk;.exact r9 I.ok.kind hk hc a go
   . rcases j with k|k;.have:X.env.scope.names.lookup x=a7 .free:=hk;rw[k]at this;cases this
     .have:X.env.scope.names.lookup x=a7 .free:=hk;rw[k]at this;cases this
noncomputable def abt(to b te:TE)(c:V->V->Hp->VK->Prop)(a:Yl)(e:Kd):TS:=λD σ H=>to σ H λo f=>b σ f λi g=>c o i g λx j=>te σ j λy k=>a x y k λz l=>e o i z l λm=>D.nx σ m
noncomputable def aaz(X:Cx)(t:V->V->Hp->VK->Prop):Prop:=∀(pins:List (ce × Obj))(s:b_)(σ:St)(H:Hp)(o i:V)(ov iv:bx)(Q:VK),Inv X pins σ H s->RelV o ov->RelV i iv->t o i H Q->cz (cK X.prog X.w) X.A (ke ov iv) (EP X pins σ Q) X.xe s
theorem Qz{o i e:dc}{to f:TE}{g:V->V->Hp->VK->Prop}{a:Yl}{j:Kd}{op:l_}{b:Pos}(ho:PE X o to)(hi:PE X i f)(m:aaz X g)(he:PE X e te)(n:S9 X op a)(hs:UG X j)(p:∀ov iv new,augStore i ov iv new=(do kc [new,ov,iv] (ot ov iv new);release [new,ov,iv] [];eS .next):=by intros;rfl):PS X (.AugAssign (.Subscript o i b) op e pos) (abt to f te g a j):=by intro pins s σ H D I h;refine wpAny_AugAssign_SubscriptAny (cC (ho pins s σ H _ I h) λov s1⟨k,H1,I1,r1,q1⟩=>?_) p;refine cC (hi pins s1 σ H1 _ I1 q1) λiv s2⟨l,H2,I2,r2,q2⟩=>?_;refine cC (m pins s2 σ H2 k l ov iv _ I2 r1 r2 q2) λc s3⟨q,H3,I3,r3,q3⟩=>?_;refine cC (he pins s3 σ H3 _ I3 q3) λv s4⟨r,H4,I4,r4,q4⟩=>?_;refine cC (n pins s4 σ H4 q r c v _ I4 r3 r4 q4) λnew s5⟨t,H5,I5,r5,q5⟩=>?_;exact cC (hs pins s5 σ H5 k l t ov iv new _ I5 r1 r2 r5 q5) λ_ s6⟨u,I6,q6⟩=>⟨σ,u,I6,q6⟩
noncomputable def Y4(f:Int->Int->Int):Yl:=λx y H Q=>∃i j,x=.int i/\y=.int j/\Q (.int (f i j)) H
theorem V1:S9 X .Add (Y4 λi j=>i+j):=by intro pins s σ H x y v u Q I r1 a h;obtain⟨i,j,b,c,q⟩:=h;subst b;subst c;obtain⟨t,rfl⟩:=r1;obtain⟨t',rfl⟩:=a;exact iadd_int ⟨.int _,H,I.tok _,⟨_,rfl⟩,q⟩
theorem Xp:S9 X .Sub (Y4 λi j=>i-j):=by intro pins s σ H x y v u Q I r1 a h;obtain⟨i,j,b,c,q⟩:=h;subst b;subst c;obtain⟨t,rfl⟩:=r1;obtain⟨t',rfl⟩:=a;exact isub_int ⟨.int _,H,I.tok _,⟨_,rfl⟩,q⟩
end
section
variable{X:Cx}{pos:Pos}
noncomputable def W0(c:TT)(tb:TS):TS:=λD σ H=>∃W:Nat->St->Hp->Prop,(∃m,W m σ H)/\∀m σ H,W m σ H->c σ H λb a=>if b=bT then ∃N:St->Hp->Prop,(∀σ' e,N σ' e->∃f,f<m/\W f σ' e)/\tb {D with nx:=N,ct:=N,bk:=D.nx} σ a else D.nx σ a
theorem LK{c:dc}{body:List ey}{t:TT}{tb:TS}(u:ip (cK X.prog X.w) X.A X.env X.xe)(hc:PT X c t)(C:qi X body tb):PS X (.While c body [] pos) (W0 t tb):=by intro pins s σ H D I h;obtain⟨W,⟨m0,E⟩,g⟩:=h;refine wpAny_While (codeAny_whileLoop (λn G=>∃σ' x,Inv X pins σ' x G/\W n σ' x) ?_ m0 ⟨σ,H,I,E⟩);rintro n s1⟨e,y,J,L⟩;refine hY u (cC (hc pins s1 e y _ J (g n e y L)) λb s2⟨z,I2,k⟩=>?_);cases b with
 |true=>obtain⟨N,B,k⟩:=k;rw[if_pos rfl];refine hY u (cC (C pins s2 e z _ I2 k) λf s3 l=>?_);cases f with|next=>obtain⟨a,j,m,o⟩:=l;obtain⟨p,q,r⟩:=B a j o;exact⟨p,q,a,j,m,r⟩|cont=>obtain⟨a,j,m,o⟩:=l;obtain⟨p,q,r⟩:=B a j o;exact⟨p,q,a,j,m,r⟩|brk=>exact l|ret v=>exact l
 |false=>rw[if_neg eh];exact jR ⟨e,z,I2,k⟩
end
structure It where
 go:Nat->Hp->Prop
 Oo:Nat->Hp->V->Hp->Prop
 stop:Nat->Hp->Prop
noncomputable def oX(X:Cx)(pins:List (ce×Obj))(H:Hp)(b:ce):Prop:=H b=none/\b≠X.env.locals/\b∉X.fs/\(b∈X.ex\/X.s₀.heap.objs.size<=b)/\(∀x c,X.env.cells.lookup x=a7 c->c≠b)/\∀p∈X.pn++pins,p.1≠b
theorem Inv.Ie{σ:St}{f:Hp}{b:ce}(I:Inv X pins σ H s)(a:s.heap.objs.size<=b)(g:f b=none):oX X pins f b:=by
 refine⟨g,oQ (dP I.lt a),I.ae1 a,.inr (fR I.sz a),λx c e z=>?_,λp j z=>?_⟩;.obtain⟨v,q⟩:=I.cell x c e;exact absurd (dP q.lt (by rw[z];exact a)) (h_ _)
 .exact absurd (dP (du (I.pin p j).1) (by rw[z];exact a)) (h_ _)
structure Turn(P:da)(w:eg)(K:PySem.W.Frag)(tg:dc)(J:It)(fp:List ce)(it:ce)(tn:Nat->ej->Prop):Prop where
 mem:it∈fp
 obj:∀i h,tn i h->∀b∈fp,∃o,h.get? b=a7 o/\∀v,o.data≠.cell v
 keep:∀i h h',tn i h->(∀b∈fp,∀o,h.get? b=a7 o->h'.get? b=a7 o)->tn i h'
 item:∀(X:Cx),X.prog=P->X.w=w->X.K=K->X.calm=bT->∀(i:Nat)(pins:List (ce×Obj))(s:b_)(σ:St)(H:Hp)(E:bx->b_->Prop),Inv X pins σ H s->(∀b∈fp,oX X pins H b)->tn i s.heap->J.go i H->cz (cK P w) X.A (oD (.ref it)) (λr s1=>∃u,r=a7 u/\cz (cK P w) X.A (ln tg (.ref it) u) (λ_ s2=>∃x H',Inv X pins σ H' s2/\RelV x u/\J.Oo i H x H'/\tn (i+1) s2.heap/\∀b∈fp,H' b=none) E s1) E s
 done:∀(X:Cx),X.prog=P->X.w=w->X.K=K->X.calm=bT->∀(i:Nat)(pins:List (ce×Obj))(s:b_)(σ:St)(H:Hp)(E:bx->b_->Prop),Inv X pins σ H s->(∀b∈fp,oX X pins H b)->tn i s.heap->J.stop i H->cz (cK P w) X.A (oD (.ref it)) (λr s1=>r=none/\Inv X pins σ H s1) E s
 self:∀(A:ek)(i:Nat)(s:b_)(Q:bx->b_->Prop)(E:bx->b_->Prop),tn i s.heap->Q (.ref it) s->cz (cK P w) A (pyIter (.ref it)) Q E s
noncomputable abbrev TI:=St->Hp->(It->Hp->Prop)->Prop
noncomputable def PIE(X:Cx)(pins:List (ce×Obj))(σ:St)(tg:dc)(R:It->Hp->Prop)(a:bx)(s2:b_):Prop:=∃(it:ce)(e:List ce)(f:Nat->ej->Prop)(J:It)(c:Hp),a=.ref it/\Inv X pins σ c s2/\Turn X.prog X.w X.K tg J e it f/\f 0 s2.heap/\(∀b∈e,oX X pins c b)/\R J c
noncomputable def PI(X:Cx)(tg iter:dc)(wi:TI):Prop:=∀(pins:List (ce × Obj))(s:b_)(σ:St)(H:Hp)(R:It->Hp->Prop),Inv X pins σ H s->wi σ H R->cz (cK X.prog X.w) X.A (er iter X.env) (λv s1=>cz (cK X.prog X.w) X.A (pyIter v) (PIE X pins σ tg R) X.xe s1) X.xe s
theorem Gw{E:bx->b_->Prop}{it:ce}{u:bx}{o:Obj}{n:String}{vs:Array bx}{Q:Unit->b_->Prop}(ho:s.heap.get? it=a7 o)(hc:o.cls=.type n)(hd:o.data=.fields vs)(b:["enumerate","zip","dict_itemiterator","dict_reverseitemiterator","odict_iterator","itertools.zip_longest","itertools.pairwise"].contains n=a_)(a:Q () s):cz M A (ln tg (.ref it) u) Q E s:=by unfold ln;cases tg<;>first|exact cx a|(cases u<;>first|exact cx a|(refine bd (wpAny_load ho ?_);rw[hc,hd];show cz M A (if(["enumerate","zip","dict_itemiterator","dict_reverseitemiterator","odict_iterator","itertools.zip_longest","itertools.pairwise"].contains n&&vs[0]?==a7 (i4 _))=bT then _ else _) Q E s;rw[if_neg (by intro h;rw[b,k8]at h;cases h)];exact cx a))
noncomputable def WQ(K:PySem.W.Frag)(a:ce):It:=⟨λi H=>∃xs x,gF K H a xs/\xs[i]?=a7 x,λi H x b=>b=H/\∀xs,gF K H a xs->xs[i]?=a7 x,λi H=>∃xs,gF K H a xs/\xs.length<=i⟩
noncomputable def Yo(K:PySem.W.Frag)(a:ce):It:=⟨λi H=>∃xs x,mq K H a xs/\xs[i]?=a7 x,λi H x b=>b=H/\∀xs,mq K H a xs->xs[i]?=a7 x,λi H=>∃xs,mq K H a xs/\xs.length<=i⟩
noncomputable def Zj(lo:Int)(n:Nat):It:=⟨λi _=>i<n,λi H x a=>a=H/\x=.int (lo+i),λi _=>n<=i⟩
theorem GR{P:da}(a it:ce):Turn P w K tg (WQ K a) [it] it (λi h=>h.IsListIter it a i)where
 mem:=by simp
 obj:=λi h st b f=>by
  have e:b=it:=by simpa using f
  subst e;obtain⟨o,e,c,d⟩:=st;exact⟨o,e,λv z=>by rw[d]at z;cases z⟩
 keep:=λi h h' st k=>st.at λo e=>k it (by simp) o e;item:=by intro X m n q hc i pins s σ H E I j st r;subst m n q;obtain⟨xs,x,l,t⟩:=r;obtain⟨y,B,p,hz⟩:=I.list l;obtain⟨u,C,G⟩:=B.get t;obtain⟨f0,f1,f2,f3,f4,f5⟩:=j it (by simp);refine wpAny_pyNext_list_item st p.isList (x:=u) (by simpa using C) λh' g J=>?_;have L:Inv X pins σ H {s with heap:=h'}:=I.turned (t':=s.toks) (λb o f e=>(J.2 b f).trans e) f0 f1 f3 f4 f5;obtain⟨o,e,c,d⟩:=id g;exact⟨u,rfl,Gw (s:={s with heap:=h'}) e c d (by decide) ⟨x,H,L,G,⟨rfl,λys N=>by rw[I.uD N l];exact t⟩,g,λb f=>(j b f).1⟩⟩
 done:=by intro X m n q hc i pins s σ H E I j st r;subst m n q;obtain⟨xs,l,t⟩:=r;obtain⟨y,B,p,hz⟩:=I.list l;obtain⟨f0,f1,f2,f3,f4,f5⟩:=j it (by simp);have Q:=B.length;exact wpAny_pyNext_list_end (I.ok.hd hc) st p.isList (by simp;omega) λh' O=>⟨rfl,I.turned (t':=s.toks) (λb o f e=>O b o f e) f0 f1 f3 f4 f5⟩
 self:=λ_ _ _ _ _ st h=>wpAny_pyIter_listiter st h
theorem Bj{P:da}(a it:ce):Turn P w K tg (Yo K a) [it] it (λi h=>h.IsTupleIter it a i)where
 mem:=by simp
 obj:=λi h st b f=>by
  have e:b=it:=by simpa using f
  subst e;obtain⟨o,e,c,d⟩:=st;exact⟨o,e,λv z=>by rw[d]at z;cases z⟩
 keep:=λi h h' st k=>st.at λo e=>k it (by simp) o e;item:=by intro X n q r hc i pins s σ H E I l st t;subst n q r;obtain⟨xs,x,m,y⟩:=t;obtain⟨g,B,p,hz⟩:=I.tuple m;obtain⟨u,C,G⟩:=B.get y;obtain⟨f0,f1,f2,f3,f4,f5⟩:=l it (by simp);refine wpAny_pyNext_tuple_item st (show s.heap.IsTuple a g.toArray from p) (x:=u) (by simpa using C) λh' j J=>?_;have L:Inv X pins σ H {s with heap:=h'}:=I.turned (t':=s.toks) (λb o f e=>(J.2 b f).trans e) f0 f1 f3 f4 f5;obtain⟨o,e,c,d⟩:=id j;exact⟨u,rfl,Gw (s:={s with heap:=h'}) e c d (by decide) ⟨x,H,L,G,⟨rfl,λys N=>by rw[I.o8 N m];exact y⟩,j,λb f=>(l b f).1⟩⟩
 done:=by intro X n q r hc i pins s σ H E I l st t;subst n q r;obtain⟨xs,m,y⟩:=t;obtain⟨g,B,p,hz⟩:=I.tuple m;obtain⟨f0,f1,f2,f3,f4,f5⟩:=l it (by simp);have Q:=B.length;exact wpAny_pyNext_tuple_end (I.ok.hd hc) st (show s.heap.IsTuple a g.toArray from p) (by simp;omega) λh' O=>⟨rfl,I.turned (t':=s.toks) (λb o f e=>O b o f e) f0 f1 f3 f4 f5⟩
 self:=λ_ _ _ _ _ st h=>wpAny_pyIter_tupleiter st h
theorem Cv{P:da}(it:ce)(lo:Int)(n:Nat):Turn P w K tg (Zj lo n) [it] it (λi h=>IsRangeIter h it (lo+(i:Nat)*1) ((n:Int)-(i:Nat)) 1)where
 mem:=by simp
 obj:=λi h st b a=>by
  have e:b=it:=by simpa using a
  subst e;exact⟨_,st,λv z=>by have p:Data.fields _=Data.cell v:=z;cases p⟩
 keep:=λi h h' st k=>k it (by simp) _ st;item:=by intro X g j l hc i pins s σ H E I f st m;subst g j l;obtain⟨f0,f1,f2,f3,f4,f5⟩:=f it (by simp);have W:=Walks.range (prog:=X.prog) (w:=X.w) (I.ok.hd hc) it lo 1 n;refine W.item i s _ _ m st λv h' tk q c kk=>?_;obtain⟨t,rfl⟩:=q;have r:Inv X pins σ H {s with heap:=h',toks:=tk}:=I.turned (λb o a e=>kk b o (by simpa using a) e) f0 f1 f3 f4 f5;refine⟨_,rfl,Gw (s:={s with heap:=h',toks:=tk}) (n:="range_iterator") c rfl rfl (by decide) ⟨.int (lo+i),H,r,⟨t,?_⟩,⟨rfl,rfl⟩,c,λb a=>(f b a).1⟩⟩;rw[mul_one]
 done:=by intro X g j l hc i pins s σ H E I f st m;subst g j l;obtain⟨f0,f1,f2,f3,f4,f5⟩:=f it (by simp);exact wpAny_pyNext_range_end (I.ok.hd hc) st (by have:n<=i:=m;omega) λh' u=>⟨rfl,I.turned (t':=s.toks) (λb o a e=>u b o a e) f0 f1 f3 f4 f5⟩
 self:=λ_ _ _ _ _ st h=>wpAny_pyIter_rangeiter st h
section
variable{X:Cx}{tg:dc}
theorem Af{σ:St}{R:It->Hp->Prop}{E:bx->b_->Prop}{lo hi:Int}{t u v:Tok}{tk:Nat}(I:Inv X pins σ H s)(h1:-(2^62)<=lo)(c:lo<2^62)(f:-(2^62)<=hi)(g:hi<2^62)(q:R (Zj lo (hi-lo).toNat) H):cz (cK X.prog X.w) X.A (pyIter (.ref s.heap.objs.size)) (PIE X pins σ tg R) E {s with heap:=s.heap.push {cls:=.type "range",data:=.fields #[.int lo t,.int hi u,.int 1 v]},toks:=tk}:=by
 refine wpAny_pyIter_range (IsRange.new ..) (small_one h1 c f g) ?_;have a:Inv X pins σ H {s with heap:=s.heap.push {cls:=.type "range",data:=.fields #[.int lo t,.int hi u,.int 1 v]},toks:=tk}:=I.kept λb o e=>eG e;refine⟨(s.heap.push {cls:=.type "range",data:=.fields #[.int lo t,.int hi u,.int 1 v]}).objs.size,[(s.heap.push {cls:=.type "range",data:=.fields #[.int lo t,.int hi u,.int 1 v]}).objs.size],_,_,H,rfl,a.kept (t':=tk) λb o e=>eG e,Cv _ lo (hi-lo).toNat,?_,λb j=>?_,q⟩
 . have k:lo+((0:Nat):Int)*1=lo:=by simp
   have l:(((hi-lo).toNat:Nat):Int)-((0:Nat):Int)=Builtin.Range.rangeSize lo hi 1:=by rw[rangeSize_one];split<;>omega
   show IsRangeIter _ _ (lo+((0:Nat):Int)*1) ((((hi-lo).toNat:Nat):Int)-((0:Nat):Int)) 1;rw[k,l];exact cy _ rfl
 . have e:b=(s.heap.push {cls:=.type "range",data:=.fields #[.int lo t,.int hi u,.int 1 v]}).objs.size:=by simpa using j
   subst e;exact a.Ie (dU) (a.hok.fresh (dU))
noncomputable def aam(a:TA):TI:=λσ H R=>a σ H λvs b=>∃j:Int,vs=[.int j]/\-(2^62)<=j/\j<2^62/\R (Zj 0 j.toNat) b
noncomputable def aa0(a:TA):TI:=λσ H R=>a σ H λvs b=>∃i j:Int,vs=[.int i,.int j]/\(-(2^62)<=i/\i<2^62/\-(2^62)<=j/\j<2^62)/\R (Zj i (j-i).toNat) b
theorem wg{a:dc}{c:TA}{p:Pos}(f:Gl X "range")(g:X.mg "range"=none)(k:PA X [a] c)(hs:cv [a] X.env=[(a_,er a X.env)]:=by rfl):PI X tg (.Call (.Name "range" p) [a] [] pos) (aam c):=by intro pins s σ H R I h;refine Call_ (kE I f g boot_range (eW (cC (k pos pins s σ H _ I h) λus s1⟨vs,H1,I1,r1,b⟩=>?_) hs rfl));obtain⟨j,e,b,l,q⟩:=b;subst e;cases r1 with|cons r m=>cases m;obtain⟨t,rfl⟩:=r;exact call_range_1 (Af I1 (by omega) (by omega) b l (by simpa using q))
theorem Ho{a b:dc}{k:TA}{p:Pos}(l:Gl X "range")(m:X.mg "range"=none)(n:PA X [a,b] k)(hs:cv [a,b] X.env=[(a_,er a X.env),(a_,er b X.env)]:=by rfl)(c:cv [b] X.env=[(a_,er b X.env)]:=by rfl):PI X tg (.Call (.Name "range" p) [a,b] [] pos) (aa0 k):=by intro pins s σ H R I h;refine Call_ (kE I l m boot_range (eW (cC (n pos pins s σ H _ I h) λus s1⟨vs,H1,I1,r1,f⟩=>?_) (by rw[hs,c]) (by rw[c];rfl)));obtain⟨i,j,e,⟨f,o,u,v⟩,q⟩:=f;subst e;cases r1 with|cons r g=>cases g with|cons x g=>cases g;obtain⟨t,rfl⟩:=r;obtain⟨t',rfl⟩:=x;exact call_range_2 (Af I1 f o u v q)
noncomputable def afj(wi:TI)(g:TG)(tb:TS):TS:=λD σ H=>wi σ H λJ e=>∃W:Nat->Nat->St->Hp->Prop,(∃m,W 0 m σ e)/\∀i m σ H,W i m σ H->(J.stop i H/\D.nx σ H)\/(J.go i H/\∃N:St->Hp->Prop,(∀σ' a,N σ' a->∃c,c<m/\W (i+1) c σ' a)/\∀x a,J.Oo i H x a->g x σ a λb f=>tb {D with nx:=N,ct:=N,bk:=D.nx} b f)
noncomputable def sX(a:List ce)(h:ej):List (ce×Obj):=a.filterMap λb=>(h.get? b).map λo=>(b,o)
theorem jH{a:List ce}{b:ce}{o:Obj}(c:b∈a)(e:h.get? b=a7 o):(b,o)∈sX a h:=List.mem_filterMap.mpr ⟨b,c,by rw[e];rfl⟩
theorem HQ{a:List ce}{p:ce×Obj}(c:p∈sX a h):p.1∈a/\h.get? p.1=a7 p.2:=by obtain⟨b,f,e⟩:=List.mem_filterMap.mp c;cases q:h.get? b with|none=>rw[q]at e;cases e|some o=>rw[q]at e;have g:(b,o)=p:=ez e;subst g;exact⟨f,q⟩
theorem Inv.pinned{σ:St}{a:List ce}(I:Inv X pins σ H s)(g:∀b∈a,oX X pins H b)(ho:∀b∈a,∃o,s.heap.get? b=a7 o/\∀v,o.data≠.cell v):Inv X (pins++sX a s.heap) σ H s:=I.Dv λp j=>(eM.mp j).elim (λz=>I.pin p (eI _ z)) λz=>by obtain⟨c,e⟩:=HQ z;obtain⟨f0,f1,f2,_⟩:=g p.1 c;obtain⟨o,f,d⟩:=ho p.1 c;rw[e]at f;cases f;exact⟨e,f0,f1,f2,d⟩
theorem Inv.n6{a:List (ce×Obj)}{σ:St}(I:Inv X (pins++a) σ H s):Inv X pins σ H s:=I.Dv λp b=>I.pin p (eI _ (fE _ b))
theorem Cd{iter:dc}{body:List ey}{wi:TI}{g:TG}{tb:TS}(y:ip (cK X.prog X.w) X.A X.env X.xe)(hc:X.calm=bT)(hi:PI X tg iter wi)(hg:PG X tg g)(c:qi X body tb)(hs:∀x,eN iter X.env x=eS x:=by intro _;rfl):PS X (.For tg iter body [] pos) (afj wi g tb):=by
 intro pins s σ H D I h;refine wpAny_For (cC (hi pins s σ H _ I h) λv s1 h1=>cC h1 λac s2 h2=>?_) hs;obtain⟨it,z,Y,J,H2,e,I2,T,O,f2,W,⟨m0,w0⟩,B⟩:=h2;subst e--what stays bT of the iterator's objects through the loop
 have j:∀{q:Hp},(∀b∈z,q b=none)->∀b∈z,oX X pins q b:=λhn b c=>⟨hn b c,(f2 b c).2⟩;refine codeAny_forLoop_any (λn Z=>∃i σ' q,Inv X pins σ' q Z/\Y i Z.heap/\(∀b∈z,q b=none)/\W i n σ' q) ?_ m0 ⟨0,σ,H2,I2,O,λb c=>(f2 b c).1,w0⟩;rintro n s3⟨i,k,L,I3,C,E,w3⟩;rcases B i n k L w3 with⟨stop,qn⟩|⟨go,N,hN,step⟩;.refine hY y (cC (T.done X rfl rfl rfl hc i pins s3 k L X.xe I3 (j E) C stop) λr s4⟨hr,I4⟩=>?_);subst hr;exact jR ⟨k,L,I4,qn⟩
 . refine hY y (cC (T.item X rfl rfl rfl hc i pins s3 k L X.xe I3 (j E) C go) λr s4⟨u,hr,h4⟩=>?_);subst hr;refine hY y (cC h4 λ_ s5⟨x,H5,I5,r5,y5,st5,fr5⟩=>?_);have Q:=I5.pinned (j fr5) (T.obj _ _ st5);refine hY y (cC (hg _ s5 k H5 x u _ Q r5 (step x H5 y5)) λ_ s6⟨U,H6,I6,q6⟩=>?_);refine hY y (cC (c _ s6 U H6 _ I6 q6) λf s7 t=>?_);have again:∀{a:St}{l:Hp},Inv X (pins++sX z s5.heap) a l s7->N a l->∃m,m<n/\∃i σ' q,Inv X pins σ' q s7/\Y i s7.heap/\(∀b∈z,q b=none)/\W i m σ' q:=λ{a l}p G=>by obtain⟨m',hm,w7⟩:=hN a l G;refine⟨m',hm,i+1,a,l,p.n6,T.keep _ _ _ st5 λb c o e=>(p.pin (b,o) (eI _ (eI _ (jH c e)))).1,λb c=>?_,w7⟩;obtain⟨o,e,d⟩:=T.obj _ _ st5 b c;exact(p.pin (b,o) (eI _ (eI _ (jH c e)))).2.1
   cases f with|next=>obtain⟨a,l,p,G⟩:=t;exact again p G|cont=>obtain⟨a,l,p,G⟩:=t;exact again p G|brk=>obtain⟨a,l,p,t⟩:=t;exact⟨a,l,p.n6,t⟩|ret v=>obtain⟨x7,a,l,p,r7,t⟩:=t;exact⟨x7,a,l,p.n6,r7,t⟩
end
noncomputable abbrev R2:=V->V->Hp->VK->Prop
noncomputable def jw(X:Cx)(f:bx->bx->Sem bx)(r:R2):Prop:=∀(pins:List (ce × Obj))(s:b_)(σ:St)(H:Hp)(x y:V)(v u:bx)(Q:VK),Inv X pins σ H s->RelV x v->RelV y u->r x y H Q->cz (cK X.prog X.w) X.A (f v u) (EP X pins σ Q) X.xe s
noncomputable def UnR(X:Cx)(f:bx->Sem bx)(r:V->Hp->VK->Prop):Prop:=∀(pins:List (ce × Obj))(s:b_)(σ:St)(H:Hp)(x:V)(v:bx)(Q:VK),Inv X pins σ H s->RelV x v->r x H Q->cz (cK X.prog X.w) X.A (f v) (EP X pins σ Q) X.xe s
noncomputable def dY(X:Cx)(f:bx)(r:List V->Hp->VK->Prop):Prop:=∀(pins:List (ce × Obj))(s:b_)(σ:St)(H:Hp)(xs:List V)(us:List bx)(Q:VK),Inv X pins σ H s->Vals xs us->r xs H Q->cz (cK X.prog X.w) X.A (call f us) (EP X pins σ Q) X.xe s
noncomputable def Xg(r:R2)(a tb:TE):TE:=λσ H Q=>a σ H λx b=>tb σ b λy c=>r x y c Q
noncomputable def tUn(r:V->Hp->VK->Prop)(a:TE):TE:=λσ H Q=>a σ H λx b=>r x b Q
noncomputable def rI(C:Int->Int->Prop)(g:Int->Int->V):R2:=λx y H Q=>∃i j,x=.int i/\y=.int j/\C i j/\Q (g i j) H
noncomputable def Tw(g:Int->Int->V):R2:=λx y H Q=>∃i j,x=.int i/\y=.int j/\Q (g i j) H
noncomputable def rU(g:Int->V):V->Hp->VK->Prop:=λx H Q=>∃i,x=.int i/\Q (g i) H
section
variable{X:Cx}{a b c:dc}{ta tb tc:TE}{pos:Pos}
theorem Vp(l:PE X a ta)(m:PE X b tb){σ:St}{R:V->V->Hp->Prop}(I:Inv X pins σ H s)(h:ta σ H λx k=>tb σ k λy e=>R x y e){Q:bx->b_->Prop}{f:bx->bx->Sem bx}(n:∀v u s2 x y e,Inv X pins σ e s2->RelV x v->RelV y u->R x y e->cz (cK X.prog X.w) X.A (f v u) Q X.xe s2):cz (cK X.prog X.w) X.A (er a X.env) (λv g=>cz (cK X.prog X.w) X.A (er b X.env) (λu j=>cz (cK X.prog X.w) X.A (f v u) Q X.xe j) X.xe g) X.xe s:=by refine cC (l pins s σ H _ I h) λv s1⟨x,k,I1,r1,q1⟩=>?_;refine cC (m pins s1 σ k _ I1 q1) λu s2⟨y,e,I2,r2,q2⟩=>?_;exact n v u s2 x y e I2 r1 r2 q2
theorem Z6{op:l_}{r:R2}(ho:jw X (fo op) r)(e:PE X a ta)(f:PE X b tb):PE X (.BinOp a op b pos) (Xg r ta tb):=by intro pins s σ H Q I h;exact wpAny_BinOp (Vp e f I h λv u s2 x y g j k l q=>ho pins s2 σ g x y v u Q j k l q)
theorem Z2{op:UnaryOp}{r:V->Hp->VK->Prop}(ho:UnR X (unaryOp op) r)(e:PE X a ta):PE X (.UnaryOp op a pos) (tUn r ta):=by intro pins s σ H Q I h;exact UnaryOp_ (cC (e pins s σ H _ I h) λv s1⟨x,H1,I1,r1,q1⟩=>ho pins s1 σ H1 x v Q I1 r1 q1)
theorem opI{f:bx->bx->Sem bx}{C:Int->Int->Prop}{g:Int->Int->Int}(rule:∀(i j:Int)(t u:Tok)(s:b_)(Q:bx->b_->Prop)(E:bx->b_->Prop),C i j->Q (.int (g i j) s.toks) {s with toks:=s.toks+1}->cz (cK X.prog X.w) X.A (f (.int i t) (.int j u)) Q E s):jw X f (rI C λi j=>.int (g i j)):=by intro pins s σ H x y v u Q I e k h;obtain⟨i,j,rfl,rfl,hc,q⟩:=h;obtain⟨t,rfl⟩:=e;obtain⟨t',rfl⟩:=k;exact rule i j t t' s _ _ hc ⟨.int (g i j),H,I.tok _,⟨_,rfl⟩,q⟩
theorem aaE{f:bx->bx->Sem bx}{g:Int->Int->Int}(rule:∀(i j:Int)(t u:Tok)(s:b_)(Q:bx->b_->Prop)(E:bx->b_->Prop),Q (.int (g i j) s.toks) {s with toks:=s.toks+1}->cz (cK X.prog X.w) X.A (f (.int i t) (.int j u)) Q E s):jw X f (Tw λi j=>.int (g i j)):=by intro pins s σ H x y v u Q I e k h;obtain⟨i,j,rfl,rfl,q⟩:=h;obtain⟨t,rfl⟩:=e;obtain⟨t',rfl⟩:=k;exact rule i j t t' s _ _ ⟨.int (g i j),H,I.tok _,⟨_,rfl⟩,q⟩
theorem aaf{f:bx->bx->Sem bx}{g:Int->Int->Bool}(rule:∀(i j:Int)(t u:Tok)(s:b_)(Q:bx->b_->Prop)(E:bx->b_->Prop),Q (.bool (g i j)) s->cz (cK X.prog X.w) X.A (f (.int i t) (.int j u)) Q E s):jw X f (Tw λi j=>.bl (g i j)):=by intro pins s σ H x y v u Q I e k h;obtain⟨i,j,rfl,rfl,q⟩:=h;obtain⟨t,rfl⟩:=e;obtain⟨t',rfl⟩:=k;exact rule i j t t' s _ _ ⟨.bl (g i j),H,I,rfl,q⟩
noncomputable def aen(i j:Int):Prop:=0<=j/\j<=1000000/\i.natAbs<2^64
noncomputable def XD(i j:Int):Prop:=(-(2^64)<i/\i<2^64)\/(-(2^64)<j/\j<2^64)
theorem XD.ok{i j:Int}(h:XD i j):IntMulOk i j:=by
 rcases h with⟨h1,e⟩|⟨h1,e⟩;.exact .of_left (intBits_le_64 h1 e)
 .exact .of_right (intBits_le_64 h1 e)
theorem VB:jw X (fo .Add) (Tw λi j=>.int (i+j)):=aaE λ_ _ _ _ _ _ _ q=>add_int q
theorem V2:jw X (fo .Sub) (Tw λi j=>.int (i-j)):=aaE λ_ _ _ _ _ _ _ q=>sub_int q
theorem UW:jw X (fo .Mult) (rI XD λi j=>.int (i*j)):=opI λ_ _ _ _ _ _ _ hc q=>mul_int q hc.ok
theorem W8:jw X (fo .Mod) (rI (λ_ j=>0<j) λi j=>.int (i%j)):=opI λi j _ _ _ _ _ hc q=>by have h1:(0:Int)<j:=hc;exact mod_int' (by omega) (by rw[Int.fmod_eq_emod_of_nonneg i (by omega)];exact q)
theorem WM:jw X (fo .Pow) (rI aen λi j=>.int (i^j.toNat)):=opI λ_ _ _ _ _ _ _ hc q=>pow_int_small hc.1 hc.2.1 hc.2.2 q
theorem unI{f:bx->Sem bx}{g:Int->Int}(rule:∀(i:Int)(t:Tok)(s:b_)(Q:bx->b_->Prop)(E:bx->b_->Prop),Q (.int (g i) s.toks) {s with toks:=s.toks+1}->cz (cK X.prog X.w) X.A (f (.int i t)) Q E s):UnR X f (rU λi=>.int (g i)):=by intro pins s σ H x v Q I e h;obtain⟨i,rfl,q⟩:=h;obtain⟨t,rfl⟩:=e;exact rule i t s _ _ ⟨.int (g i),H,I.tok _,⟨_,rfl⟩,q⟩
theorem Xj:UnR X (unaryOp .USub) (rU λi=>.int (-i)):=unI λ_ _ _ _ _ q=>neg_int q
end
section
variable{X:Cx}{a b c:dc}{ta tb tc:TE}{pos:Pos}
theorem Vw{σ:St}{Q:VK}{k f:Bool}(I:Inv X pins σ H s)(q:Q (.bl k) H)(e:k=f):EP X pins σ Q (.bool f) s:=by subst e;exact⟨.bl k,H,I,rfl,q⟩
theorem aaP:jw X (eR .Lt) (Tw λi j=>.bl (decide (i<j))):=aaf λ_ _ _ _ _ _ _ q=>lt_int q
theorem abQ:jw X (eR .Gt) (Tw λi j=>.bl (decide (j<i))):=aaf λ_ _ _ _ _ _ _ q=>gt_int q
theorem Q5:jw X (eR .IsNot) (λx y H Q=>y=.non/\Q (.bl (!decide (x=.non))) H):=by intro pins s σ H x y v u Q I e f h;obtain⟨rfl,q⟩:=h;cases f;refine isnot_none_gen (Vw I q ?_);cases x<;>first|(cases e;rfl)|(obtain⟨t,rfl⟩:=e;rfl)
theorem agH{op:nz}{es:List dc}{k:Nat}{p:Pos}(e:(op==CmpOp.In)=a_)(f:(op==pX)=a_):gi op (.Set es k p)=a_:=by show(k==0&&(op==CmpOp.In||op==pX)&&_)=a_;rw[e,f];cases(k==0)<;>rfl
theorem cB(b:dc){op:nz}(h:op≠.In:=by decide)(e:op≠.NotIn:=by decide):gi op b=a_:=by
 have f:(op==CmpOp.In)=a_:=by cases op<;>first|rfl|exact absurd rfl h
 have g:(op==pX)=a_:=by cases op<;>first|rfl|exact absurd rfl e
 cases b<;>first|rfl|exact agH f g
theorem Rp{op:nz}{r:R2}(ho:jw X (eR op) r)(e:PE X a ta)(f:PE X b tb)(g:gi op b=a_):PE X (.Compare a [op] [b] pos) (Xg r ta tb):=by intro pins s σ H Q I h;exact wpAny_Compare1 (Vp e f I h λv u s2 x y j k l m q=>ho pins s2 σ j x y v u Q k l m q) g
noncomputable def abe(t:TE):TT:=λσ H Q=>t σ H λx e=>∃k,x=.bl k/\Q k e
theorem Ft{op:nz}{r:R2}(ho:jw X (eR op) r)(f:PE X a ta)(g:PE X b tb)(j:gi op b=a_):PT X (.Compare a [op] [b] pos) (abe (Xg r ta tb)):=by intro pins s σ H Q I h;refine rg (cC (f pins s σ H _ I h) λv s1⟨x,H1,I1,r1,q1⟩=>cC (g pins s1 σ H1 _ I1 q1) λu s2⟨y,H2,I2,r2,q2⟩=>cC (ho pins s2 σ H2 x y v u _ I2 r1 r2 q2) λc s3⟨z,H3,I3,r3,k,e,q3⟩=>?_) j;subst e;cases r3;exact ia ⟨H3,I3,q3⟩
theorem sG:(sizeLine:Nat)<2^63:=by rw[fb];decide
theorem Bl:jw X (fo .Add) (λx y H Q=>∃i j,x=.str i/\y=.str j/\i.length+j.length<=sizeLine/\Q (.str (i++j)) H):=by intro pins s σ H x y v u Q I e f h;obtain⟨i,j,rfl,rfl,hz,q⟩:=h;obtain⟨t,rfl⟩:=e;obtain⟨t',rfl⟩:=f;exact add_str (λt' tk=>⟨.str (i++j),H,I.tok _,⟨_,rfl⟩,q⟩) hz
theorem vals1{x:V}(r:Vals [x] us):∃u,us=[u]/\RelV x u:=by cases r with|cons r1 e=>cases e;exact⟨_,rfl,r1⟩
theorem vals2{x y:V}(r:Vals [x,y] us):∃u e,us=[u,e]/\RelV x u/\RelV y e:=by cases r with|cons r1 f=>cases f with|cons g j=>cases j;exact⟨_,_,rfl,r1,g⟩
theorem Hg(hc:X.calm=bT):dY X (.builtin "max") (λxs H Q=>∃i j,xs=[.int i,.int j]/\Q (.int (if j>i then j else i)) H):=by
 intro pins s σ H xs us Q I r h;obtain⟨i,j,rfl,q⟩:=h;obtain⟨u,f,rfl,⟨t,rfl⟩,⟨t',rfl⟩⟩:=vals2 r;refine max_two_ints (I.ok.hd hc) λh' tk k=>⟨_,H,I.kept k,?_,q⟩;by_cases e:j>i;.rw[if_pos e,if_pos e];exact⟨_,rfl⟩
 .rw[if_neg e,if_neg e];exact⟨_,rfl⟩
theorem G7(hc:X.calm=bT):dY X (.builtin "min") (λxs H Q=>∃i j,xs=[.int i,.int j]/\Q (.int (if j<i then j else i)) H):=by
 intro pins s σ H xs us Q I r h;obtain⟨i,j,rfl,q⟩:=h;obtain⟨u,f,rfl,⟨t,rfl⟩,⟨t',rfl⟩⟩:=vals2 r;refine min_two_ints (I.ok.hd hc) λh' tk k=>⟨_,H,I.kept k,?_,q⟩;by_cases e:j<i;.rw[if_pos e,if_pos e];exact⟨_,rfl⟩
 .rw[if_neg e,if_neg e];exact⟨_,rfl⟩
end
theorem qL.some_of{v:V}{o:Option bx}(r:qL (a7 v) o):∃u,o=a7 u/\RelV v u:=by cases o with|none=>exact(show False from r).elim|some u=>exact⟨u,rfl,r⟩
structure jc(k:Nat)(A:ek):Prop where
 hd:A.handled=none
 dp:A.depth+3*k+5<recursionLimit
 un:A.units+16*k+200<fT
theorem jc.deeper{k:Nat}{A:ek}(r:jc (k+1) A)(env:Env):jc k (A.deeper env):=⟨r.hd,by have:=r.dp;show A.depth+1+3*k+5<_;omega,by have:=r.un;show A.units+3+16*k+200<_;omega⟩
theorem jc.depth{k:Nat}{A:ek}(r:jc k A):A.depth<recursionLimit:=by have:=r.dp;omega
noncomputable def afH:TA:=λ_ H Q=>Q [] H
noncomputable def aaU(a:TE)(b:TA):TA:=λσ H Q=>a σ H λx c=>b σ c λxs e=>Q (x::xs) e
section
variable{X:Cx}{e:dc}{es:List dc}{te:TE}{t:TA}{pos:Pos}
theorem dw:PA X [] afH:=λ_ _ _ _ H Q I h=>ka ⟨[],H,I,.nil,h⟩
theorem bj(a:PE X e te)(hr:PA X es t)(hs:cv (e::es) X.env=(a_,er e X.env)::cv es X.env:=by rfl):PA X (e::es) (aaU te t):=by intro pos pins s σ H Q I h;rw[hs];show cz _ _ (spliced ((a_,er e X.env)::gI pos (cv es X.env))) _ _ s;refine iq (cC (a pins s σ H _ I h) λu s1⟨x,H1,I1,r1,q1⟩=>?_);exact cC (hr pos pins s1 σ H1 _ I1 q1) λus s2⟨xs,H2,I2,r2,q2⟩=>⟨x::xs,H2,I2,.cons r1 r2,q2⟩
noncomputable def ae2(t:TA):TE:=λσ H Q=>t σ H λxs a=>xs.length<=sizeLine/\∀p,a p=none->Q (.ref p) (upd a p (.tup xs))
noncomputable def aei(t:TA):TE:=λσ H Q=>t σ H λxs a=>xs.length<=sizeLine/\∀p,a p=none->Q (.ref p) (upd a p (.lst xs))
theorem MK{x1}(h:PA X es t):PE X (.Tuple es x1 pos) (ae2 t):=by intro pins s σ H Q I a;refine wpAny_Tuple_spliced (cC (h pos pins s σ H _ I a) λus s1⟨xs,H1,I1,r,z,q⟩=>⟨by rw[<-r.length];exact z,?_⟩);have c:H1 s1.heap.objs.size=none:=I1.hok.fresh (dU);refine⟨.ref s1.heap.objs.size,upd H1 s1.heap.objs.size (.tup xs),I1.laid (t':=s1.toks) (λb u e=>eG e) (dU) ?_,rfl,q _ c⟩;exact⟨z,us,r,⟨_,cy _ rfl,rfl,_,rfl⟩⟩
theorem WT(h:PA X es t):PE X (.List es pos) (aei t):=by intro pins s σ H Q I a;refine wpAny_List_spliced (cC (h pos pins s σ H _ I a) λus s1⟨xs,H1,I1,r,z,q⟩=>⟨by rw[<-r.length];exact z,?_⟩);have c:H1 s1.heap.objs.size=none:=I1.hok.fresh (dU);refine⟨.ref s1.heap.objs.size,upd H1 s1.heap.objs.size (.lst xs),I1.laid (t':=s1.toks) (λb u e=>eG e) (dU) ?_,rfl,q _ c⟩;exact⟨z,us,0,r,cy _ rfl⟩
end
noncomputable abbrev Sp:=List V->Hp->VK->XK->Prop
noncomputable abbrev Iv:=List Env->Hp->b_->XK->bx->b_->Prop
structure Rh(P:da)(w:eg)(K:PySem.W.Frag)(mg:Str->Option bx)(base:ej)(A:ek)(outer:List Env)(s:b_)(H:Hp):Prop where
 frames:A.frames=a7 outer
 mod:Mod K mg base
 bs:∀b o,base.get? b=a7 o->s.heap.get? b=a7 o/\H b=none
 Ii:base.objs.size<=s.heap.objs.size
 lV:s.heap.FunFrames base outer
 Nt:∀b∈frs outer,H b=none
 hok:jX P w H s.heap
 bare:lm s.gens
noncomputable def CE(outer:List Env)(P:da)(w:eg)(H:Hp)(s:b_)(Q:VK)(u:bx)(a:b_):Prop:=∃v b,a.os=s.os/\lm a.gens/\Un (frs outer) [] H b s.heap a.heap/\jX P w b a.heap/\RelV v u/\Q v b
noncomputable def CR(CX:Iv)(outer:List Env)(P:da)(w:eg)(H:Hp)(s:b_)(Q:VK)(E:XK)(r:Result)(a:b_):Prop:=match r with|.ok (.ret u)=>CE outer P w H s Q u a|.ok _=>False|.error e=>CX outer H s E e a
structure jq(P:da)(w:eg)(K:PySem.W.Frag)(mg:Str->Option bx)(base:ej)(CX:Iv)(k:Nat)(f:ce)(fd:gX)(ps:List Str)(sp:Sp):Prop where
 len:∀vs H Q E,sp vs H Q E->vs.length=ps.length
 run:∀(A:ek)(outer:List Env)(s:b_)(H:Hp)(args:Args)(us:List bx)(vs:List V)(Q:VK)(E:XK),jc k A->Rh P w K mg base A outer s H->oB s fd args (ps.zip us)->Vals vs us->sp vs H Q E->li (cK P w) A (.call (.ref f) args) (CR CX outer P w H s Q E) s
section
variable{X:Cx}{pins:List (ce×Obj)}{σ:St}{H:Hp}{s s':b_}
theorem Inv.env0(I:Inv X pins σ H s):Rh X.prog X.w X.K X.mg X.base X.A X.stack s H:=⟨I.ok.frames,I.ok.mod,I.bs,fR I.ok.Ii I.sz,I.stack,I.qQ,I.hok,I.bare⟩
theorem Inv.after{Q:VK}{u:bx}(I:Inv X pins σ H s)(h:CE X.stack X.prog X.w H s Q u s'):EP X pins σ Q u s':=by obtain⟨v,c,os,bare,un,hok,r,q⟩:=h;obtain⟨e,g,d,t,a⟩:=s';obtain rfl:a=s.os:=os;exact⟨v,c,I.call (h':=e) (g':=g) (d':=d) (t':=t) (ch:=[]) un hok bare (λb z=>absurd z (by simp)),r,q⟩
end
noncomputable def abx(sp:Sp)(a:List V)(E:XK)(t:TA):TE:=λσ H Q=>t σ H λvs b=>sp (vs++a) b Q E
noncomputable def Binds(K:PySem.W.Frag)(fd:gX)(ps:List Str)(a:List bx):Prop:=∀(s:b_)(us:List bx),K.In s.heap->(us++a).length=ps.length->oB s fd ⟨us,[]⟩ (ps.zip (us++a))
theorem Binds.all{fd:gX}{ps:List Str}(h:∀us:List bx,us.length=ps.length->nq fd ⟨us,[]⟩=eS (ps.zip us)):Binds K fd ps []:=λs us _ a=>by rw[e_]at a ⊢;exact .of_eq (h us a)
noncomputable def Passes(CX:Iv)(X:Cx)(E:XK):Prop:=∀(pins:List (ce×Obj))(σ:St)(H:Hp)(s:b_)(e:bx)(a:b_),Inv X pins σ H s->CX X.stack H s E e a->X.xe e a
section
variable{X:Cx}{CX:Iv}{k:Nat}{f C:ce}{fd:gX}{ps:List Str}{sp:Sp}{T3:List V}{ds:List bx}{E:XK}{x m:Str}{p pos apos:Pos}{e o:dc}{es:List dc}{ta:TE}{t:TA}
theorem Ul{σ:St}{Q:VK}{vs:List V}(F:jq X.prog X.w X.K X.mg X.base CX k f fd ps sp)(hr:jc k X.A)(c:Binds X.K fd ps ds)(hd:Vals T3 ds)(g:Passes CX X E)(I:Inv X pins σ H s)(r:Vals vs us)(h:sp (vs++T3) H Q E):cz (cK X.prog X.w) X.A (call (.ref f) us) (EP X pins σ Q) X.xe s:=by
 have b:Vals (vs++T3) (us++ds):=r.append hd;have j:(us++ds).length=ps.length:=by rw[<-b.length];exact F.len _ _ _ _ h
 refine wpAny_call (rc (F.run X.A X.stack s H ⟨us,[]⟩ (us++ds) (vs++T3) Q E hr I.env0 (c s us I.O4 j) b h) λr l a=>?_);cases r with|error e=>exact g pins σ H s e l I a|ok fl=>cases fl with|ret u=>exact I.after a|next=>exact fe a|brk=>exact fe a|cont=>exact fe a
theorem wD(F:jq X.prog X.w X.K X.mg X.base CX k f fd ps sp)(hr:jc k X.A)(b:Gl X x)(c:X.mg x=a7 (.ref f))(g:keepIn X.K (.ref f)=bT)(j:Binds X.K fd ps ds)(hd:Vals T3 ds)(l:Passes CX X E)(n:PA X (e::es) t)(a:(x==("__debug__":Str))=a_:=by decide)(he:cv (e::es) X.env=(a_,er e X.env)::cv es X.env:=by rfl)(hpl:(gI pos (cv es X.env)).any (·.1)=a_:=by rfl):PE X (.Call (.Name x p) (e::es) [] pos) (abx sp T3 E t):=by intro pins s σ H Q I h;refine mv (rQ I b c ?_ a);refine PySem.W.callWith_K (h₀:=X.base) I.ok.mod.qZ g (cC (n pos pins s σ H _ I h) λus s1⟨vs,H1,I1,r,q⟩=>⟨I1.O4,?_⟩) he hpl;exact Ul F hr j hd l I1 r q
end
structure aN(N P:List Str)(sc:iO):Prop where
 kind:sc.kind=.function:=by rfl
 co:sc.isCoroutine=a_:=by rfl
 gen:sc.isGenerator=a_:=by rfl
 nd:N.Nodup:=by decide+kernel
 pre:N.take P.length=P:=by rfl
 par:∀x∈P,sc.names.lookup x=a7 .local\/sc.names.lookup x=a7 .cell:=by decide+kernel
 XS:∀y∈sc.names,y.2≠.free:=by decide+kernel
theorem vW{kindOf:Str->Option ku}{x:Str}:∀{binds:List (Str×bx)}{m:Str->Option bx},(∀v,(x,v)∉binds)->qh kindOf binds m x=m x
 |[],_,_=>rfl|(n,v)::r,m,h=>by
   unfold qh;rw[vW λw a=>h w (dS _ a)];split
   . have:x≠n:=by rintro rfl;exact h v h9
     simp[this]
   .rfl
theorem vL{kindOf:Str->Option ku}{x:Str}:∀{binds:List (Str×bx)}{m:Str->Option bx},(∀v,(x,v)∉binds)->qk kindOf binds m x=m x
 |[],_,_=>rfl|(n,v)::r,m,h=>by
   unfold qk;rw[vL λw a=>h w (dS _ a)];split;.rfl
   . have:x≠n:=by rintro rfl;exact h v h9
     simp[this]
theorem vm{kindOf:Str->Option ku}{x:Str}{v:bx}:∀{P:List Str}{vs:List bx}{i:Nat}{m:Str->Option bx},P.Nodup->P[i]?=a7 x->vs[i]?=a7 v->kindOf x=a7 .local->qh kindOf (P.zip vs) m x=a7 v|[],_,_,_,_,h,_,_=>by simp at h|_::_,[],_,_,_,_,h,_=>by simp at h|p::P,w::vs,0,m,nd,h1,a,b=>by simp at h1 a;subst h1;subst a;show qh kindOf ((p,w)::P.zip vs) m p=_;unfold qh;rw[vW λv c=>(eH.mp nd).1 (oI c).1,if_pos b];simp|p::P,w::vs,i+1,m,nd,h1,a,b=>by show qh kindOf ((p,w)::P.zip vs) m x=_;unfold qh;exact vm (i:=i) (eH.mp nd).2 (by simpa using h1) (by simpa using a) b
theorem vp{kindOf:Str->Option ku}{x:Str}{v:bx}:∀{P:List Str}{vs:List bx}{i:Nat}{m:Str->Option bx},P.Nodup->P[i]?=a7 x->vs[i]?=a7 v->kindOf x≠a7 .local->qk kindOf (P.zip vs) m x=a7 v|[],_,_,_,_,h,_,_=>by simp at h|_::_,[],_,_,_,_,h,_=>by simp at h|p::P,w::vs,0,m,nd,h1,a,b=>by simp at h1 a;subst h1;subst a;show qk kindOf ((p,w)::P.zip vs) m p=_;unfold qk;rw[vL λv c=>(eH.mp nd).1 (oI c).1,if_neg b];simp|p::P,w::vs,i+1,m,nd,h1,a,b=>by show qk kindOf ((p,w)::P.zip vs) m x=_;unfold qk;exact vp (i:=i) (eH.mp nd).2 (by simpa using h1) (by simpa using a) b
noncomputable def start(N:List Str)(vs:List V):St:=vs.map a7++cp (N.length-vs.length) none
noncomputable def lX(CX:Iv)(P:da)(w:eg)(K:PySem.W.Frag)(mg:Str->Option bx)(base:ej)(N:List Str)(qual:Str)(scope:iO)(f:ce)(b:bx)(A:ek)(outer:List Env)(s:b_)(H:Hp)(E:XK):Cx where prog:=P;w:=w;K:=K;mg:=mg;base:=base;A:=A.deeper (kq qual scope s.heap.objs.size f b);N:=N;s₀:=s;H₀:=H;env:=kq qual scope s.heap.objs.size f b;outer:=outer;stack:=kq qual scope s.heap.objs.size f b::outer;ex:=[];calm:=bT;fn:=λ_=>bT;pn:=[];xe:=λe c=>cz (cK P w) (A.deeper (kq qual scope s.heap.objs.size f b)) (leaving (kq qual scope s.heap.objs.size f b) e) (λ_ a=>CX outer H s E e a) (λg a=>CX outer H s E g a) c
theorem zf{a:iO}{n:Nat}{x:Str}(h:a.names.lookup x=a7 .cell):∃c,(kg n a.names []).lookup x=a7 c:=by have q:=PySem.W.cellsFrom_some a.names n [] (.inl h);exact gx.mp q
theorem Hz{CX:Iv}{P:da}{mg:Str->Option bx}{base:ej}{N ps:List Str}{qual:Str}{scope:iO}{f:ce}{t:bx}{outer:List Env}{s1:b_}{E:XK}{vs:List V}(S:aN N ps scope)(hd:A.handled=none)(j:Rh P w K mg base A outer s H)(J:vs.length=ps.length)(r:Vals vs us)(x:InCallC s s.heap.objs.size (qh (kq qual scope s.heap.objs.size f t).kindOf (ps.zip us) λ_=>none) (kg (s.heap.objs.size+1) scope.names []) (qk (kq qual scope s.heap.objs.size f t).kindOf (ps.zip us) λ_=>none) s1):Inv (lX CX P w K mg base N qual scope f t A outer s H E) [] (start N vs) H s1:=by
 have hpl:ps.length<=N.length:=by have:=congrArg k4 S.pre;rw[ky]at this;omega
 obtain⟨h1,tk,rfl,B⟩:=x.done;have l:∀b:ce,b∉(lX CX P w K mg base N qual scope f t A outer s H E).ex:=λb z=>absurd (show b∈([]:List ce)from z) (by simp);refine⟨⟨j.mod,S.kind,rfl,rfl,dU,λy z c h1 g=>?_,λy hy=>?_,λy c _ h=>?_,λ_=>hd,Around.frames_deeper j.frames,.inr ⟨rfl,rfl⟩,λb z=>absurd z (l b),j.bs,j.Ii,λb _ _=>l b,λb z=>absurd z (l b),j.lV,j.Nt⟩,rfl,j.bare,Un.kept B,⟨_,x.toInCall.ns,λi y v h1 g L=>?_⟩,λy c h=>⟨_,x.cell y c h⟩,j.hok.fresh (dU),λy c h=>?_,λp m=>absurd (show p∈([]:List (ce×Obj))from m) (by simp),j.hok.kept B,?_⟩;.exact name_of_addr x.apart (PySem.mem_of_lookup h1) (PySem.mem_of_lookup g)
 . have hy:scope.names.lookup y=a7 .cell\/scope.names.lookup y=a7 .free:=hy;rcases hy with hy|hy;.exact zf hy
   .exact absurd rfl (S.XS _ (PySem.mem_of_lookup hy))
 .exact lT (x.above y c (PySem.mem_of_lookup h))
 . have hi:i<vs.length:=by
    unfold start at g;by_cases hi:i<vs.length;.exact hi
    .rw[fg (by simpa using hi)]at g;rw[hU]at g;split at g<;>cases g
   have G:vs[i]?=a7 v:=by unfold start at g;rw[cS (by simpa using hi),eV]at g;cases e:vs[i]?with|none=>rw[e]at g;cases g|some a=>rw[e]at g;cases g;rfl
   obtain⟨u,C,I⟩:=r.get G;have m:ps[i]?=a7 y:=by rw[<-S.pre,ki (by omega)];exact h1
   have o:ps.Nodup:=by rw[<-S.pre];exact S.nd.sublist (List.take_sublist _ _)
   refine⟨u,I,?_⟩;rcases S.par y (dQ m)with k|k;.exact .inl ⟨k,vm o m C k⟩
   .obtain⟨c,e⟩:=zf (n:=s.heap.objs.size+1) k;refine .inr ⟨.inl k,c,e,?_⟩;have q:=x.cell y c e;rw[vp o m C (by show scope.names.lookup y≠_;rw[k];decide)]at q;exact q
 .exact j.hok.fresh (lT (x.above y c (PySem.mem_of_lookup h)))
 .unfold start;show _=N.length;rw[ei,ef,iP];omega
theorem Tc{CX:Iv}{P:da}{w:eg}{K:PySem.W.Frag}{mg:Str->Option bx}{base:ej}{k:Nat}{f:ce}{name qual:Str}{a:Arguments}{body:List ey}{scope:iO}{G kV l L cdv ct oc:bx}{O od:Option ce}{p:Array (Option bx)}{N ps:List Str}{sp:Sp}(lk:K.lookup f=a7 ⟨oc,od,.func (PySem.W.fnOf name qual a body scope G kV l L O cdv ct),p⟩)(z:PySem.W.codeIn K cdv qual=bT)(S:aN N ps scope)(len:∀vs H Q E,sp vs H Q E->vs.length=ps.length)(g:∀(A:ek)(outer:List Env)(s:b_)(H:Hp)(vs:List V)(Q:VK)(E:XK),jc k (A.deeper (kq qual scope s.heap.objs.size f cdv))->sp vs H Q E->∃t,qi (lX CX P w K mg base N qual scope f cdv A outer s H E) body t/\t {nx:=λ_ c=>Q .non c,rt:=Q} (start N vs) H):jq P w K mg base CX (k+1) f (PySem.W.fnOf name qual a body scope G kV l L O cdv ct) ps sp:=by
 refine⟨len,λA outer s H args us vs Q E hr m Y r hsp=>?_⟩;have Z:=len _ _ _ _ hsp;have U:K.In s.heap:=m.mod.qZ.keeps λb o e=>(m.bs b o e).1;have lim:s.heap.NoLimit:=m.mod.nolimit.keeps λb o e=>(m.bs b o e).1;have j:∀y∈ps.zip us,scope.names.lookup y.1=a7 .local\/(scope.names.lookup y.1=a7 .cell/\((kg (s.heap.objs.size+1) scope.names []).lookup y.1).isSome=bT):=λ⟨n,v⟩hy=>by
  rcases S.par n (oI hy).1 with q|q;.exact .inl q
  .exact .inr ⟨q,PySem.W.cellsFrom_some _ _ _ (.inl q)⟩
 refine codeAny_call_function hr.depth (U _ _ lk) rfl S.co S.gen rfl (PySem.W.codeRec_of U z) (Y _ _ _ _ ?_);refine wpAny_newFunctionEnv_cells S.kind j λenv he s1 x=>?_;subst he;refine⟨lim.keeps x.toInCall.keep,codeAny_func ?_⟩;obtain⟨t,ht,hq⟩:=g A outer s H vs Q E (hr.deeper _) hsp;have I:Inv (lX CX P w K mg base N qual scope f cdv A outer s H E) [] (start N vs) H s1:=Hz S hr.hd m Z r x;refine d_ (ht [] s1 (start N vs) H _ I hq) (λfl B hs=>?_) λe B hs=>hs;have fin:∀{σ':St}{c:Hp}{v:V}{u:bx},Inv (lX CX P w K mg base N qual scope f cdv A outer s H E) [] σ' c B->RelV v u->Q v c->CE outer P w H s Q u B:=λ{σ' c v u}J C q=>⟨v,c,J.os,J.bare,J.base,J.hok,C,q⟩;cases fl with|ret u=>obtain⟨v,σ',c,J,C,q⟩:=hs;exact fin J C q|next=>obtain⟨σ',c,J,q⟩:=hs;exact fin (v:=V.non) (u:=dE) J rfl q|brk=>obtain⟨_,_,_,q⟩:=hs;exact fe q|cont=>obtain⟨_,_,_,q⟩:=hs;exact fe q
section
variable{X:Cx}{x:Str}{p pos:Pos}{e:dc}{es:List dc}{t:TA}{id T:String}{r:List V->Hp->VK->Prop}
noncomputable def tCB(r:List V->Hp->VK->Prop)(t:TA):TE:=λσ H Q=>t σ H λvs a=>r vs a Q
theorem dq(hc:dY X (.builtin id) r)(b:Gl X x)(c:X.mg x=none)(f:eP x=a7 (.builtin id))(g:PA X (e::es) t)(j:x≠"__name__":=by decide)(a:(x==("__debug__":Str))=a_:=by decide)(he:cv (e::es) X.env=(a_,er e X.env)::cv es X.env:=by rfl)(hpl:(gI pos (cv es X.env)).any (·.1)=a_:=by rfl):PE X (.Call (.Name x p) (e::es) [] pos) (tCB r t):=by intro pins s σ H Q I h;refine mv (kE I b c f ?_ j a);exact PyProof.Rows.callWith_builtin1 (cC (g pos pins s σ H _ I h) λus s1⟨vs,H1,I1,r1,q1⟩=>hc pins s1 σ H1 vs us Q I1 r1 q1) he hpl
theorem o6(hc:dY X (.type T) r)(b:Gl X x)(c:X.mg x=none)(f:eP x=a7 (.type T))(g:PA X (e::es) t)(j:x≠"__name__":=by decide)(a:(x==("__debug__":Str))=a_:=by decide)(he:cv (e::es) X.env=(a_,er e X.env)::cv es X.env:=by rfl)(hpl:(gI pos (cv es X.env)).any (·.1)=a_:=by rfl):PE X (.Call (.Name x p) (e::es) [] pos) (tCB r t):=by intro pins s σ H Q I h;refine mv (kE I b c f ?_ j a);exact eW (cC (g pos pins s σ H _ I h) λus s1⟨vs,H1,I1,r1,q1⟩=>hc pins s1 σ H1 vs us Q I1 r1 q1) he hpl
end
end _L
namespace _U
open PySem PyProof.Rows
section
variable{prog:da}{w:eg}{A:ek}{E:bx->b_->Prop}{s:b_}
theorem QK{t b:ce}{vs ws:List bx}{Q:bx->b_->Prop}(ht:qo s.heap t vs.toArray)(m:qo s.heap b ws.toArray)(j:vs≠[])(h1:ws=[]->Q (.ref t) s)(o:ws≠[]->Q (.ref s.heap.objs.size) {s with heap:=s.heap.push {cls:=.type "tuple",data:=.seq (vs++ws).toArray}})(hsz:vs.length+ws.length<=sizeLine):cz (cK prog w) A (fo .Add (.ref t) (.ref b)) Q E s:=by
 obtain⟨⟨cls,dd,data,sl⟩,ho,hc,n,hd⟩:=id ht;obtain⟨⟨k,c,data2,f⟩,a,g,l,h⟩:=id m;simp only at hc hd g h;subst hc hd g h;have e:vs.toArray++ws.toArray=(vs++ws).toArray:=by simp
 by_cases i:ws=[];.exact nh ⟨_,ho,rfl⟩ ⟨_,a,rfl⟩ nN p_ slot_tuple_add entry_tuple_add (args_tuple_add_2 _ _) (tuple_addW1 t b vs.toArray ws.toArray n l dd c sl f (by simpa using j) (by simp[i])) ⟨ho,a,h1 i⟩
 .refine nh ⟨_,ho,rfl⟩ ⟨_,a,rfl⟩ nN p_ slot_tuple_add entry_tuple_add (args_tuple_add_2 _ _) (tuple_addW2 t b vs.toArray ws.toArray n l dd c sl f (by simpa using j) (by simpa using i) (by rw[cE,cE];exact hsz)) ⟨ho,a,?_⟩;rw[e];exact o i
noncomputable def dW(n d:Nat):Option Int->Nat|none=>d|some v=>if v<0 then(v+(n:Int)).toNat else min v.toNat n
theorem W3(n d:Nat)(hd:d<=n)(o:Option Int):dW n d o<=n:=by cases o with|none=>exact hd|some v=>
   show(if v<0 then(v+(n:Int)).toNat else min v.toNat n)<=n;by_cases a:v<0;.rw[if_pos a];omega
   .rw[if_neg a];exact Nat.min_le_right _ _
theorem Ex(v:Int)(n d:Nat):(if v<0 then max (v+(n:Int)) 0 else min v (n:Int))=((dW n d (a7 v):Nat):Int):=by
 show(if v<0 then max (v+(n:Int)) 0 else min v (n:Int))=(((if v<0 then(v+(n:Int)).toNat else min v.toNat n):Nat):Int);by_cases a:v<0;.simp only[if_pos a];omega
 .simp only[if_neg a];omega
theorem Cj(lo hi:Option Int)(n:Nat):rq lo hi 1 (n:Int)=(((dW n 0 lo:Nat):Int),((dW n n hi:Nat):Int)):=by
 have h1:¬((1:Int)<0):=by omega
 unfold rq;simp only[h1,if_false];refine Prod.ext ?_ ?_;.cases lo with|none=>rfl|some v=>exact Ex v n 0
 .cases hi with|none=>rfl|some v=>exact Ex v n n
theorem Bo(i j:Nat):n8 (i:Int) (j:Int) 1=j-i:=by
 unfold n8;have h1:(1:Int)>0:=by omega
 simp only[h1,if_true,Int.ediv_one];split<;>omega
theorem tZ{v:bx}{o:Option Int}{Q:Option Int->b_->Prop}(p:ma v o)(h:Q o s):cz (cK prog w) A (Builtin.Slice.slicePartIndex v) Q E s:=by cases p with|none=>exact slicePart_none h|int i t=>exact slicePart_int h
theorem jg{sl:ce}{c e:bx}{lo hi:Option Int}{n:Nat}{Q:Int×Int×Nat->b_->Prop}(hs:s.heap.IsSliceOf sl c e .none)(f:ma c lo)(g:ma e hi)(h:Q (((dW n 0 lo:Nat):Int),1,dW n n hi-dW n 0 lo) s):cz (cK prog w) A (sliceApplied (.ref sl) (eS (n:Int))) Q E s:=by obtain⟨os,a,i,b⟩:=id hs;unfold sliceApplied Builtin.Slice.sliceFields;refine bd (bd (eL a b (x:=c) rfl (bd (eL a b (x:=e) rfl (bd (eL a b (x:=.none) rfl (cx ?_)))))));refine bd (slicePart_none ?_);show cz _ _ (if((1:Int)==0)=bT then _ else _) _ _ s;rw[if_neg (by decide)];refine bd (tZ f (bd (tZ g (bd (cx ?_)))));show cz _ _ (match rq lo hi 1 (n:Int)with|(lo,hi)=>eS (lo,(1:Int),n8 lo hi 1)) _ _ s;rw[Cj lo hi n];show cz _ _ (eS (((dW n 0 lo:Nat):Int),(1:Int),n8 ((dW n 0 lo:Nat):Int) ((dW n n hi:Nat):Int) 1)) _ _ s;rw[Bo];exact cx h
theorem K9(xs:Array bx)(i k:Nat):((dL k).filterMap λ(m:Nat)=>xs[((i:Int)+(m:Int)*1).toNat]?).toArray=((xs.toList.drop i).take k).toArray:=by
 have e:(λ(m:Nat)=>xs[((i:Int)+(m:Int)*1).toNat]?)=λm=>xs[i+m]?:=by
  funext m;have:((i:Int)+(m:Int)*1).toNat=i+m:=by omega
  rw[this]
 rw[e];have:=pick_run xs i k;rw[List.filterMap_map]at this;have a:((λx=>xs[x]?)∘ λx=>i+x)=λm=>xs[i+m]?:=rfl;rw[a]at this;rw[this]
theorem nM{t sl:ce}{items:Array bx}{g i:bx}{lo hi:Option Int}{Q:bx->b_->Prop}(ht:qo s.heap t items)(hs:s.heap.IsSliceOf sl g i .none)(j:ma g lo)(k:ma i hi)(l:¬(dW items.size 0 lo=0/\dW items.size items.size hi=items.size))(h:Q (.ref s.heap.objs.size) {s with heap:=s.heap.push {cls:=.type "tuple",data:=.seq ((items.toList.drop (dW items.size 0 lo)).take (dW items.size items.size hi-dW items.size 0 lo)).toArray}})(hsz:items.size<=sizeLine):cz (cK prog w) A (ke (.ref t) (.ref sl)) Q E s:=by
 have a:sizeOk (.seq ((items.toList.drop (dW items.size 0 lo)).take (dW items.size items.size hi-dW items.size 0 lo)).toArray):=by show((items.toList.drop (dW items.size 0 lo)).take (dW items.size items.size hi-dW items.size 0 lo)).toArray.size<=sizeLine;rw[cE,ky,mu,jd];omega
 have o:dW items.size items.size hi<=items.size:=W3 _ _ (dU) hi;obtain⟨os,b,c,n⟩:=id hs;have e:s.TypeIs (.ref sl) "slice":=⟨os,b,c⟩;unfold ke;try with_reducible refine gd ?_
 first|refine bd (cx ?_)|skip
 refine bd (wpAny_sequenceKey ht.typeIs (by decide) ?_);refine bd (fx (name:=iK "__getitem__") ht.typeIs ih (gS ih ht.typeIs entry_tuple_getitem ?_ (args_tuple_getitem _ _)));show cz _ _ (tupleItemsOf (.ref t)>>=_) _ _ s;refine bd (tupleItemsOf_ ht ?_);refine bd (k9 e ?_);rw[if_pos (by decide)];refine bd (jg hs j k ?_);have f:¬((((dW items.size 0 lo:Nat):Int)==0&&(1:Int)==1&&(dW items.size items.size hi-dW items.size 0 lo)==items.size)=bT):=by intro q;rw[fk,fk]at q;have p:((dW items.size 0 lo:Nat):Int)=0:=eq_of_beq q.1.1;have r:dW items.size items.size hi-dW items.size 0 lo=items.size:=eq_of_beq q.2;exact l ⟨by omega,by omega⟩
 show cz _ _ (if(((dW items.size 0 lo:Nat):Int)==0&&(1:Int)==1&&(dW items.size items.size hi-dW items.size 0 lo)==items.size)=bT then _ else _) _ _ s;rw[if_neg f,K9];first|exact bd (m:=i9 _) (et (cx ⟨_,rfl,cx h⟩) a)|exact bd (m:=i9 _) (et (bd (cx (cx ⟨_,rfl,cx h⟩))) a)|exact bd (bd (m:=i9 _) (et (cx (cx ⟨_,rfl,cx h⟩)) a))|exact bd (bd (m:=i9 _) (et (cx ⟨_,rfl,cx h⟩) a))
end
end _U
namespace _L
open PySem Spec PyProof.Rows
variable{n:Nat}
noncomputable abbrev TO:=St->Hp->(Option Int->Hp->Prop)->Prop
noncomputable def PO(X:Cx)(e:Option dc)(t:TO):Prop:=∀(a:List (ce × Obj))(s:b_)(σ:St)(H:Hp)(Q:Option Int->Hp->Prop),Inv X a σ H s->t σ H Q->cz (cK X.prog X.w) X.A (evalPart e X.env) (λu c=>∃o b,Inv X a σ b c/\ma u o/\Q o b) X.xe s
noncomputable def Ox:TO:=λ_ H Q=>Q none H
noncomputable def aad(t:TE):TO:=λσ H Q=>t σ H λx a=>∃i,x=.int i/\Q (a7 i) a
section
variable{X:Cx}{e:dc}{te:TE}{lo hi:Option dc}{tl th:TO}{pos p2:Pos}
theorem QW:PO X none Ox:=by intro a s σ H Q I h;rw[evalPart_none];exact cx ⟨none,H,I,.none,h⟩
theorem Rq(h:PE X e te):PO X (a7 e) (aad te):=by intro a s σ H Q I b;rw[evalPart_some];refine cC (h a s σ H _ I b) λu s1⟨x,H1,I1,r1,q1⟩=>?_;obtain⟨i,rfl,q⟩:=q1;obtain⟨t,rfl⟩:=r1;exact⟨a7 i,H1,I1,.int i t,q⟩
noncomputable def SlR(X:Cx)(r:V->Option Int->Option Int->Hp->VK->Prop):Prop:=∀(a:List (ce × Obj))(s:b_)(σ:St)(H:Hp)(x:V)(v b c:bx)(lo hi:Option Int)(sl:ce)(Q:VK),Inv X a σ H s->RelV x v->s.heap.IsSliceOf sl b c .none->ma b lo->ma c hi->r x lo hi H Q->∃T id,oC (.type T) "__getitem__"=eS (a7 (.builtin id))/\s.TypeIs v T/\cz (cK X.prog X.w) X.A (ke v (.ref sl)) (EP X a σ Q) X.xe s
noncomputable def tSl(r:V->Option Int->Option Int->Hp->VK->Prop)(te:TE)(tl th:TO):TE:=λσ H Q=>te σ H λx a=>tl σ a λl b=>th σ b λu c=>r x l u c Q
theorem zc{r:V->Option Int->Option Int->Hp->VK->Prop}(hr:SlR X r)(he:PE X e te)(g:PO X lo tl)(i:PO X hi th):PE X (.Subscript e (.Slice lo hi none p2) pos) (tSl r te tl th):=by intro a s σ H Q I h;refine Subscript_ (cC (he a s σ H _ I h) λv s1⟨x,H1,I1,r1,q1⟩=>?_);refine wpAny_Slice (cC (g a s1 σ H1 _ I1 q1) λc s2⟨l,H2,I2,pl,q2⟩=>cC (i a s2 σ H2 _ I2 q2) λf s3⟨u,H3,I3,pu,q3⟩=>?_);rw[evalPart_none];refine cx ?_;have j:Inv X a σ H3 {s3 with heap:=s3.heap.push {cls:=.type "slice",data:=.fields #[c,f,.none]}}:=I3.kept (t':=s3.toks) λb o q=>eG q;obtain⟨T,id,k,ht,m⟩:=hr a {s3 with heap:=s3.heap.push {cls:=.type "slice",data:=.fields #[c,f,.none]}} σ H3 x v c f l u s3.heap.objs.size Q j r1 (Heap.IsSliceOf.new ..) pl pu q3;show cz (cK X.prog X.w) X.A (p9 e (.Slice lo hi none p2) v (.ref s3.heap.objs.size)) (EP X a σ Q) X.xe {s3 with heap:=s3.heap.push {cls:=.type "slice",data:=.fields #[c,f,.none]}};exact tail_any (ops:=[.ref s3.heap.objs.size,v]) ht k m (by with_unfolding_all rfl)
noncomputable def zg(xs:List V)(lo hi:Option Int):List V:=(xs.drop (_U.dW xs.length 0 lo)).take (_U.dW xs.length xs.length hi-_U.dW xs.length 0 lo)
theorem qg(xs:List V)(lo hi:Option Int):(zg xs lo hi).length<=xs.length:=by unfold zg;rw[ky,mu];omega
noncomputable def aeR(K:PySem.W.Frag):V->Option Int->Option Int->Hp->VK->Prop:=λx lo hi H Q=>∃a xs,x=.ref a/\mq K H a xs/\¬(_U.dW xs.length 0 lo=0/\_U.dW xs.length xs.length hi=xs.length)/\∀p,H p=none->Q (.ref p) (upd H p (.tup (zg xs lo hi)))
theorem U5:SlR X (aeR X.K):=by
 intro g s σ H x v p t lo hi sl Q I i hs j k h;obtain⟨a,xs,rfl,l,m,q⟩:=h;cases i;obtain⟨f,r,ht,hz⟩:=I.tuple l;have c:f.toArray.size=xs.length:=by rw[cE];exact r.length.symm
 refine⟨"tuple",_,ih.lookup,ht.typeIs,?_⟩;refine _U.nM ht hs j k (by rw[c];exact m) ?_ (by rw[c];exact hz);rw[c];refine⟨.ref s.heap.objs.size,_,I.laid (t':=s.toks) (o:=.tup (zg xs lo hi)) (λb u q=>eG q) (dU) ?_,rfl,q _ (I.hok.fresh (dU))⟩;exact⟨fR (qg xs lo hi) hz,_,(r.drop (_U.dW xs.length 0 lo)).take (_U.dW xs.length xs.length hi-_U.dW xs.length 0 lo),k6 _ _⟩
noncomputable def abS(K:PySem.W.Frag):R2:=λx y H Q=>∃a b xs ys,x=.ref a/\y=.ref b/\mq K H a xs/\mq K H b ys/\xs≠[]/\xs.length+ys.length<=sizeLine/\(ys=[]->Q (.ref a) H)/\(ys≠[]->∀p,H p=none->Q (.ref p) (upd H p (.tup (xs++ys))))
theorem Vals.rH{xs:List V}{a:List bx}(r:Vals xs a):a=[]↔xs=[]:=by cases r with|nil=>simp|cons _ _=>simp
theorem Rm:jw X (fo .Add) (abS X.K):=by intro f s σ H x y v u Q I i j h;obtain⟨a,b,xs,ys,rfl,rfl,k,l,m,hz,p,r⟩:=h;cases i;cases j;obtain⟨t,r1,p1,_⟩:=I.tuple k;obtain⟨g,c,p2,_⟩:=I.tuple l;refine _U.QK p1 p2 (λz=>m (r1.rH.mp z)) (λz=>⟨.ref a,H,I,rfl,p (c.rH.mp z)⟩) (λz=>?_) (by rw[<-r1.length,<-c.length];exact hz);refine⟨.ref s.heap.objs.size,_,I.laid (t':=s.toks) (o:=.tup (xs++ys)) (λb A q=>eG q) (dU) ?_,rfl,r (λw=>z (c.rH.mpr w)) _ (I.hok.fresh (dU))⟩;exact⟨by rw[ei];exact hz,_,r1.append c,k6 _ _⟩
end
noncomputable def jm(n:Nat)(i:Int):Option Nat:=if 0<=i then(if i<n then a7 i.toNat else none)else if-(n:Int)<=i then a7 (i+n).toNat else none
noncomputable def Ji{a:Type}(xs:List a)(i:Int):Option a:=(jm xs.length i).bind λj=>xs[j]?
theorem FZ{i:Int}{j:Nat}(h:jm n i=a7 j):seqIndex? i n=a7 j/\j<n/\-(n:Int)<=i/\i<n:=by
 unfold jm at h;by_cases h0:0<=i
 . rw[if_pos h0]at h;by_cases h1:i<n;.rw[if_pos h1]at h;have e:i.toNat=j:=ez h;exact⟨by rw[n9 h0 h1,e],by omega,by omega,h1⟩
   .rw[if_neg h1]at h;cases h
 . rw[if_neg h0]at h;by_cases h1:-(n:Int)<=i;.rw[if_pos h1]at h;have e:(i+n).toNat=j:=ez h;exact⟨by rw[mS (by omega) h1,e],by omega,h1,by omega⟩
   .rw[if_neg h1]at h;cases h
theorem xG{a:Type}{xs:List a}{i:Int}{v:a}(h:Ji xs i=a7 v):∃j,seqIndex? i xs.length=a7 j/\xs[j]?=a7 v/\j<xs.length/\-(xs.length:Int)<=i/\i<xs.length:=by unfold Ji at h;cases e:jm xs.length i with|none=>rw[e]at h;cases h|some j=>rw[e]at h;obtain⟨h1,b,c,f⟩:=FZ e;exact⟨j,h1,h,b,c,f⟩
noncomputable def wX(b:dc):Prop:=∀o i,n7 b a_ o i=operate [o,i] (ke o i)
noncomputable def IxR(X:Cx)(r:R2):Prop:=∀(b slice:dc)(a:List (ce × Obj))(s:b_)(σ:St)(H:Hp)(x y:V)(v u:bx)(Q:VK),Inv X a σ H s->RelV x v->RelV y u->r x y H Q->n7 slice a_ v u=operate [v,u] (ke v u)->cz (cK X.prog X.w) X.A (p9 b slice v u) (EP X a σ Q) X.xe s
noncomputable def MtR(X:Cx)(id:String)(r:V->List V->Hp->VK->Prop):Prop:=∀(a:List (ce × Obj))(s:b_)(σ:St)(H:Hp)(x:V)(xs:List V)(v:bx)(b:List bx)(Q:VK),Inv X a σ H s->RelV x v->Vals xs b->r x xs H Q->cz (cK X.prog X.w) X.A (call (.builtin id) (v::b)) (EP X a σ Q) X.xe s
section
variable{X:Cx}{a b:dc}{ta tb:TE}{pos:Pos}
theorem Th{r:R2}(hr:IxR X r)(e:PE X a ta)(f:PE X b tb)(hs:wX b):PE X (.Subscript a b pos) (Xg r ta tb):=by intro c s σ H Q I h;exact Subscript_ (Vp e f I h λv u s2 x y g i j k q=>hr a b c s2 σ g x y v u Q i j k q (hs _ _))
noncomputable def Z3(K:PySem.W.Frag):R2:=λx y H Q=>∃p xs i v,x=.ref p/\y=.int i/\gF K H p xs/\Ji xs i=a7 v/\Q v H
noncomputable def agi(K:PySem.W.Frag):R2:=λx y H Q=>∃p xs i v,x=.ref p/\y=.int i/\mq K H p xs/\Ji xs i=a7 v/\Q v H
theorem Gn:IxR X (Z3 X.K):=by
 intro e slice c s σ H x y v u Q I m o h hs;obtain⟨p,xs,i,z,rfl,rfl,A,he,q⟩:=h;cases m;obtain⟨t,rfl⟩:=o;obtain⟨f,r,g,hz⟩:=I.list A;obtain⟨j,h1,B,M,C,E⟩:=xG he;obtain⟨w,l,G⟩:=r.get B;have J:=r.length;have N:=sG;have fin:EP X c σ Q w s:=⟨z,H,I,G,q⟩;by_cases h0:0<=i
 . have k:i.toNat=j:=by rw[n9 h0 E]at h1;exact ez h1
   exact item_listR g.isList h0 (by omega) (by rw[k];simpa using l) fin hs
 . have k:(i+(f.toArray.size:Int)).toNat=j:=by rw[mS (by omega) C]at h1;rw[cE,<-J];exact ez h1
   exact qB (x:=w) g.isList.typeIs slot_list_getitem.lookup (qz (Q:=λr L=>r=w/\EP X c σ Q r L) g.isList (by omega) (by rw[cE]<;>omega) (by omega) (by rw[k];simpa using l) ⟨rfl,fin⟩) hs
theorem Wl:IxR X (agi X.K):=by intro e slice c s σ H x y v u Q I g k h hs;obtain⟨p,xs,i,z,rfl,rfl,l,he,q⟩:=h;cases g;obtain⟨t,rfl⟩:=k;obtain⟨m,r,f,hz⟩:=I.tuple l;obtain⟨j,h1,o,G,J,L⟩:=xG he;obtain⟨w,A,B⟩:=r.get o;have C:=r.length;have M:=sG;have fin:EP X c σ Q w s:=⟨z,H,I,B,q⟩;exact qB (x:=w) f.typeIs slot_tuple_getitem.lookup (getItem_tuple (j:=j) (Q:=λr E=>r=w/\EP X c σ Q r E) f (by omega) (by omega) (by rw[cE,<-C];exact h1) (by simpa using A) ⟨rfl,fin⟩) hs
theorem Cg(c:List bx)(n j:Nat)(u:bx):gc (·.setIfInBounds j u) {cls:=.type "list",data:=.seq c.toArray n}={cls:=.type "list",data:=.seq (c.set j u).toArray n}:=by simp[gc]
theorem Inv.lst{f:List (ce×Obj)}{σ:St}{H:Hp}{s:b_}{p:ce}{xs:List V}(I:Inv X f σ H s)(h:H p=a7 (.lst xs)):∃(c:List bx)(n:Nat),Vals xs c/\s.heap.get? p=a7 {cls:=.type "list",data:=.seq c.toArray n}/\xs.length<=sizeLine:=by obtain⟨z,c,n,r,e⟩:=I.hok p _ h;exact⟨c,n,r,e,z⟩
theorem Inv.Xn{c:List (ce×Obj)}{σ:St}{H:Hp}{s:b_}{p:ce}{xs ys:List V}{g its':List bx}{n i:Nat}{f:Obj->Obj}(I:Inv X c σ H s)(h:H p=a7 (.lst xs))(ho:s.heap.get? p=a7 {cls:=.type "list",data:=.seq g.toArray n})(j:f {cls:=.type "list",data:=.seq g.toArray n}={cls:=.type "list",data:=.seq its'.toArray i})(r:Vals ys its')(hz:ys.length<=sizeLine)(t:Nat):Inv X c σ (upd H p (.lst ys)) {s with heap:=s.heap.update p f,toks:=t}:=by
 have e:(s.heap.update p f).get? p=a7 {cls:=.type "list",data:=.seq its'.toArray i}:=by rw[ii f ho (by rw[j]<;>rfl),j]
 refine I.write (x:=p) (e:=p) (by rw[h];trivial) (.inl rfl) (λb u k q=>(ea _ _ (fN k)).trans q) ⟨_,e⟩ ?_;exact⟨hz,its',i,r,e⟩
noncomputable def aa3:V->V->V->Hp->(Hp->Prop)->Prop:=λo i v H Q=>∃p xs k j,o=.ref p/\i=.int k/\H p=a7 (.lst xs)/\jm xs.length k=a7 j/\Q (upd H p (.lst (xs.set j v)))
theorem set_list:UG X aa3:=by
 intro c s σ H o i v ov iv u Q I y z A h;obtain⟨p,xs,k,j,rfl,rfl,l,B,q⟩:=h;cases y;obtain⟨t,rfl⟩:=z;obtain⟨e,n,r,ho,hz⟩:=I.lst l;obtain⟨h1,C,m,w⟩:=FZ B;have f:=r.length;have E:=sG;have x:Inv X c σ (upd H p (.lst (xs.set j v))) {s with heap:=s.heap.update p (gc (·.setIfInBounds j u))}:=I.Xn l ho (Cg e n j u) (r.set A j) (by rw[oU];exact hz) s.toks;by_cases h0:0<=k
 . have g:k.toNat=j:=by rw[n9 h0 w]at h1;exact ez h1
   exact PySem.W.ki_setAt ho h0 (by omega) (by rw[cE,<-f];exact w) (by rw[g];exact⟨_,x,q⟩)
 . have g:(k+(e.toArray.size:Int)).toNat=j:=by rw[mS (by omega) m]at h1;rw[cE,<-f];exact ez h1
   exact PySem.W.ki_setBack ho (by omega) (by rw[cE,<-f];exact m) (by omega) (by rw[g];exact⟨_,x,q⟩)
theorem yx(lo hi:Option Int)(n:Nat):(jn lo hi none n).1=((_U.dW n 0 lo:Nat):Int)/\(jn lo hi none n).2.1=((_U.dW n n hi:Nat):Int)/\(jn lo hi none n).2.2=1:=by
 refine⟨?_,?_,rfl⟩;.cases lo with|none=>simp[jn,_U.dW]|some i=>
     simp only[jn,_U.dW,getD_none,show(1:Int)>0 by decide,if_true];by_cases h:i<0;.simp only[h,if_true]<;>omega
     .simp only[h,if_false]<;>omega
 .cases hi with|none=>simp[jn,_U.dW]|some i=>
     simp only[jn,_U.dW,getD_none,show(1:Int)>0 by decide,if_true];by_cases h:i<0;.simp only[h,if_true]<;>omega
     .simp only[h,if_false]<;>omega
theorem uV(c:List bx)(lo hi:Option Int):slicePick c.toArray lo hi none=((c.drop (_U.dW c.length 0 lo)).take (_U.dW c.length c.length hi-_U.dW c.length 0 lo)).toArray:=by obtain⟨h1,e,f⟩:=yx lo hi c.toArray.size;unfold slicePick;rw[h1,e,f];simp only[sliceRange_one,pick_run,cE]<;>rfl
noncomputable def aeE(K:PySem.W.Frag):V->Option Int->Option Int->Hp->VK->Prop:=λx lo hi H Q=>∃a xs,x=.ref a/\gF K H a xs/\∀p,H p=none->Q (.ref p) (upd H p (.lst (zg xs lo hi)))
theorem PQ:SlR X (aeE X.K):=by intro e s σ H x v l m lo hi sl Q I f hs g i h;obtain⟨a,xs,rfl,j,q⟩:=h;cases f;obtain⟨k,r,ht,hz⟩:=I.list j;have c:=r.length;refine⟨"list",_,slot_list_getitem.lookup,ht.isList.typeIs,?_⟩;refine wpAny_getItem_list_slice ht.isList hs g i .none (by simp) ?_ (by rw[cE]<;>omega);rw[uV,<-c];refine⟨.ref s.heap.objs.size,_,I.laid (t':=s.toks) (o:=.lst (zg xs lo hi)) (λb p q=>eG q) (dU) ?_,rfl,q _ (I.hok.fresh (dU))⟩;exact⟨fR (qg xs lo hi) hz,_,0,(r.drop (_U.dW xs.length 0 lo)).take (_U.dW xs.length xs.length hi-_U.dW xs.length 0 lo),cy _ rfl⟩
theorem wH:dY X (.builtin "len") (λxs H Q=>∃p ys,xs=[.ref p]/\(gF X.K H p ys\/mq X.K H p ys)/\Q (.int ys.length) H):=by
 intro i s σ H xs k Q I r h;obtain⟨p,ys,rfl,hq,q⟩:=h;obtain⟨u,rfl,j⟩:=vals1 r;cases j;have l:=sG;rcases hq with hq|hq;.obtain⟨e,f,g,hz⟩:=I.list hq;have c:=f.length;exact Calls.call_len_list g.isList (by simp only[cE]<;>omega) ⟨.int ys.length,H,I.tok _,⟨s.toks+1,by rw[cE,c]⟩,q⟩
 .obtain⟨e,f,g,hz⟩:=I.tuple hq;have c:=f.length;exact len_tuple g (by simp only[cE]<;>omega) ⟨.int ys.length,H,I.tok _,⟨s.toks+1,by rw[cE,c]⟩,q⟩
theorem yt:dY X (.type "list") (λxs H Q=>∃p ys,xs=[.ref p]/\(gF X.K H p ys\/mq X.K H p ys)/\∀l,H l=none->Q (.ref l) (upd H l (.lst ys))):=by
 intro i s σ H xs v Q I r h;obtain⟨p,ys,rfl,hq,q⟩:=h;obtain⟨u,rfl,t⟩:=vals1 r;cases t;have fin:∀(c:List bx),Vals ys c->ys.length<=sizeLine->∀(h':ej)(f:Nat),(∀b m,s.heap.get? b=a7 m->h'.get? b=a7 m)->h'.get? s.heap.objs.size=a7 {cls:=.type "list",dict:=none,data:=.seq c.toArray f,slots:=#[]}->EP X i σ Q (.ref s.heap.objs.size) {s with heap:=h'}:=λc g hz h' f kp e=>⟨.ref s.heap.objs.size,_,I.laid (t':=s.toks) kp (dU) (show bA X.prog X.w _ h' _ (.lst ys)from⟨hz,c,f,g,e⟩),rfl,q _ (I.hok.fresh (dU))⟩;rcases hq with hq|hq;.obtain⟨c,g,k,hz⟩:=I.list hq;have j:=g.length;obtain⟨o,ho,hc,n,hd⟩:=k.isList;exact call_list_seq p (.inl rfl) ho hc hd (λh' f kp e=>fin c g hz h' f kp e) (by simp only[cE]<;>omega)
 .obtain⟨c,g,k,hz⟩:=I.tuple hq;have j:=g.length;obtain⟨o,ho,hc,n,hd⟩:=k;exact call_list_seq p (.inr rfl) ho hc hd (λh' f kp e=>fin c g hz h' f kp e) (by simp only[cE]<;>omega)
theorem mD:dY X (.type "tuple") (λxs H Q=>∃p ys,xs=[.ref p]/\((gF X.K H p ys/\∀l,H l=none->Q (.ref l) (upd H l (.tup ys)))\/(mq X.K H p ys/\Q (.ref p) H))):=by
 intro c s σ H xs x Q I r h;obtain⟨p,ys,rfl,h⟩:=h;obtain⟨u,rfl,t⟩:=vals1 r;cases t;rcases h with⟨g,q⟩|⟨g,q⟩;.obtain⟨f,i,j,hz⟩:=I.list g;have k:=i.length;refine call_tuple_list j.isList (λh' kp=>?_) (by simp only[cE]<;>omega);have m:Inv X c σ H {s with heap:=h'}:=I.kept (t':=s.toks) kp;have v:Inv X c σ (upd H h'.objs.size (.tup ys)) {s with heap:=h'.push {cls:=.type "tuple",data:=.seq f.toArray}}:=m.laid (t':=s.toks) (λb o e=>eG e) (dU) (show bA X.prog X.w _ _ _ (.tup ys)from⟨hz,f,i,k6 _ _⟩);exact⟨.ref h'.objs.size,_,v,rfl,q _ (m.hok.fresh (dU))⟩
 .obtain⟨f,i,j,hz⟩:=I.tuple g;exact call_tuple_same j ⟨.ref p,H,I,rfl,q⟩
noncomputable def tyV(K:PySem.W.Frag)(T:String)(x:V)(H:Hp):Prop:=match x with|.str _=>T="str"|.int _=>T="int"|.ref p=>(T="list"/\∃xs,gF K H p xs)\/(T="tuple"/\∃o,K.lookup p=a7 o/\o.cls=.type "tuple"/\o.dict=none)\/(T="dict"/\((∃kvs,H p=a7 (.dK kvs))\/∃kvs,H p=a7 (.dT kvs)))\/(T="set"/\∃S n,H p=a7 (.set S n))|_=>False
theorem Xv{g:List (ce×Obj)}{σ:St}{H:Hp}{s:b_}{T:String}{x:V}{v:bx}(I:Inv X g σ H s)(r:RelV x v)(ty:tyV X.K T x H):
 s.TypeIs v T/\∀a,v=.ref a->∃j,s.heap.get? a=a7 j/\j.dict=none:=by cases x with|str z=>obtain⟨t,rfl⟩:=r;cases(show T="str"from ty);exact⟨typeIs_str s z t,λ_ e=>nomatch e⟩|int i=>obtain⟨t,rfl⟩:=r;cases(show T="int"from ty);exact⟨mw s i t,λ_ e=>nomatch e⟩|ref p=>
   cases r;rcases ty with⟨rfl,xs,l⟩|⟨rfl,o,f,hc,hd⟩|⟨rfl,f⟩|⟨rfl,S,n,f⟩;.obtain⟨m,_,k,_⟩:=I.list l;refine⟨k.isList.typeIs,λa e=>?_⟩;cases e;obtain⟨o,n,e,c,hd,_⟩:=k;exact⟨o,e,hd⟩
   .refine⟨⟨o,I.O4 p o f,hc⟩,λa e=>?_⟩;cases e;exact⟨o,I.O4 _ o f,hd⟩
   . have z:∃o,s.heap.get? p=a7 o/\o.ExactDict:=by
      rcases f with⟨kvs,f⟩|⟨kvs,f⟩;.obtain⟨_,_,_,_,o,_,_,e,ex,_⟩:=I.hok p _ f;exact⟨o,e,ex⟩
      .obtain⟨_,_,_,_,o,_,_,e,ex,_⟩:=I.hok p _ f;exact⟨o,e,ex⟩
     obtain⟨o,e,ex⟩:=z;refine⟨⟨o,e,ex.1⟩,λa h=>?_⟩;cases h;exact⟨o,e,ex.2.1⟩
   .obtain⟨o,_,_,_,e,ex,_⟩:=I.hok p _ f;refine⟨⟨o,e,ex.1⟩,λa h=>?_⟩;cases h;exact⟨o,e,ex.2.1⟩|_=>exact fe ty
noncomputable def tBM(K:PySem.W.Frag)(T:String)(r:V->List V->Hp->VK->Prop)(to:TE)(t:TA):TE:=λσ H Q=>to σ H λx c=>tyV K T x c/\t σ c λxs e=>r x xs e Q
variable{o e:dc}{es:List dc}{to:TE}{t:TA}{name:Str}{apos cpos:Pos}{T id:String}{r:V->List V->Hp->VK->Prop}
theorem KQ(m:PlainAttrs T)(slot:Slot T name id)(k:typeOf (.builtin id)=eS (.type "method_descriptor"))(p:MtR X id r)(ho:PE X o to)(q:PA X (e::es) t)(g:iA o name X.env (er o X.env)=er o X.env:=by rfl)(j:((gI cpos (cv (e::es) X.env)).all (λx=>!x.1)&&(o3 cpos (l6 [] X.env)).all (λx=>x.1.isSome)&&decide ((e::es).length+([]:List kC).length+(if([]:List kC).isEmpty then 0 else 1)<30))=bT:=by rfl)(i:(apos.endLine==cpos.line)=bT:=by rfl)(hs:cv (e::es) X.env=(a_,er e X.env)::cv es X.env:=by rfl)(f:(gI cpos (cv es X.env)).any (·.1)=a_:=by rfl):PE X (.Call (.Attribute o name apos) (e::es) [] cpos) (tBM X.K T r to t):=by intro c s σ H Q I h;refine wpAny_Call_method_late g j i rfl (cC (ho c s σ H _ I h) λv s1⟨x,H1,I1,r1,ty,q1⟩=>?_);obtain⟨h1,u⟩:=Xv I1 r1 ty;refine⟨T,id,m,slot,k,h1,u,?_⟩;have l:=q cpos c s1 σ H1 _ I1 q1;rw[hs]at l ⊢;refine kx (by show(a_||(gI cpos (cv es X.env)).any (·.1))=a_;rw[f]<;>rfl) (kU ?_);exact cC l λw s2⟨vs,H2,I2,r2,q2⟩=>p c s2 σ H2 x vs v w Q I2 r1 r2 q2
end
noncomputable def MtM(X:Cx)(id:String)(r:V->List V->Hp->VK->Prop):Prop:=∀(a:List (ce × Obj))(s:b_)(σ:St)(H:Hp)(x:V)(xs:List V)(v:bx)(b:List bx)(Q:VK),Inv X a σ H s->RelV x v->Vals xs b->r x xs H Q->cz (cK X.prog X.w) X.A (call (.builtin id) (v::b)) (EP X a σ Q) X.xe s
theorem Vals.one:∀{x:V}{a:List bx},Vals [x] a->∃u,a=[u]/\RelV x u|x,a,h=>by cases h with|cons r t=>cases t;exact⟨_,rfl,r⟩
theorem Vals.two:∀{x y:V}{a:List bx},Vals [x,y] a->∃u v,a=[u,v]/\RelV x u/\RelV y v|x,y,a,h=>by cases h with|cons r t=>cases t with|cons q z=>cases z;exact⟨_,_,rfl,r,q⟩
theorem Vals.zero:∀{a:List bx},Vals [] a->a=[]|_,.nil=>rfl
theorem Vals.reverse{xs:List V}{a:List bx}(h:Vals xs a):Vals xs.reverse a.reverse:=by induction h with|nil=>exact .nil|cons r t b=>rw[mT,mT];exact Vals.append b (.cons r .nil)
theorem Vals.rep{xs:List V}{a:List bx}(h:Vals xs a):∀k:Nat,Vals (cp k xs).flatten (cp k a).flatten|0=>.nil|k+1=>by rw[fj,fj,lf,lf];exact Vals.append h (Vals.rep h k)
theorem foldl_rep(a:List bx):∀(k:Nat)(b:List bx),rS (λc f=>c++f) b.toArray (cp k a.toArray)=(b++(cp k a).flatten).toArray
 |0,b=>by simp|k+1,b=>by
   have e:b.toArray++a.toArray=(b++a).toArray:=by simp
   have g:(b++a)++(cp k a).flatten=b++(cp (k+1) a).flatten:=by rw[fj,lf,eF]
   rw[<-g,<-foldl_rep a k (b++a),<-e,fj,foldl_cons]
section
variable{X:Cx}{pins:List (ce×Obj)}{σ:St}{H:Hp}{s:b_}{l b:ce}{xs ys zs:List V}
theorem Inv.aa8{a its':List bx}{f:Array bx->Array bx}{t':Nat}(I:Inv X pins σ H s)(c:H l=a7 (.lst xs))(e:s.heap.get? l=a7 {cls:=.type "list",data:=.seq a.toArray n})(g:f a.toArray=its'.toArray)(h:Vals ys its')(hz:ys.length<=sizeLine):Inv X pins σ (upd H l (.lst ys)) {s with heap:=s.heap.update l (gc f),toks:=t'}:=by have q:=PySem.IsL.update e f;rw[g]at q;refine I.write (x:=l) (e:=l) (by rw[c];exact trivial) (.inl rfl) (λb' u i j=>(ea s.heap (gc f) (fN i)).trans j) ⟨_,q⟩ ?_;exact⟨hz,its',_,h,q⟩
theorem Inv.Xz{a:List bx}{t':Nat}(I:Inv X pins σ H s)(c:Vals ys a)(hz:ys.length<=sizeLine):Inv X pins σ (upd H s.heap.objs.size (.lst ys)) {s with heap:=s.heap.push {cls:=.type "list",data:=.seq a.toArray},toks:=t'}:=I.laid (λ_ _ q=>eG q) (dU) ⟨hz,a,0,c,cy _ rfl⟩
theorem Inv.fresh(I:Inv X pins σ H s):H s.heap.objs.size=none:=I.hok.fresh (dU)
theorem Inv.Ws(I:Inv X pins σ H s)(c:H l=a7 (.lst xs)):xs.length<=sizeLine/\∃(a:List bx)(n:Nat),Vals xs a/\xs.length=a.length/\s.heap.get? l=a7 {cls:=.type "list",data:=.seq a.toArray n}:=by obtain⟨z,a,n,r,e⟩:=I.hok l _ c;exact⟨z,a,n,r,r.length,e⟩
theorem Ah(h:n<=sizeLine):n_ n=a_:=by unfold n_;exact decide_eq_false (by omega)
end
section
variable{X:Cx}
noncomputable def Q7:V->List V->Hp->VK->Prop:=λx vs H Q=>∃l xs y,x=.ref l/\vs=[y]/\H l=a7 (.lst xs)/\xs.length<sizeLine/\Q .non (upd H l (.lst (xs++[y])))
theorem pP:MtM X "list.append" Q7:=by intro b s σ H x vs v j Q I f g h;obtain⟨l,xs,y,rfl,rfl,c,hz,q⟩:=h;cases f;obtain⟨u,rfl,i⟩:=g.one;obtain⟨z,a,n,r,k,e⟩:=I.Ws c;refine lj F.slot_list_append ⟨_,e,rfl⟩ F.entry_list_append (F.args_list_append_2 _ _) (PySem.list_append l a.toArray n u (by rw[cE];omega)) ⟨e,?_⟩;refine⟨.non,_,I.aa8 (its':=a++[u]) c e (by simp) (r.append (.cons i .nil)) ?_,rfl,q⟩;rw[ei,kR];omega
noncomputable def Q8:V->List V->Hp->VK->Prop:=λx vs H Q=>∃l b xs a,x=.ref l/\vs=[.ref b]/\H l=a7 (.lst xs)/\H b=a7 (.lst a)/\xs.length+a.length<=sizeLine/\Q .non (upd H l (.lst (xs++a)))
theorem HD:MtM X "list.extend" Q8:=by
 intro g s σ H x vs v A Q I j k h;obtain⟨l,b,xs,B,rfl,rfl,i,m,hz,q⟩:=h;cases j;obtain⟨u,rfl,o⟩:=k.one;cases o;obtain⟨z,c,n,r,C,e⟩:=I.Ws i;obtain⟨E,a,p,t,w,y⟩:=I.Ws m;have hsz:c.toArray.size+a.toArray.size<=sizeLine:=by rw[cE,cE];omega
 have f:¬(!c.toArray.isEmpty&&n_ (c.toArray.size+a.toArray.size))=bT:=by rw[Ah hsz,jx];exact eh
 refine lj F.slot_list_extend ⟨_,e,rfl⟩ F.entry_list_extend (F.args_list_extend_2 _ _) (AutoSeq1.list_extend_list_list_0 l c.toArray n b a.toArray p f (by rw[cE];omega) (by omega)) ⟨e,y,?_⟩;refine⟨.non,_,I.aa8 (its':=c++a) i e (by simp) (r.append t) ?_,rfl,q⟩;rw[ei];omega
theorem len_rep{a:Type}(xs:List a)(k:Nat):(cp k xs).flatten.length=k*xs.length:=by induction k with|zero=>simp|succ k b=>rw[fj,lf,ei,b,Nat.succ_mul,Nat.add_comm]
end
end _L
namespace _A
open PySem W Calls PyProof.Rows
theorem qF{P:Params}{h:ej}:∀(ns:List Int)(vs:List bx),WellAll P h vs (ns.map WData.int)->gL vs ns:=by intro ns;induction ns with|nil=>intro vs w;rw[ow]at w;cases w;exact .nil|cons n ns c=>intro vs w;rw[de]at w;cases w with|cons a b=>cases a;exact .cons _ _ (c _ b)
theorem HB{l:OpenLaw}{n:Nat}(m:l.most=a7 n){P:Params}{h:ej}{args:List WData}{b:List bx}(c:l.row.toRowW.claim.pre args=bT)(j:WellAll P h b args):∃a vs ns,b=[dr a]/\args=[WData.list (ns.map WData.int)]/\h.get? a=a7 {cls:=.type "list",data:=.seq vs.toArray}/\gL vs ns/\ns.length<=n:=by
 have k:WShape.hasAll [] args [.list .int]=bT:=(pre_splitW c).1;have hc:l.pre.holds [] {args:=args}=bT:=(pre_splitW c).2;obtain⟨d,r,rfl,h1,o⟩:=hasAllW_cons k;obtain rfl:=hasAllW_nil o;obtain⟨xs,rfl,p⟩:=hasW_list h1;obtain⟨ns,rfl⟩:=items_int p;have e:ns.length<=n:=by
  unfold OpenLaw.pre at hc;have g:(WTm.not (.lt (.lit (.int (n:Int))) (.len (.arg 0)))).holds [] {args:=[.list (ns.map .int)]}=bT:=by have g:=(holds_andW hc).1;rw[m]at g;exact g
  have i:=condW_of g (w_not (w_lt w_lit (w_len_list (w_arg rfl))));rw[ef]at i;refine mB λq=>?_;have s:(n:Int)<((ns.length:Nat):Int):=by omega
  first|(rw[decide_eq_true s]at i;exact absurd i (by decide))|(simp at i;omega)
 cases j with|cons t u=>cases u;cases t with|list ho f=>exact⟨_,_,ns,rfl,rfl,ho,qF ns _ f,e⟩
theorem G8(l:OpenLaw)(args:List WData):l.row.toRowW.claim.post args (.bool bT) args=bT:=postW_of (r:=l.row.toRowW) (X:=(bT==bT)) (show WShape.has [] (.bool bT) .bool=bT by first|rfl|decide|simp[WShape.has,WShape.arms,WShape.armsAll]) (show(WTm.eq .res (.lit (.bool bT))).value [] {args:=args,res:=a7 (.bool bT),after:=args}=a7 (.bool (bT==bT))from w_eq_bool (w_res rfl) w_lit) rfl
theorem yO{l:OpenLaw}{n:Nat}{q:da}{c:List Str}{z:(Str->Option bx)->ej->Prop}{A:eg->ej->Prop}{d:DefRec}(H:l.most=a7 n)(s:d.params.defaults=[])(call:∀(w:eg)(s₀ b:b_)(mg t:Str->Option bx)(h:ce)(o:Obj)(u m e:bx)(a:ce)(vs:List bx)(ns:List Int),Ground q c [] z w s₀ mg t b.heap->A w b.heap->b.heap.get? h=a7 o->o.data=.func (docDef d.name d.params d.body d.scope u m e)->b.heap.CodeRec m d.name->mg d.name=a7 (.ref h)->b.heap.get? a=a7 {cls:=.type "list",data:=.seq vs.toArray}->gL vs ns->ns.length<=n->b.gens=#[]->li (cK l.prog w) mh (.call (.ref h) ⟨[.ref a],[]⟩) (λr p=>r=.ok (.ret (.bool bT))/\OldK b.heap p.heap/\p.os=b.os/\lm p.gens) b):WalkO q c z A l.row.toRowW d [] (λf vs=>PySem.call f vs):=by intro w s₀ b mg t G Y h o u m e I kV ho hd v B x J args C as i E L y M;obtain rfl:I=.none:=Dflts.none B s;obtain rfl:kV=.none:=Dflts.noKw B;obtain⟨a,vs,ns,rfl,rfl,j,g,k⟩:=HB H i y;refine enter_call (rc (call w s₀ b mg t h o u m e a vs ns G Y ho (fd_plain hd) v x j g k J) λr p N=>?_);obtain⟨rfl,O,Q,U⟩:=N;exact⟨.inl ⟨.bool bT,.bool bT,[],rfl,λ_=>rfl,.bool bT,G8 l _,λ_=>⟨List.Pairwise.nil,λ_ W=>(nomatch W)⟩⟩,O,Q,U⟩
end _A
namespace _L
open PySem Spec PyProof.Rows
theorem vI:∀{vs:List bx}{ns:List Int},gL vs ns->Vals (ns.map V.int) vs|_,_,.nil=>.nil|_,_,.cons n t h=>.cons ⟨t,rfl⟩ (vI h)
noncomputable def Only(H:Hp):Prop:=∀b,H b=none\/∃o xs,H b=a7 (.dD o (.lst xs))
theorem J2{P:da}{w:eg}{K:PySem.W.Frag}{mg G:Str->Option bx}{CX:Iv}{k:Nat}{I a:ce}{fd:gX}{x:Str}{sp:Sp}{c:b_}{vs:List bx}{ns:List Int}(O:K.In c.heap)(p:c.heap.Ns cN mg)(f:c.heap.Ns builtinsNs G)(J:∀x:Str,x≠"__name__"->G x=eP x)(t:c.heap.NoLimit)(hg:c.gens=#[])(E:c.heap.get? a=a7 {cls:=.type "list",data:=.seq vs.toArray})(hi:gL vs ns)(Q:ns.length<=sizeLine)(hr:jc k mh)(F:∀base:ej,K.In base->base.Ns cN mg->jq P w K mg base CX k I fd [x] sp)(l:∀(s:b_)(u:bx),oB s fd ⟨[u],[]⟩ [(x,u)])(hsp:∀H:Hp,Only H->gF K H a (ns.map V.int)->sp [.ref a] H (λv _=>v=.bl bT) λ_ _ _=>False)(L:∀H e g,CX [] H c (λ_ _ _=>False) e g->False):li (cK P w) mh (.call (.ref I) ⟨[.ref a],[]⟩) (λr g=>r=.ok (.ret (.bool bT))/\OldK c.heap g.heap/\g.os=c.os/\lm g.gens) c:=by
 have U:=vI hi;have y:=hi.length--from an abstract heap in which nothing but the script may be tracked
 have j:∀H:Hp,Only H->gF K H a (ns.map V.int)->jX P w H c.heap->(∀b,H b≠none->b=a)->(H a≠none->K.lookup a=none)->li (cK P w) mh (.call (.ref I) ⟨[.ref a],[]⟩) (λr g=>r=.ok (.ret (.bool bT))/\OldK c.heap g.heap/\g.os=c.os/\lm g.gens) c:=by
  intro H X hS hok Y hK;have Z:∀{b:ce}{o:Obj},c.heap.get? b=a7 o->H b=none->(yf c.heap H).get? b=a7 o:=λe n=>K8 e n;have M:∀{b:ce}{o:Obj}{es:Array DictEntry}{ep:Nat},c.heap.get? b=a7 o->o.data=.dict es ep->H b=none:=λ{b o es ep}e d=>by cases q:H b with|none=>rfl|some u=>have N:b=a:=Y b (by rw[q];simp);subst N;rw[E]at e;cases e;have d':Data.seq vs.toArray _=Data.dict es ep:=d;cases d'
  have i:∀{b:ce}{m:Str->Option bx},c.heap.Ns b m->(yf c.heap H).Ns b m:=λ{b m}⟨o,es,ep,e,d,r⟩=>⟨o,es,ep,Z e (M e d),d,r⟩;have A:K.In (yf c.heap H):=λb o e=>Z (O b o e) (by cases q:H b with|none=>rfl|some u=>have N:b=a:=Y b (by rw[q];simp);subst N;rw[hK (by rw[q];simp)]at e;cases e);have hM:Mod K mg (yf c.heap H):=⟨A,i p,⟨G,i f,J⟩,let⟨mc,h1,h2⟩:=t;⟨mc,i h1,h2⟩⟩;have e0:Rh P w K mg (yf c.heap H) mh [] c H:=⟨rfl,hM,λb o e=>O9 e,pp (GQ _ _),trivial,λb f=>absurd (show b∈([]:List ce)from f) (by simp),hok,.of_eq hg⟩;refine rc ((F _ A (i p)).run mh [] c H ⟨[.ref a],[]⟩ [.ref a] [.ref a] _ _ hr e0 (l c (.ref a)) (.cons rfl .nil) (hsp H X hS)) λr g h=>?_;cases r with|error e=>exact(L H e g h).elim|ok fl=>cases fl with|next=>exact fe h|brk=>exact fe h|cont=>exact fe h|ret u=>obtain⟨v,H',os,bare,un,B,r',q⟩:=h;have q':v=.bl bT:=q;subst q';obtain rfl:u=jp bT:=r';refine⟨rfl,OldK.of_keep λb o e=>?_,os,bare⟩;cases q:H b with|none=>exact un.keep b o e q (by intro z;exact absurd (show b∈([]:List ce)from z) (by simp)) (by simp)|some u=>
        rcases X b with z|⟨ob,xs,z⟩;.rw[q]at z;cases z
        .have z2:=un.qO b ob _ z;obtain⟨e1,_⟩:=hok b _ z;obtain⟨e2,_⟩:=B b _ z2;rw[e]at e1;cases e1;exact e2
 cases hk:K.lookup a with|some o=>--the script is one of the module's own objects
   have e:=O a o hk;rw[E]at e;cases e;refine j (λ_=>none) (λ_=>.inl rfl) (.inr ⟨_,vs.toArray,_,hk,rfl,rfl,rfl,by rw[cE,y];exact Q,by simpa using U⟩) (λb u z=>by have C:(none:Option HO)=a7 u:=z;cases C) (λb z=>absurd rfl z) λz=>absurd rfl z|none=>
   refine j (λb=>if b=a then a7 (.dD {cls:=.type "list",data:=.seq vs.toArray} (.lst (ns.map V.int)))else none) (λb=>?_) (.inl (.inr ⟨{cls:=.type "list",data:=.seq vs.toArray},if_pos rfl⟩)) (λb u z=>?_) (λb z=>?_) λ_=>hk
   . by_cases f:b=a;.exact .inr ⟨_,_,if_pos f⟩
     .exact .inl (if_neg f)
   . by_cases f:b=a;.have C:=(if_pos f).symm.trans z;cases C;subst f;exact⟨E,by rw[ef];exact Q,vs,_,U,E⟩
     .have C:=(if_neg f).symm.trans z;cases C
   . by_cases f:b=a;.exact f
     .exact absurd (if_neg f) z
theorem QF{l:PySem.W.OpenLaw}{n k:Nat}{q:da}{i:List Str}{I:(Str->Option bx)->ej->Prop}{C:eg->ej->Prop}{d:DefRec}{K:Params->PySem.W.Frag}{CX:eg->Iv}{sp:eg->Sp}{x:Str}(J:l.most=a7 n)(t:n<=sizeLine)(y:d.params.defaults=[])(hr:jc k mh)(L:∀(w:eg)(h:ej),C w h->(K w.params).In h)(F:∀(w:eg)(mg:Str->Option bx)(r:ce)(h:ej),(K w.params).In h->h.Ns cN mg->mg d.name=a7 (.ref r)->∃ fd:gX,(∀(s:b_)(u:bx),oB s fd ⟨[u],[]⟩ [(x,u)])/\∀base:ej,(K w.params).In base->base.Ns cN mg->jq l.prog w (K w.params) mg base (CX w) k r fd [x] (sp w))(hsp:∀(w:eg)(H:Hp)(a:ce)(ns:List Int),ns.length<=n->Only H->gF (K w.params) H a (ns.map V.int)->sp w [.ref a] H (λv _=>v=.bl bT) λ_ _ _=>False)(z:∀(w:eg)(H:Hp)(s:b_)(e:bx)(A:b_),CX w [] H s (λ_ _ _=>False) e A->False):PySem.W.WalkO q i I C l.row.toRowW d [] (λf vs=>PySem.call f vs):=by refine _A.yO J y λw s₀ m mg mb r o pm cd M a vs ns G Y ho hd N B p j c O=>?_;have E:=L w _ Y;obtain⟨fd,Q,U⟩:=F w mg r _ E G.T.g B;exact J2 E G.T.g G.T.b G.T.builtins G.T.nolimit O p j (fR c t) hr U Q (λH X Z=>hsp w H a ns c X Z) λH e A=>z w H m e A
theorem Lk{l:PySem.W.OpenLaw}{n k:Nat}{q:da}{b:List Str}{p:(Str->Option bx)->ej->Prop}{m:eg->ej->Prop}{d:DefRec}{K:Params->PySem.W.Frag}{CX:Iv}{sp:PySem.W.Frag->Sp}{x:Str}(r:l.most=a7 n)(c:n<=sizeLine)(g:d.params.defaults=[])(hr:jc k mh)(t:∀(w:eg)(h:ej),m w h->(K w.params).In h)(F:∀(w:eg)(mg:Str->Option bx)(o:ce)(h:ej),(K w.params).In h->h.Ns cN mg->mg d.name=a7 (.ref o)->∃ fd:gX,(∀(s:b_)(u:bx),oB s fd ⟨[u],[]⟩ [(x,u)])/\∀base:ej,(K w.params).In base->base.Ns cN mg->jq l.prog w (K w.params) mg base CX k o fd [x] (sp (K w.params)))(hsp:∀(K:PySem.W.Frag)(H:Hp)(a:ce)(ns:List Int),ns.length<=n->Only H->gF K H a (ns.map V.int)->sp K [.ref a] H (λv _=>v=.bl bT) λ_ _ _=>False)(i:∀(H:Hp)(s:b_)(e:bx)(j:b_),CX [] H s (λ_ _ _=>False) e j->False):PySem.W.WalkO q b p m l.row.toRowW d [] (λf vs=>PySem.call f vs):=QF (K:=K) (CX:=λ_=>CX) (sp:=λw=>sp (K w.params)) r c g hr t F (λw H a ns h1 y z=>hsp (K w.params) H a ns h1 y z) λ_ H s e j=>i H s e j
end _L
namespace _L
open PySem Spec PyProof.Rows
noncomputable def gW(s:ey):Arguments:=match s with|.FunctionDef _ a _ _ _ _ _ _ _ _=>a|_=>{posonlyargs:=[],args:=[],vararg:=none,kwonlyargs:=[],kw_defaults:=[],kwarg:=none,defaults:=[]}
noncomputable def eY(s:ey):List ey:=match s with|.FunctionDef _ _ b _ _ _ _ _ _ _=>b|_=>[]
noncomputable def au(s:ey):iO:=match s with|.FunctionDef _ _ _ _ _ _ a _ _ _=>a|_=>{kind:=.function,names:=[],isGenerator:=a_,isCoroutine:=a_}
noncomputable abbrev J9:Iv:=λ_ _ _ _ _ _=>False
noncomputable abbrev E0:XK:=λ_ _ _=>False
theorem aaa{X:Cx}:Passes J9 X E0:=λ_ _ _ _ _ _ _ h=>h.elim
structure jf(K:PySem.W.Frag)(x qual:Str)(st:ey)(f:ce)(fd:gX):Prop where
 ex:∃(oc:bx)(od:Option ce)(kV doc pm:bx)(an:Option ce)(cdv ct:bx)(osl:Array (Option bx)),fd=PySem.W.fnOf x qual (gW st) (eY st) (au st) .none kV doc pm an cdv ct/\K.lookup f=a7 ⟨oc,od,.func fd,osl⟩/\PySem.W.codeIn K cdv qual=bT
 kp:keepIn K (.ref f)=bT
section
variable{P:da}{w:eg}{K:PySem.W.Frag}{mg:Str->Option bx}{base:ej}
theorem jf.ok{x qual:Str}{st:ey}{f:ce}{fd:gX}{N ps:List Str}{k:Nat}{sp:Sp}(F:jf K x qual st f fd)(S:aN N ps (au st))(len:∀vs H Q E,sp vs H Q E->vs.length=ps.length)(a:∀(cdv:bx)(A:ek)(outer:List Env)(s:b_)(H:Hp)(vs:List V)(Q:VK)(E:XK),jc k (A.deeper (kq qual (au st) s.heap.objs.size f cdv))->sp vs H Q E->∃t,qi (lX J9 P w K mg base N qual (au st) f cdv A outer s H E).nox (eY st) t/\t {nx:=λ_ c=>Q .non c,rt:=Q} (start N vs) H):jq P w K mg base J9 (k+1) f fd ps sp:=by obtain⟨oc,od,kV,e,i,j,cdv,ct,g,rfl,lk,b⟩:=F.ex;refine Tc lk b S len λA outer s H vs Q E hr hsp=>?_;obtain⟨t,h,q⟩:=a cdv A outer s H vs Q E hr hsp;exact⟨t,h.nox,q⟩
theorem jf.binds{x qual:Str}{st:ey}{f:ce}{fd:gX}{ps:List Str}(F:jf K x qual st f fd)(h:∀(kV a b:bx)(c:Option ce)(cdv ct:bx)(e:List bx),e.length=ps.length->nq (PySem.W.fnOf x qual (gW st) (eY st) (au st) .none kV a b c cdv ct) ⟨e,[]⟩=eS (ps.zip e)):Binds K fd ps []:=by obtain⟨oc,od,kV,a,b,c,cdv,ct,g,rfl,lk,i⟩:=F.ex;exact .all (h kV a b c cdv ct)
theorem WR{x qual:Str}{st:ey}{f:ce}{oc:bx}{od e:Option ce}{b:Array (Option bx)}{kV a g cdv ct:bx}(l:K.lookup f=a7 ⟨oc,od,.func (PySem.W.fnOf x qual (gW st) (eY st) (au st) .none kV a g e cdv ct),b⟩)(c:PySem.W.codeIn K cdv qual=bT)(k:keepIn K (.ref f)=bT):jf K x qual st f (PySem.W.fnOf x qual (gW st) (eY st) (au st) .none kV a g e cdv ct):=⟨⟨oc,od,kV,a,g,e,cdv,ct,b,rfl,l,c⟩,k⟩
end
noncomputable def aD(H a:Hp):Prop:=∀b o,H b=a7 o->a b=a7 o
theorem aD.refl(H:Hp):aD H H:=λ_ _ h=>h
theorem aD.trans{H e f:Hp}(a:aD H e)(b:aD e f):aD H f:=λc o h=>b c o (a c o h)
theorem aD.seq{K:PySem.W.Frag}{H b:Hp}{a:ce}{xs:List V}(e:aD H b)(h:gF K H a xs):gF K b a xs:=by
 rcases h with(h|⟨o,h⟩)|h;.exact .inl (.inl (e _ _ h))
 .exact .inl (.inr ⟨o,e _ _ h⟩)
 .exact .inr h
end _L
namespace _H
open PySem
set_option genInjectivity true in inductive Dc where|k(kvs:List (Int×Int))|t(kvs:List (List Int×Int))deriving DecidableEq
set_option genInjectivity true in inductive D where|non|bl(b:Bool)|int(i:Int)|str(s:Str)|tup(ds:List D)|lst(ds:List D)|dI(m:Dc)|dv(ks:List Int)(ds:List D)deriving Inhabited
mutual
noncomputable def mG:D->D->Bool|.non,.non=>bT|.bl a,.bl b=>a==b|.bl a,.int i=>(if a then(1:Int)else 0)==i|.int i,.bl a=>i==(if a then(1:Int)else 0)|.int i,.int j=>i==j|.str a,.str b=>a==b|.tup xs,.tup ys=>lY xs ys|.lst xs,.lst ys=>lY xs ys|.dI a,.dI b=>decide (a=b)|.dv a xs,.dv b ys=>decide (a=b)&&lY xs ys|_,_=>a_
noncomputable def lY:List D->List D->Bool|[],[]=>bT|x::xs,y::ys=>mG x y&&lY xs ys|_,_=>a_
end
theorem mJ:lY [] []=bT:=rfl
theorem jy{x y:D}{xs ys:List D}:lY (x::xs) (y::ys)=(mG x y&&lY xs ys):=rfl
theorem tU{y:D}{ys:List D}:lY [] (y::ys)=a_:=rfl
theorem su{x:D}{xs:List D}:lY (x::xs) []=a_:=rfl
theorem pqi{i j}:mG (.int i) (.int j)=(i==j):=(rfl)
theorem pqt{x y}:mG (.tup x) (.tup y)=lY x y:=(rfl)
theorem pql{x y}:mG (.lst x) (.lst y)=lY x y:=(rfl)
noncomputable def jZ:Nat->D->Bool|_,.non=>bT|_,.bl _=>bT|_,.int _=>bT|_,.str _=>bT|0,.tup _=>a_|0,.lst _=>a_|_,.dI _=>a_|_,.dv _ _=>a_|n+1,.tup a=>a.all (jZ n)|n+1,.lst a=>a.all (jZ n)
theorem bJ{n:Nat}{a:List D}:jZ (n+1) (.tup a)=a.all (jZ n):=rfl
theorem bG{n:Nat}{a:List D}:jZ (n+1) (.lst a)=a.all (jZ n):=rfl
theorem bM{n:Nat}{m:Dc}:jZ n (.dI m)=a_:=by cases n<;>rfl
theorem bI{n:Nat}{k:List Int}{a:List D}:jZ n (.dv k a)=a_:=by cases n<;>rfl
theorem bK{a:List D}:jZ 0 (.tup a)=a_:=rfl
theorem bL{a:List D}:jZ 0 (.lst a)=a_:=rfl
set_option genInjectivity true in inductive Sl where|aM|val(b:Bool)(d:D)|own(b:Bool)(ds:List D)|lent(ds:List D)|gZ(m:Dc)|hold(rows:List (List D))|cY(kvs:List (Int×D))deriving Inhabited
inductive R where|val(d:D)|own(ds:List D)deriving Inhabited
noncomputable def R.d:R->D|.val d=>d|.own a=>.lst a
set_option genInjectivity true in inductive Res(α:Type)where|ok(a:α)(ρ:List Sl)|exc(k:Nat)(ρ:List Sl)|stuck deriving Inhabited
noncomputable def Res.bind{b c:Type}(f:b->List Sl->Res c):Res b->Res c|.ok a ρ=>f a ρ|.exc _ _=>.stuck|.stuck=>.stuck
noncomputable def lift{b:Type}(o:Option b)(ρ:List Sl):Res b:=match o with|some a=>.ok a ρ|none=>.stuck
inductive Op where|add|sub|mul|fdiv|mod|pow|shl|shr|band|yF|din|agQ
inductive Cm where|eq|ne|lt|le|gt|ge|isN|Nu|inn|ab0|isT|ab3|leT
inductive Ty where|int|bool|str|tuple|list|none
inductive Blt where|len|list|tuple|min2|max2|Nv|sum|all|int|keys|ZP|rvT|Ny|Nz
inductive P where|var(i:Nat)|con(d:D)|bin(o:Op)(a b:P)|neg(a:P)|not(a:P)|and(a b:P)|or(a b:P)|cmp(o:Cm)(a b:P)|T4(c a b:P)|tup(as:List P)|lst(as:List P)|idx(a i:P)|slice(a lo hi:P)|call(f:Nat)(as:List P)|blt(b:Blt)(as:List P)|inst(ts:List Ty)(a:P)|comp(src:P)(n:Nat)(is:List Nat)(one:Bool)(test:Option P)(elt:P)|uZ(a b:P)|zip(a b:P)|XX(x:Nat)(k d:P)|vw(x:Nat)|T5(x:Nat)(k:P)|T6(x:Nat)(k:P)(neg:Bool)|Dk(k e:Int)|wj(i:Nat)(a:P)(n:Nat)(is:List Nat)(one:Bool)(test:Option P)(elt:P)deriving Inhabited
noncomputable abbrev lim:Nat:=16777216
noncomputable def tQ:D->D->Option R|.int i,.int j=>a7 (.val (.int (i+j)))|.lst xs,.lst ys=>if xs.length+ys.length<=lim then a7 (.own (xs++ys))else none|.tup xs,.tup ys=>if xs.length+ys.length<=lim then a7 (.val (.tup (xs++ys)))else none|.str x,.str y=>if x.length+y.length<=lim then a7 (.val (.str (x++y)))else none|_,_=>none
noncomputable def j8:D->D->Option R|.int i,.int j=>if((-18446744073709551616<i/\i<18446744073709551616)\/(-18446744073709551616<j/\j<18446744073709551616))then a7 (.val (.int (i*j)))else none|.lst xs,.int k=>if 0<=k/\0<xs.length/\xs.length*k.toNat<=lim then a7 (.own (cp k.toNat xs).flatten)else none|.tup xs,.int k=>if 0<=k/\0<xs.length/\xs.length*k.toNat<=lim then a7 (.val (.tup (cp k.toNat xs).flatten))else none|_,_=>none
noncomputable def yQ:D->D->Option R|.int i,.int j=>a7 (.val (.int (i-j)))|_,_=>none
noncomputable def uE:D->D->Option R|.int i,.int j=>if 0<j/\j<1606938044258990275541962092341162602522202993782792835301376 then a7 (.val (.int (i/j)))else none|_,_=>none
noncomputable def zq:D->D->Option R|.int i,.int j=>if 0<j then a7 (.val (.int (i%j)))else none|_,_=>none
noncomputable def zu:D->D->Option R|.int i,.int j=>if 0<=j/\j<=1000/\i.natAbs<18446744073709551616 then a7 (.val (.int (i^j.toNat)))else none|_,_=>none
noncomputable def JB:D->D->Option R|.int i,.int j=>if 0<=j/\j<=1000/\i.natAbs<18446744073709551616 then a7 (.val (.int (i*2^j.toNat)))else none|_,_=>none
noncomputable def KJ:D->D->Option R|.int i,.int j=>if 0<=j then a7 (.val (.int (i/2^j.toNat)))else none|_,_=>none
noncomputable def Cq:D->D->Option R|.int i,.int j=>a7 (.val (.int (Builtin.bitAnd i j)))|_,_=>none
noncomputable def flat:D->Bool|.tup _=>a_|.lst _=>a_|.dI _=>a_|.dv _ _=>a_|_=>bT
noncomputable def items:D->Option (List D)|.lst a=>a7 a|.tup a=>a7 a|_=>none
noncomputable def WY:D->Option (List D)|.tup a=>a7 a|_=>none
noncomputable def JV(x y:D):Option Bool:=if jZ 8 x&&jZ 8 y then a7 (mG x y)else none
noncomputable def Ju(x y:D):Option Bool:=if jZ 8 x&&jZ 8 y then a7 (!mG x y)else none
noncomputable def Om(f:Int->Int->Bool):D->D->Option Bool|.int i,.int j=>a7 (f i j)|_,_=>none
noncomputable def lq:D->Bool|.non=>bT|_=>a_
noncomputable def cmN(neg:Bool)(x:D):D->Option Bool|.non=>a7 (if neg then !lq x else lq x)|_=>none
noncomputable def aae(neg:Bool)(x y:D):Option Bool:=(items y).bind λys=>if(flat x&&ys.all flat)=bT then a7 (if neg then !(ys.any λy=>mG y x)else ys.any λy=>mG y x)else none
noncomputable def cmT(neg:Bool):D->D->Option Bool|.bl b,.bl bT=>a7 (if neg then !b else b)|_,_=>none
noncomputable def bB:List Int->List Int->Bool|[],_::_=>bT|i::is,j::js=>decide (i<j)||(decide (i=j)&&bB is js)|_,[]=>a_
noncomputable def tL:D->Int|.int i=>i|_=>0
noncomputable def dj:D->List Int|.int i=>[i]|.tup a=>a.map tL|_=>[]
noncomputable def iC:D->Bool|.int _=>bT|_=>a_
noncomputable def Dc.get:Dc->D->Option (Option Int)|.k kvs,.int i=>a7 ((kvs.find? λa=>decide (a.1=i)).map (·.2))|_,_=>none
noncomputable def putD{κ:Type}[DecidableEq κ](kvs:List (κ×Int))(k:κ)(v:Int):List (κ×Int):=if(kvs.any λa=>decide (a.1=k))=bT then kvs.map (λa=>if a.1=k then(a.1,v)else a)else kvs++[(k,v)]
noncomputable def Dc.put:Dc->D->Int->Option Dc|.k kvs,.int i,v=>if kvs.length<lim then a7 (.k (putD kvs i v))else none|_,_,_=>none
noncomputable def mQ(kvs:List (Int×D))(k:Int):Option D:=(kvs.find? λp=>decide (p.1=k)).map (·.2)
noncomputable def iB(kvs:List (Int×D))(k:Int)(d:D):List (Int×D):=if(kvs.any λp=>decide (p.1=k))=bT then kvs.map (λp=>if p.1=k then(p.1,d)else p)else kvs++[(k,d)]
noncomputable def zJ(neg:Bool):D->D->Option R|.int k,.dv ks _=>a7 (.val (.bl (if neg then !ks.contains k else ks.contains k)))|_,_=>none
noncomputable def zU:D->D->Option R|.dI m,k=>(m.get k).bind λo=>o.map λv=>.val (.int v)|.dv ks a,.int k=>(mQ (ks.zip a) k).map .val|_,_=>none
noncomputable def uK:Op->D->D->Option R|.add=>tQ|.mul=>j8|.sub=>yQ|.fdiv=>uE|.mod=>zq|.pow=>zu|.shl=>JB|.shr=>KJ|.band=>Cq|.yF=>zU|.din=>zJ a_|.agQ=>zJ bT
noncomputable def Z0:D->D->Option Bool|.int i,.int j=>a7 (decide (i<j))|.tup xs,.tup ys=>if(xs.all iC&&ys.all iC)=bT then a7 (bB (xs.map tL) (ys.map tL))else none|_,_=>none
noncomputable def agx:D->D->Option Bool|.int i,.int j=>a7 (decide (i<=j))|.tup xs,.tup ys=>if(xs.all iC&&ys.all iC)=bT then a7 (!bB (ys.map tL) (xs.map tL))else none|_,_=>none
noncomputable def cm:Cm->D->D->Option Bool|.eq=>JV|.ne=>Ju|.lt=>Z0|.le=>Om λi j=>decide (i<=j)|.leT=>agx|.gt=>Om λi j=>decide (j<i)|.ge=>Om λi j=>decide (j<=i)|.isN=>cmN a_|.Nu=>cmN bT|.inn=>aae a_|.ab0=>aae bT|.isT=>cmT a_|.ab3=>cmT bT
noncomputable def CP(o:Cm)(x y:D):Option R:=(cm o x y).map λk=>.val (.bl k)
noncomputable def jm(n:Nat)(i:Int):Option Nat:=if 0<=i then(if i<n then a7 i.toNat else none)else if-(n:Int)<=i then a7 (i+n).toNat else none
noncomputable def at'{a:Type}(xs:List a)(i:Int):Option a:=(jm xs.length i).bind λj=>xs[j]?
noncomputable def dW(n d:Nat):Option Int->Nat|none=>d|some i=>if 0<=i then min i.toNat n else(i+n).toNat
noncomputable def cut{a:Type}(xs:List a)(lo hi:Option Int):List a:=(xs.drop (dW xs.length 0 lo)).take (dW xs.length xs.length hi-dW xs.length 0 lo)
noncomputable def je:D->Option Int|.int i=>a7 i|_=>none
noncomputable def Gb:D->Option Bool|.bl b=>a7 b|_=>none
noncomputable def dl2(k e:Int)(x y:D):Option R:=(je x).bind λi=>(je y).bind λj=>if i=k then none else a7 (.val (.dv [k,i] [.int e,.int j]))
noncomputable def lixR:D->D->Option R|.lst a,.int i=>(a.mapM je).bind λns=>if i∈ns/\ns.length<=1000 then a7 (.val (.int (ns.idxOf i)))else none|_,_=>none
noncomputable def Hf(x y:D):Option R:=(items x).bind λa=>(je y).bind λi=>(at' a i).map .val
noncomputable def M8(x:D):Option R:=(je x).map λi=>.val (.int (-i))
noncomputable def abI:P->Bool|.con .non=>bT|_=>a_
noncomputable def part(p:P)(d:D):Option (Option Int):=if abI p then a7 none else(je d).map a7
noncomputable def Oh:D->Option (Option Int)->Option (Option Int)->Option R|.lst xs,a7 lo,a7 hi=>a7 (.own (cut xs lo hi))|.tup xs,a7 lo,a7 hi=>a7 (.val (.tup (cut xs lo hi)))|_,_,_=>none
noncomputable def cJ:Ty->D->Bool|.int,.int _=>bT|.int,.bl _=>bT|.bool,.bl _=>bT|.str,.str _=>bT|.tuple,.tup _=>bT|.list,.lst _=>bT|.none,.non=>bT|_,_=>a_
noncomputable def zM:D->Bool|.tup (x::xs)=>(x::xs).all iC|_=>a_
noncomputable def sortable(ds:List D):Bool:=decide (ds.length<=16777216)&&(ds.all iC||ds.all zM)
noncomputable def Tp(c:List D):List D:=c.mergeSort λa b=>!bB (dj b) (dj a)
noncomputable def ordP:D->Bool|.tup [.int _,.tup ws]=>ws.all iC|_=>a_
noncomputable def flP:D->D|.tup [.int h,.tup ws]=>.tup (.int h::ws)|d=>d
noncomputable def ufP:D->D|.tup (.int h::ws)=>.tup [.int h,.tup ws]|d=>d
noncomputable def BL:D->Option (List D)|.lst a=>a7 a|_=>none
noncomputable def gO(p:Int×Int):D:=.tup [.int p.1,.int p.2]
noncomputable def blt:Blt->List D->Option R|.len,[x]=>(items x).map λc=>.val (.int c.length)|.Nz,[.dI (.k kvs)]=>a7 (.val (.int kvs.length))|.list,[x]=>(items x).map λc=>.own c|.tuple,[x]=>(items x).map λc=>.val (.tup c)|.min2,[.int i,.int j]=>a7 (.val (.int (if j<i then j else i)))|.max2,[.int i,.int j]=>a7 (.val (.int (if i<j then j else i)))|.Nv,[x]=>((items x).bind λc=>c.mapM je).bind λns=>ns.min?.map λi=>.val (.int i)|.sum,[x]=>((items x).bind λc=>c.mapM je).map λns=>.val (.int ns.sum)|.all,[x]=>((BL x).bind λc=>c.mapM Gb).map λbs=>.val (.bl (bs.all id))|.int,[.int i]=>a7 (.val (.int i))|.int,[.bl b]=>a7 (.val (.int (if b then 1 else 0)))|.keys,[.dI (.k kvs)]=>a7 (.val (.tup (kvs.map λp=>.int p.1)))|.keys,[.dv ks _]=>a7 (.val (.tup (ks.map D.int)))|.ZP,[.dv ks _]=>if ks.length<=16777216 then a7 (.own (ks.map D.int))else none|.rvT,[.lst c]=>a7 (.val (.tup c.reverse))|.Ny,[.dI (.k kvs)]=>if kvs.length<=16777216/\kvs.Pairwise (λa b=>a.1<b.1)then a7 (.own (kvs.map gO))else none|_,_=>none
noncomputable def pk(ρ:List Sl)(i:Nat):Option D:=match ρ[i]?with|some (.val _ d)=>a7 d|some (.own _ a)=>a7 (.lst a)|some (.lent a)=>a7 (.lst a)|_=>none
noncomputable def Cp(ρ:List Sl)(i:Nat):Option (List D):=match pk ρ i with|some (.lst a)=>a7 a|_=>none
noncomputable abbrev Ev:=List Sl->Res R
noncomputable def isVar:P->Option Nat|.var i=>a7 i|_=>none
noncomputable def cZ(i:Option Nat)(e:Ev)(ρ:List Sl):Res D:=match i with|some i=>lift (pk ρ i) ρ|none=>(e ρ).bind λr ρ=>.ok r.d ρ
noncomputable def kJ(i:Option Nat)(e:Ev)(j:Option Nat)(f:Ev)(ρ:List Sl):Res (D×D):=match i with|some i=>(lift (pk ρ i) ρ).bind λ_ ρ=>(cZ j f ρ).bind λy ρ=>(lift (pk ρ i) ρ).bind λx ρ=>.ok (x,y) ρ|none=>(cZ none e ρ).bind λx ρ=>(cZ j f ρ).bind λy ρ=>.ok (x,y) ρ
noncomputable def jV(e:Ev)(ρ:List Sl):Res Bool:=(e ρ).bind λr ρ=>lift (Gb r.d) ρ
set_option genInjectivity true in inductive Arg where|dat(d:D)|tmp(ds:List D)|gH(i:Nat)
noncomputable def vJ:R->Arg|.val d=>.dat d|.own a=>.tmp a
noncomputable def bV(ρ:List Sl):List Arg->List Nat->Option (List Sl)|[],_=>a7 []|.dat d::r,a=>(bV ρ r a).map λs=>.val a_ d::s|.tmp b::r,a=>(bV ρ r a).map λs=>.own a_ b::s|.gH i::r,a=>match ρ[i]?with|some (.val _ d)=>(bV ρ r a).map λs=>.val a_ d::s|some (.own _ b)=>if a.contains i then none else(bV ρ r (i::a)).map λs=>.own bT b::s|some (.lent b)=>if a.contains i then none else(bV ρ r (i::a)).map λs=>.lent b::s|_=>none
theorem mK{ρ:List Sl}{u:List Nat}:bV ρ [] u=a7 []:=rfl
theorem mO{ρ:List Sl}{d:D}{r:List Arg}{u:List Nat}:bV ρ (.dat d::r) u=(bV ρ r u).map λs=>.val a_ d::s:=rfl
theorem mR{ρ:List Sl}{d:List D}{r:List Arg}{u:List Nat}:bV ρ (.tmp d::r) u=(bV ρ r u).map λs=>.own a_ d::s:=rfl
theorem jJ{ρ:List Sl}{i:Nat}{r:List Arg}{u:List Nat}:bV ρ (.gH i::r) u=match ρ[i]?with|some (.val _ d)=>(bV ρ r u).map λs=>.val a_ d::s|some (.own _ a)=>if u.contains i then none else(bV ρ r (i::u)).map λs=>.own bT a::s|some (.lent a)=>if u.contains i then none else(bV ρ r (i::u)).map λs=>.lent a::s|_=>none:=rfl
noncomputable def aO(i:Nat):List Arg->List Sl->Option Sl|.gH k::as,s::ss=>if k=i then a7 s else aO i as ss|.dat _::as,_::ss=>aO i as ss|.tmp _::as,_::ss=>aO i as ss|_,_=>none
noncomputable def dz:Sl->Option Sl->Sl|.own b _,a7 (.own _ a)=>.own b a|.own b _,a7 (.val _ d)=>.val b d|s,_=>s
noncomputable def fK(as:List Arg)(ss:List Sl):Nat->List Sl->List Sl|_,[]=>[]|i,s::ρ=>dz s (aO i as ss)::fK as ss (i+1) ρ
theorem jz{as:List Arg}{ss:List Sl}{i:Nat}:fK as ss i []=[]:=rfl
theorem ir{as:List Arg}{ss:List Sl}{i:Nat}{s:Sl}{ρ:List Sl}:fK as ss i (s::ρ)=dz s (aO i as ss)::fK as ss (i+1) ρ:=rfl
noncomputable abbrev Call:=Nat->List Sl->Res R
noncomputable def jE(c:Call)(f:Nat)(as:List Arg)(ρ:List Sl):Res R:=match bV ρ as []with|none=>.stuck|some args=>match c f args with|.ok r a=>.ok r (fK as a 0 ρ)|.exc _ _=>.stuck|.stuck=>.stuck
noncomputable def put(ρ:List Sl)(i:Nat)(s:Sl):Option (List Sl):=match ρ[i]?with|some .aM=>a7 (ρ.set i s)|some (.val a_ _)=>a7 (ρ.set i s)|some (.own a_ _)=>a7 (ρ.set i s)|_=>none
noncomputable def putAll(ρ:List Sl):List Nat->List D->Option (List Sl)|[],[]=>a7 ρ|i::is,d::a=>(put ρ i (.val a_ d)).bind λρ=>putAll ρ is a|_,_=>none
theorem j5{ρ:List Sl}:putAll ρ [] []=a7 ρ:=rfl
theorem jN{ρ:List Sl}{i:Nat}{is:List Nat}{d:D}{a:List D}:putAll ρ (i::is) (d::a)=(put ρ i (.val a_ d)).bind λρ=>putAll ρ is a:=rfl
theorem pq{ρ:List Sl}{i:Nat}{is:List Nat}:putAll ρ (i::is) []=none:=rfl
theorem pL{ρ:List Sl}{d:D}{a:List D}:putAll ρ [] (d::a)=none:=rfl
noncomputable def cA(ρ:List Sl)(is:List Nat)(one:Bool)(d:D):Option (List Sl):=match one,is,d with|true,[i],d=>put ρ i (.val a_ d)|false,is,.tup a=>putAll ρ is a|_,_,_=>none
noncomputable def srcOf(i:Option Nat)(e:Ev)(ρ:List Sl):Res (List D):=match i with
 |some i=>match ρ[i]?with|some (.val _ d)=>lift (items d) ρ|some (.own _ a)=>.ok a (ρ.set i (.lent a))|some (.lent a)=>.ok a ρ|_=>.stuck
 |none=>(e ρ).bind λr ρ=>lift (items r.d) ρ
noncomputable def aP(a:List Sl)(i:Option Nat)(ρ:List Sl):List Sl:=match i with
 |some i=>match a[i]?with|some (.own b c)=>ρ.set i (.own b c)|_=>ρ
 |none=>ρ
noncomputable def JG(i:Nat)(f:Ev)(ρ:List Sl):Res (List D×List Sl):=(f ρ).bind λr a=>(lift (items r.d) a).bind λes a=>match a[i]?with|some (.val _ d)=>(lift (items d) a).bind λb a=>.ok ((es.zip b).map λp=>D.tup [p.1,p.2],a) a|some (.own _ b)=>.ok ((es.zip b).map λp=>D.tup [p.1,p.2],a) (a.set i (.lent b))|some (.lent b)=>.ok ((es.zip b).map λp=>D.tup [p.1,p.2],a) a|_=>.stuck
noncomputable def turns(is:List Nat)(one:Bool)(a:List Sl->Res Bool)(e:Ev):List D->List D->List Sl->Res (List D)|[],c,ρ=>.ok c ρ|d::r,c,ρ=>match cA ρ is one d with|none=>.stuck|some ρ=>(a ρ).bind λb ρ=>if b then(e ρ).bind λx ρ=>turns is one a e r (c++[x.d]) ρ else turns is one a e r c ρ
theorem Jv{is:List Nat}{o:Bool}{f:List Sl->Res Bool}{e:Ev}{a:List D}{ρ:List Sl}:turns is o f e [] a ρ=.ok a ρ:=rfl
theorem Jm{is:List Nat}{o:Bool}{f:List Sl->Res Bool}{e:Ev}{d:D}{r a:List D}{ρ:List Sl}:turns is o f e (d::r) a ρ=match cA ρ is o d with|none=>.stuck|some ρ=>(f ρ).bind λb ρ=>if b then(e ρ).bind λx ρ=>turns is o f e r (a++[x.d]) ρ else turns is o f e r a ρ:=rfl
mutual
noncomputable def ev(c:Call):P->List Sl->Res R
 |.var i,ρ=>match ρ[i]?with|some (.val _ d)=>.ok (.val d) ρ|some (.own b q)=>.ok (.val (.lst q)) (ρ.set i (.val b (.lst q)))|some (.gZ (.k kvs))=>.ok (.val (.dI (.k kvs))) (ρ.set i (.val a_ (.dI (.k kvs))))|some (.cY kvs)=>.ok (.val (.dv (kvs.map (·.1)) (kvs.map (·.2)))) (ρ.set i (.val a_ (.dv (kvs.map (·.1)) (kvs.map (·.2)))))|_=>.stuck
 |.con d,ρ=>.ok (.val d) ρ|.bin o a b,ρ=>(kJ (isVar a) (ev c a) (isVar b) (ev c b) ρ).bind λu ρ=>lift (uK o u.1 u.2) ρ|.neg a,ρ=>(cZ (isVar a) (ev c a) ρ).bind λx ρ=>lift (M8 x) ρ|.not a,ρ=>(jV (ev c a) ρ).bind λb ρ=>.ok (.val (.bl (!b))) ρ|.and a b,ρ=>(jV (ev c a) ρ).bind λx ρ=>if x then(jV (ev c b) ρ).bind λy ρ=>.ok (.val (.bl y)) ρ else .ok (.val (.bl a_)) ρ|.or a b,ρ=>(jV (ev c a) ρ).bind λx ρ=>if x then .ok (.val (.bl bT)) ρ else(jV (ev c b) ρ).bind λy ρ=>.ok (.val (.bl y)) ρ|.cmp o a b,ρ=>(kJ (isVar a) (ev c a) (isVar b) (ev c b) ρ).bind λu ρ=>lift (CP o u.1 u.2) ρ|.T4 t a b,ρ=>(jV (ev c t) ρ).bind λk ρ=>if k then(ev c a ρ).bind λr ρ=>.ok (.val r.d) ρ else(ev c b ρ).bind λr ρ=>.ok (.val r.d) ρ|.tup as,ρ=>(evs c as ρ).bind λq ρ=>.ok (.val (.tup q)) ρ|.lst as,ρ=>(evs c as ρ).bind λq ρ=>.ok (.own q) ρ|.idx a i,ρ=>(kJ (isVar a) (ev c a) (isVar i) (ev c i) ρ).bind λu ρ=>lift (Hf u.1 u.2) ρ|.slice a l h,ρ=>match isVar a with|some i=>(lift (pk ρ i) ρ).bind λ_ ρ=>(cZ (isVar l) (ev c l) ρ).bind λy ρ=>(cZ (isVar h) (ev c h) ρ).bind λz ρ=>(lift (pk ρ i) ρ).bind λx ρ=>lift (Oh x (part l y) (part h z)) ρ|none=>(cZ none (ev c a) ρ).bind λx ρ=>(cZ (isVar l) (ev c l) ρ).bind λy ρ=>(cZ (isVar h) (ev c h) ρ).bind λz ρ=>lift (Oh x (part l y) (part h z)) ρ
 |.call f as,ρ=>(Az c as ρ).bind λxs ρ=>jE c f xs ρ|.blt b [a],ρ=>(cZ (isVar a) (ev c a) ρ).bind λx ρ=>lift (blt b [x]) ρ|.blt b as,ρ=>(evs c as ρ).bind λq ρ=>lift (blt b q) ρ|.inst E a,ρ=>(cZ (isVar a) (ev c a) ρ).bind λx ρ=>.ok (.val (.bl (E.any λt=>cJ t x))) ρ|.comp src n is one w A,ρ=>(srcOf (isVar src) (ev c src) ρ).bind λq g=>if q.length<=lim then(turns is one (uN c w) (ev c A) q [] (g++cp n .aM)).bind λxs s=>.ok (.own xs) (aP ρ (isVar src) (s.take g.length))else .stuck|.uZ a b,ρ=>(kJ (isVar a) (ev c a) (isVar b) (ev c b) ρ).bind λu ρ=>lift ((je u.1).bind λi=>(je u.2).bind λj=>if-1000000<=i/\i<=1000000000/\j<=1000000000/\-1000000000<=j then a7 (.val (.lst ((dL (j-i).toNat).map λ(k:Nat)=>D.int (i+(k:Int)))))else none) ρ|.zip a b,ρ=>(ev c a ρ).bind λx ρ=>(ev c b ρ).bind λy ρ=>lift ((items x.d).bind λq=>(items y.d).map λes=>.val (.lst ((q.zip es).map λp=>D.tup [p.1,p.2]))) ρ|.XX x k d,ρ=>match ρ[x]?with
   |some (.gZ _)=>(cZ (isVar k) (ev c k) ρ).bind λB ρ=>(cZ (isVar d) (ev c d) ρ).bind λdd ρ=>match ρ[x]?with|some (.gZ m)=>lift ((m.get B).bind λo=>(je dd).map λv=>.val (.int (o.getD v))) ρ|_=>.stuck
   |_=>.stuck
 |.vw x,ρ=>match ρ[x]?with|some (.gZ m)=>.ok (.val (.dI m)) (ρ.set x (.val a_ (.dI m)))|some (.cY kvs)=>.ok (.val (.dv (kvs.map (·.1)) (kvs.map (·.2)))) (ρ.set x (.val a_ (.dv (kvs.map (·.1)) (kvs.map (·.2)))))|some (.own b q)=>.ok (.val (.lst q)) (ρ.set x (.val b (.lst q)))|some (.val _ d)=>.ok (.val d) ρ|_=>.stuck
 |.T5 x k,ρ=>match ρ[x]?with
   |some (.cY _)=>(cZ (isVar k) (ev c k) ρ).bind λB ρ=>match ρ[x]?with|some (.cY kvs)=>lift ((je B).bind λk=>(mQ kvs k).map .val) ρ|_=>.stuck
   |_=>.stuck
 |.T6 x k neg,ρ=>(cZ (isVar k) (ev c k) ρ).bind λB ρ=>match ρ[x]?with|some (.cY kvs)=>lift ((je B).map λk=>.val (.bl (if neg then !(kvs.map (·.1)).contains k else(kvs.map (·.1)).contains k))) ρ|_=>.stuck
 |.Dk k e,ρ=>.ok (.val (.dv [k] [.int e])) ρ|.wj i a n is one w A,ρ=>(JG i (ev c a) ρ).bind λC g=>if C.1.length<=lim then(turns is one (uN c w) (ev c A) C.1 [] (g++cp n .aM)).bind λxs s=>.ok (.own xs) (aP C.2 (a7 i) (s.take g.length))else .stuck
noncomputable def evs(c:Call):List P->List Sl->Res (List D)|[],ρ=>.ok [] ρ|a::r,ρ=>(ev c a ρ).bind λx ρ=>(evs c r ρ).bind λxs ρ=>.ok (x.d::xs) ρ
noncomputable def Az(c:Call):List P->List Sl->Res (List Arg)|[],ρ=>.ok [] ρ|a::r,ρ=>match isVar a with|some i=>(lift (pk ρ i) ρ).bind λ_ ρ=>(Az c r ρ).bind λxs ρ=>.ok (.gH i::xs) ρ|none=>(ev c a ρ).bind λx ρ=>(Az c r ρ).bind λxs ρ=>.ok (vJ x::xs) ρ
noncomputable def uN(c:Call):Option P->List Sl->Res Bool|none,ρ=>.ok bT ρ|some t,ρ=>jV (ev c t) ρ
end
theorem J4{c:Call}{ρ:List Sl}:evs c [] ρ=.ok [] ρ:=rfl
theorem yj{c:Call}{a:P}{r:List P}{ρ:List Sl}:evs c (a::r) ρ=(_H.ev c a ρ).bind λx ρ=>(evs c r ρ).bind λxs ρ=>.ok (x.d::xs) ρ:=rfl
theorem Bp{c:Call}{ρ:List Sl}:Az c [] ρ=.ok [] ρ:=rfl
theorem ym{c:Call}{a:P}{r:List P}{ρ:List Sl}:Az c (a::r) ρ=match isVar a with|some i=>(lift (pk ρ i) ρ).bind λ_ ρ=>(Az c r ρ).bind λxs ρ=>.ok (.gH i::xs) ρ|none=>(_H.ev c a ρ).bind λx ρ=>(Az c r ρ).bind λxs ρ=>.ok (vJ x::xs) ρ:=rfl
theorem E1{c i ρ}:ev c (.var i) ρ=match ρ[i]?with|some (.val _ d)=>.ok (.val d) ρ|some (.own b a)=>.ok (.val (.lst a)) (ρ.set i (.val b (.lst a)))|some (.gZ (.k kvs))=>.ok (.val (.dI (.k kvs))) (ρ.set i (.val a_ (.dI (.k kvs))))|some (.cY kvs)=>.ok (.val (.dv (kvs.map (·.1)) (kvs.map (·.2)))) (ρ.set i (.val a_ (.dv (kvs.map (·.1)) (kvs.map (·.2)))))|_=>.stuck:=(rfl)
theorem E2{c d ρ}:ev c (.con d) ρ=.ok (.val d) ρ:=(rfl)
theorem E3{c o a b ρ}:ev c (.bin o a b) ρ=(kJ (isVar a) (ev c a) (isVar b) (ev c b) ρ).bind λe ρ=>lift (uK o e.1 e.2) ρ:=(rfl)
theorem E4{c a ρ}:ev c (.neg a) ρ=(cZ (isVar a) (ev c a) ρ).bind λx ρ=>lift (M8 x) ρ:=(rfl)
theorem E5{c a ρ}:ev c (.not a) ρ=(jV (ev c a) ρ).bind λb ρ=>.ok (.val (.bl (!b))) ρ:=(rfl)
theorem E6{c a b ρ}:ev c (.and a b) ρ=(jV (ev c a) ρ).bind λx ρ=>if x then(jV (ev c b) ρ).bind λy ρ=>.ok (.val (.bl y)) ρ else .ok (.val (.bl a_)) ρ:=(rfl)
theorem E7{c a b ρ}:ev c (.or a b) ρ=(jV (ev c a) ρ).bind λx ρ=>if x then .ok (.val (.bl bT)) ρ else(jV (ev c b) ρ).bind λy ρ=>.ok (.val (.bl y)) ρ:=(rfl)
theorem E8{c o a b ρ}:ev c (.cmp o a b) ρ=(kJ (isVar a) (ev c a) (isVar b) (ev c b) ρ).bind λe ρ=>lift (CP o e.1 e.2) ρ:=(rfl)
theorem E9{c t a b ρ}:ev c (.T4 t a b) ρ=(jV (ev c t) ρ).bind λk ρ=>if k then(ev c a ρ).bind λr ρ=>.ok (.val r.d) ρ else(ev c b ρ).bind λr ρ=>.ok (.val r.d) ρ:=(rfl)
theorem E10{c as ρ}:ev c (.tup as) ρ=(evs c as ρ).bind λa ρ=>.ok (.val (.tup a)) ρ:=(rfl)
theorem E11{c as ρ}:ev c (.lst as) ρ=(evs c as ρ).bind λa ρ=>.ok (.own a) ρ:=(rfl)
theorem E12{c a i ρ}:ev c (.idx a i) ρ=(kJ (isVar a) (ev c a) (isVar i) (ev c i) ρ).bind λb ρ=>lift (Hf b.1 b.2) ρ:=(rfl)
theorem E13{c a l h ρ}:ev c (.slice a l h) ρ=match isVar a with|some i=>(lift (pk ρ i) ρ).bind λ_ ρ=>(cZ (isVar l) (ev c l) ρ).bind λy ρ=>(cZ (isVar h) (ev c h) ρ).bind λz ρ=>(lift (pk ρ i) ρ).bind λx ρ=>lift (Oh x (part l y) (part h z)) ρ|none=>(cZ none (ev c a) ρ).bind λx ρ=>(cZ (isVar l) (ev c l) ρ).bind λy ρ=>(cZ (isVar h) (ev c h) ρ).bind λz ρ=>lift (Oh x (part l y) (part h z)) ρ:=(rfl)
theorem E14{c f as ρ}:ev c (.call f as) ρ=(Az c as ρ).bind λxs ρ=>jE c f xs ρ:=(rfl)
theorem E15{c b a ρ}:ev c (.blt b [a]) ρ=(cZ (isVar a) (ev c a) ρ).bind λx ρ=>lift (blt b [x]) ρ:=(rfl)
theorem E16{c b x y r ρ}:ev c (.blt b (x::y::r)) ρ=(evs c (x::y::r) ρ).bind λa ρ=>lift (blt b a) ρ:=(rfl)
theorem Z9{c b ρ}:ev c (.blt b []) ρ=(evs c [] ρ).bind λa ρ=>lift (blt b a) ρ:=(rfl)
theorem E17{c ts a ρ}:ev c (.inst ts a) ρ=(cZ (isVar a) (ev c a) ρ).bind λx ρ=>.ok (.val (.bl (ts.any λt=>cJ t x))) ρ:=(rfl)
theorem E18{c src n is one test elt ρ}:ev c (.comp src n is one test elt) ρ=(srcOf (isVar src) (ev c src) ρ).bind λe a=>if e.length<=lim then(turns is one (uN c test) (ev c elt) e [] (a++cp n .aM)).bind λxs b=>.ok (.own xs) (aP ρ (isVar src) (b.take a.length))else .stuck:=(rfl)
theorem E19{c a b ρ}:ev c (.uZ a b) ρ=(kJ (isVar a) (ev c a) (isVar b) (ev c b) ρ).bind λe ρ=>lift ((je e.1).bind λi=>(je e.2).bind λj=>if-1000000<=i/\i<=1000000000/\j<=1000000000/\-1000000000<=j then a7 (.val (.lst ((dL (j-i).toNat).map λ(k:Nat)=>D.int (i+(k:Int)))))else none) ρ:=(rfl)
theorem E20{c a b ρ}:ev c (.zip a b) ρ=(ev c a ρ).bind λx ρ=>(ev c b ρ).bind λy ρ=>lift ((items x.d).bind λe=>(items y.d).map λes=>.val (.lst ((e.zip es).map λp=>D.tup [p.1,p.2]))) ρ:=(rfl)
theorem E21{c x k d ρ}:ev c (.XX x k d) ρ=match ρ[x]?with
 |some (.gZ _)=>(cZ (isVar k) (ev c k) ρ).bind λa ρ=>(cZ (isVar d) (ev c d) ρ).bind λdd ρ=>match ρ[x]?with|some (.gZ m)=>lift ((m.get a).bind λo=>(je dd).map λv=>.val (.int (o.getD v))) ρ|_=>.stuck
 |_=>.stuck:=(rfl)
theorem E22{c x ρ}:ev c (.vw x) ρ=match ρ[x]?with|some (.gZ m)=>.ok (.val (.dI m)) (ρ.set x (.val a_ (.dI m)))|some (.cY kvs)=>.ok (.val (.dv (kvs.map (·.1)) (kvs.map (·.2)))) (ρ.set x (.val a_ (.dv (kvs.map (·.1)) (kvs.map (·.2)))))|some (.own b a)=>.ok (.val (.lst a)) (ρ.set x (.val b (.lst a)))|some (.val _ d)=>.ok (.val d) ρ|_=>.stuck:=(rfl)
theorem E23{c x k ρ}:ev c (.T5 x k) ρ=match ρ[x]?with
 |some (.cY _)=>(cZ (isVar k) (ev c k) ρ).bind λa ρ=>match ρ[x]?with|some (.cY kvs)=>lift ((je a).bind λk=>(mQ kvs k).map .val) ρ|_=>.stuck
 |_=>.stuck:=(rfl)
theorem E24{c x k neg ρ}:ev c (.T6 x k neg) ρ=(cZ (isVar k) (ev c k) ρ).bind λa ρ=>match ρ[x]?with|some (.cY kvs)=>lift ((je a).map λk=>.val (.bl (if neg then !(kvs.map (·.1)).contains k else(kvs.map (·.1)).contains k))) ρ|_=>.stuck:=(rfl)
theorem E25{c k e ρ}:ev c (.Dk k e) ρ=.ok (.val (.dv [k] [.int e])) ρ:=(rfl)
theorem E26{c i a n is one test elt ρ}:ev c (.wj i a n is one test elt) ρ=(JG i (ev c a) ρ).bind λf b=>if f.1.length<=lim then(turns is one (uN c test) (ev c elt) f.1 [] (b++cp n .aM)).bind λxs e=>.ok (.own xs) (aP f.2 (a7 i) (e.take b.length))else .stuck:=(rfl)
inductive S where|pass|brk|cont|bad|expr(e:P)|asg(i:Nat)(e:P)|par(i j:Nat)(a b:P)|unp(i:List Nat)(e:P)|Ao(x:Nat)(i e:P)|app(x:Nat)(e:P)|ret(e:P)|ab4|ifs(c:P)(a b:List S)|gQ(src:P)(i:List Nat)(one:Bool)(body:List S)|whl(c:P)(body:List S)|aug(x:Nat)(sub:Bool)(e:P)|NK(x:Nat)(i:P)(sub:Bool)(e:P)|Ij(x:Nat)(e:P)|Aq(k:Nat)|NP(body:List S)(bs:List (Option Bool))|Ik(x:Nat)(t:Bool)|dput(x:Nat)(k e:P)|NQ(x:Nat)(src:P)(k:Nat)(is:List Nat)(one:Bool)(elt:P)|NT(x:Nat)(i e:P)|Il(src:P)(is:List Nat)(one:Bool)(body:List S)|dD(x:Nat)|Im(x:Nat)|Ry(x:Nat)(k e:Int)|iB(x:Nat)(k e:P)deriving Inhabited
inductive Fl where|next|brk|cont|ret(r:R)deriving Inhabited
noncomputable def Cu:R->Sl|.val d=>.val a_ d|.own a=>.own a_ a
noncomputable def jM(is:List Nat)(one:Bool)(body:List Sl->Res Fl):List D->List Sl->Res Fl|[],ρ=>.ok .next ρ|d::r,ρ=>match cA ρ is one d with|none=>.stuck|some ρ=>(body ρ).bind λfl ρ=>match fl with|.next=>jM is one body r ρ|.cont=>jM is one body r ρ|.brk=>.ok .next ρ|.ret r=>.ok (.ret r) ρ
theorem Lw{is:List Nat}{o:Bool}{b:List Sl->Res Fl}{ρ:List Sl}:jM is o b [] ρ=.ok .next ρ:=rfl
theorem CQ{is:List Nat}{o:Bool}{b:List Sl->Res Fl}{d:D}{r:List D}{ρ:List Sl}:jM is o b (d::r) ρ=match cA ρ is o d with|none=>.stuck|some ρ=>(b ρ).bind λfl ρ=>match fl with|.next=>jM is o b r ρ|.cont=>jM is o b r ρ|.brk=>.ok .next ρ|.ret r=>.ok (.ret r) ρ:=rfl
noncomputable def rY(a:List Sl->Res Bool)(body:List Sl->Res Fl):Nat->List Sl->Res Fl|0,_=>.stuck|n+1,ρ=>(a ρ).bind λb ρ=>if b then(body ρ).bind λfl ρ=>match fl with|.next=>rY a body n ρ|.cont=>rY a body n ρ|.brk=>.ok .next ρ|.ret r=>.ok (.ret r) ρ else .ok .next ρ
theorem V6{f:List Sl->Res Bool}{b:List Sl->Res Fl}{ρ:List Sl}:rY f b 0 ρ=.stuck:=rfl
theorem Nr{f:List Sl->Res Bool}{b:List Sl->Res Fl}{n:Nat}{ρ:List Sl}:rY f b (n+1) ρ=(f ρ).bind λx ρ=>if x then(b ρ).bind λfl ρ=>match fl with|.next=>rY f b n ρ|.cont=>rY f b n ρ|.brk=>.ok .next ρ|.ret r=>.ok (.ret r) ρ else .ok .next ρ:=rfl
noncomputable def iI(is:List Nat)(one:Bool)(b:Ev):List D->List (List D)->List Sl->Res (List (List D))|[],a,ρ=>.ok a ρ|d::r,a,ρ=>match cA ρ is one d with|none=>.stuck|some ρ=>(b ρ).bind λx ρ=>match x with|.own c=>iI is one b r (a++[c]) ρ|.val _=>.stuck
theorem JM{is:List Nat}{o:Bool}{e:Ev}{a:List (List D)}{ρ:List Sl}:iI is o e [] a ρ=.ok a ρ:=rfl
theorem J7{is:List Nat}{o:Bool}{e:Ev}{d:D}{r:List D}{a:List (List D)}{ρ:List Sl}:iI is o e (d::r) a ρ=match cA ρ is o d with|none=>.stuck|some ρ=>(e ρ).bind λx ρ=>match x with|.own b=>iI is o e r (a++[b]) ρ|.val _=>.stuck:=rfl
noncomputable def rowAt(a:List (List D))(k:Int):Option (List D):=(jm a.length k).bind λr=>a[r]?
noncomputable def lu(a:List (List D))(k:Int)(f:List D->Option (List D)):Option (List (List D)):=(jm a.length k).bind λr=>(a[r]?).bind λrow=>(f row).map λb=>a.set r b
noncomputable def setAt(l:Int)(d:D)(row:List D):Option (List D):=(jm row.length l).map λm=>row.set m d
noncomputable def jU(ρ:List Sl)(x:Nat):Option (List (List D)):=match ρ[x]?with|some (.hold a)=>a7 a|_=>none
noncomputable def xR(ρ:List Sl)(x:Nat)(k:D):Option (List D):=(jU ρ x).bind λa=>(je k).bind λk=>rowAt a k
noncomputable def Hs(ρ:List Sl)(x:Nat)(o:Option (List (List D))):Res Fl:=match o with|some a=>.ok .next (ρ.set x (.hold a))|none=>.stuck
noncomputable def rowOne(x r:Nat)(b c e:List Sl->Res D)(ρ:List Sl):Res Fl:=(c ρ).bind λk ρ=>(lift ((jU ρ x).bind λa=>(a[r]?).bind λrow=>(je k).bind λk=>(at' row k).bind je) ρ).bind λu ρ=>(e ρ).bind λl ρ=>(lift ((jU ρ x).bind λa=>(a[r]?).bind λrow=>(je l).bind λl=>(at' row l).bind je) ρ).bind λv ρ=>(b ρ).bind λj ρ=>Hs ρ x ((jU ρ x).bind λa=>(a[r]?).bind λrow=>(je j).bind λj=>(setAt j (.int (u+v)) row).map λf=>a.set r f)
noncomputable def Xw(x y:Nat)(a b c:List Sl->Res D):Nat->Nat->List Sl->Res Fl|0,_,ρ=>.ok .next ρ|m+1,r,ρ=>(lift (put ρ y .aM) ρ).bind λρ _=>(rowOne x r a b c ρ).bind λ_ ρ=>Xw x y a b c m (r+1) ρ
noncomputable def xm(is:List Nat)(one:Bool)(body:List Sl->Res Fl)(b:List Sl->Option (Nat×List Sl)):List D->List Sl->Option (Nat×List Sl)|[],_=>none|d::r,ρ=>match cA ρ is one d with|none=>none|some ρ=>match b ρ with|some x=>a7 x|none=>match body ρ with|.ok .next a=>xm is one body b r a|.ok .cont a=>xm is one body b r a|_=>none
noncomputable def Xc(a:List Sl->Res Bool)(body:List Sl->Res Fl)(e:List Sl->Option (Nat×List Sl)):Nat->List Sl->Option (Nat×List Sl)|0,_=>none|n+1,ρ=>match a ρ with
   |.ok bT c=>match e c with|some x=>a7 x|none=>match body c with|.ok .next b=>Xc a body e n b|.ok .cont b=>Xc a body e n b|_=>none
   |_=>none
noncomputable def mV:P->P|.idx a _=>a|.blt .sum [.comp s _ _ _ _ _]=>s|e=>e
noncomputable def R9:Sl->Bool|.aM=>bT|.val b _=>!b|.own b _=>!b|.lent _=>a_|.gZ _=>bT|.hold _=>a_|.cY _=>bT
noncomputable def iu(c:Call)(e:P)(ρ:List Sl):Option (Nat×List Sl):=match mV e with
 |.call f as=>match Az c as ρ with
   |.ok xs b=>match bV b xs []with
     |some args=>match c f args with|.exc k a=>a7 (k,fK xs a 0 b)|_=>none
     |none=>none
   |_=>none
 |_=>none
mutual
noncomputable def ex(c:Call)(n:Nat):S->List Sl->Res Fl
 |.pass,ρ=>.ok .next ρ|.brk,ρ=>.ok .brk ρ|.cont,ρ=>.ok .cont ρ|.bad,_=>.stuck|.expr e,ρ=>(ev c e ρ).bind λ_ ρ=>.ok .next ρ|.asg i e,ρ=>(ev c e ρ).bind λr ρ=>(lift (put ρ i (Cu r)) ρ).bind λh _=>.ok .next h|.par i j a b,ρ=>(ev c a ρ).bind λx ρ=>(ev c b ρ).bind λy ρ=>(lift ((put ρ i (.val a_ x.d)).bind λρ=>put ρ j (.val a_ y.d)) ρ).bind λh _=>.ok .next h|.unp is e,ρ=>(ev c e ρ).bind λr ρ=>match r.d with|.tup g=>(lift (putAll ρ is g) ρ).bind λh _=>.ok .next h|_=>.stuck
 |.Ao x i e,ρ=>(ev c e ρ).bind λr ρ=>(lift (pk ρ x) ρ).bind λ_ ρ=>(cZ (isVar i) (ev c i) ρ).bind λk ρ=>match ρ[x]?,k with
   |some (.own b g),.int k=>match jm g.length k with|some j=>.ok .next (ρ.set x (.own b (g.set j r.d)))|none=>.stuck
   |_,_=>.stuck
 |.app x e,ρ=>(lift (Cp ρ x) ρ).bind λ_ ρ=>(ev c e ρ).bind λr ρ=>match ρ[x]?with|some (.own b g)=>if g.length<lim then .ok .next (ρ.set x (.own b (g++[r.d])))else .stuck|_=>.stuck
 |.ret e,ρ=>match isVar e with
   |some i=>match ρ[i]?with|some (.own a_ g)=>.ok (.ret (.own g)) (ρ.set i .aM)|_=>(ev c e ρ).bind λr ρ=>.ok (.ret r) ρ
   |none=>(ev c e ρ).bind λr ρ=>.ok (.ret r) ρ
 |.ab4,ρ=>.ok (.ret (.val .non)) ρ|.ifs t a b,ρ=>(jV (ev c t) ρ).bind λk ρ=>if k then fW c n a ρ else fW c n b ρ|.gQ src is one body,ρ=>(srcOf (isVar src) (ev c src) ρ).bind λg f=>(jM is one (fW c n body) g f).bind λfl p=>.ok fl (aP ρ (isVar src) p)|.whl t body,ρ=>rY (jV (ev c t)) (fW c n body) n ρ|.aug x sub e,ρ=>(lift (pk ρ x) ρ).bind λa ρ=>(cZ (isVar e) (ev c e) ρ).bind λb ρ=>match a,b with|.int i,.int j=>(lift (put ρ x (.val a_ (.int (if sub then i-j else i+j)))) ρ).bind λh _=>.ok .next h|_,_=>.stuck
 |.NK x i sub e,ρ=>(lift (Cp ρ x) ρ).bind λ_ ρ=>(cZ (isVar i) (ev c i) ρ).bind λk ρ=>(lift (Cp ρ x) ρ).bind λl ρ=>(lift ((je k).bind λi=>at' l i) ρ).bind λa ρ=>(cZ (isVar e) (ev c e) ρ).bind λb ρ=>match a,b,ρ[x]?,k with
   |.int u,.int v,a7 (.own w g),.int k=>match jm g.length k with|some j=>.ok .next (ρ.set x (.own w (g.set j (.int (if sub then u-v else u+v)))))|none=>.stuck
   |_,_,_,_=>.stuck
 |.Ij x e,ρ=>(lift (Cp ρ x) ρ).bind λ_ ρ=>(ev c e ρ).bind λr ρ=>match ρ[x]?,r with|some (.own b g),.own es=>if g.length+es.length<=lim then .ok .next (ρ.set x (.own b (g++es)))else .stuck|_,_=>.stuck
 |.Ik x t,ρ=>match ρ[x]?with|some .aM=>.ok .next (ρ.set x (.gZ (if t then .t []else .k [])))|_=>.stuck
 |.dput x k e,ρ=>(ev c e ρ).bind λr ρ=>match ρ[x]?with
   |some (.gZ _)=>(cZ (isVar k) (ev c k) ρ).bind λq ρ=>match ρ[x]?,r with
     |some (.gZ m),.val (.int v)=>match m.put q v with|some z=>.ok .next (ρ.set x (.gZ z))|none=>.stuck
     |_,_=>.stuck
   |_=>.stuck
 |.Aq _,_=>.stuck|.NP body bs,ρ=>match fX c n body ρ with|some (k,_)=>if ρ.all R9=bT then match bs.getD k none with|some b=>.ok (.ret (.val (.bl b))) (cp ρ.length .aM)|none=>.stuck else .stuck|none=>.stuck
 |.NQ x src k is one s,ρ=>(srcOf (isVar src) (ev c src) ρ).bind λg f=>if g.length<=lim then(iI is one (ev c s) g [] (f++cp k .aM)).bind λo p=>(lift (put (aP ρ (isVar src) (p.take f.length)) x (.hold o)) ρ).bind λh _=>.ok .next h else .stuck|.NT x i e,ρ=>(cZ (isVar i) (ev c i) ρ).bind λk ρ=>(lift (xR ρ x k) ρ).bind λ_ ρ=>(ev c e ρ).bind λr ρ=>Hs ρ x ((jU ρ x).bind λo=>(je k).bind λk=>lu o k λrow=>if row.length<lim then a7 (row++[r.d])else none)|.Il src is one body,ρ=>(ev c src ρ).bind λr f=>(lift (items r.d) f).bind λg f=>jM is one (fW c n body) g f|.dD x,ρ=>match ρ[x]?with|some (.hold o)=>.ok .next (ρ.set x (.val a_ (.lst (o.map D.lst))))|_=>.stuck
 |.Im x,ρ=>match ρ[x]?with|some .aM=>.ok .next (ρ.set x (.cY []))|some (.cY _)=>.ok .next (ρ.set x (.cY []))|some (.val a_ _)=>.ok .next (ρ.set x (.cY []))|_=>.stuck
 |.Ry x k e,ρ=>match ρ[x]?with|some .aM=>.ok .next (ρ.set x (.cY [(k,.int e)]))|some (.cY _)=>.ok .next (ρ.set x (.cY [(k,.int e)]))|some (.val a_ _)=>.ok .next (ρ.set x (.cY [(k,.int e)]))|_=>.stuck
 |.iB x k e,ρ=>(ev c e ρ).bind λr ρ=>match ρ[x]?with
   |some (.cY _)=>(cZ (isVar k) (ev c k) ρ).bind λq ρ=>match ρ[x]?,q with|some (.cY kvs),.int k=>if kvs.length<lim then .ok .next (ρ.set x (.cY (iB kvs k r.d)))else .stuck|_,_=>.stuck
   |_=>.stuck
noncomputable def fW(c:Call)(n:Nat):List S->List Sl->Res Fl|[],ρ=>.ok .next ρ|s::r,ρ=>(ex c n s ρ).bind λfl ρ=>match fl with|.next=>fW c n r ρ|fl=>.ok fl ρ
noncomputable def wF(c:Call)(n:Nat):S->List Sl->Option (Nat×List Sl)
 |.Aq k,ρ=>a7 (k,ρ)|.ifs t a b,ρ=>match jV (ev c t) ρ with|.ok x f=>if x then fX c n a f else fX c n b f|_=>none
 |.gQ src is one body,ρ=>match iu c src ρ with|some x=>a7 x|none=>match srcOf (isVar src) (ev c src) ρ with|.ok g f=>(xm is one (fW c n body) (fX c n body) g f).map λx=>(x.1,aP ρ (isVar src) x.2)|_=>none
 |.ret e,ρ=>iu c e ρ|.asg _ e,ρ=>iu c e ρ|.expr e,ρ=>iu c e ρ|.whl t body,ρ=>Xc (jV (ev c t)) (fW c n body) (fX c n body) n ρ|_,_=>none
noncomputable def fX(c:Call)(n:Nat):List S->List Sl->Option (Nat×List Sl)|[],_=>none|s::r,ρ=>match wF c n s ρ with|some x=>a7 x|none=>match ex c n s ρ with|.ok .next a=>fX c n r a|_=>none
end
theorem X1{c n ρ}:ex c n (.pass) ρ=.ok .next ρ:=(rfl)
theorem X2{c n ρ}:ex c n (.brk) ρ=.ok .brk ρ:=(rfl)
theorem X3{c n ρ}:ex c n (.cont) ρ=.ok .cont ρ:=(rfl)
theorem X4{c n ρ}:ex c n (.bad) ρ=.stuck:=(rfl)
theorem X5{c n e ρ}:ex c n (.expr e) ρ=(ev c e ρ).bind λ_ ρ=>.ok .next ρ:=(rfl)
theorem X6{c n i e ρ}:ex c n (.asg i e) ρ=(ev c e ρ).bind λr ρ=>(lift (put ρ i (Cu r)) ρ).bind λa _=>.ok .next a:=(rfl)
theorem X7{c n i j a b ρ}:ex c n (.par i j a b) ρ=(ev c a ρ).bind λx ρ=>(ev c b ρ).bind λy ρ=>(lift ((put ρ i (.val a_ x.d)).bind λρ=>put ρ j (.val a_ y.d)) ρ).bind λe _=>.ok .next e:=(rfl)
theorem X8{c n is e ρ}:ex c n (.unp is e) ρ=(ev c e ρ).bind λr ρ=>match r.d with|.tup b=>(lift (putAll ρ is b) ρ).bind λa _=>.ok .next a|_=>.stuck:=(rfl)
theorem X9{c n x i e ρ}:ex c n (.Ao x i e) ρ=(ev c e ρ).bind λr ρ=>(lift (pk ρ x) ρ).bind λ_ ρ=>(cZ (isVar i) (ev c i) ρ).bind λk ρ=>match ρ[x]?,k with
 |some (.own b a),.int k=>match jm a.length k with|some j=>.ok .next (ρ.set x (.own b (a.set j r.d)))|none=>.stuck
 |_,_=>.stuck:=(rfl)
theorem X10{c n x e ρ}:ex c n (.app x e) ρ=(lift (Cp ρ x) ρ).bind λ_ ρ=>(ev c e ρ).bind λr ρ=>match ρ[x]?with|some (.own b a)=>if a.length<lim then .ok .next (ρ.set x (.own b (a++[r.d])))else .stuck|_=>.stuck:=(rfl)
theorem X11{c n e ρ}:ex c n (.ret e) ρ=match isVar e with
 |some i=>match ρ[i]?with|some (.own a_ a)=>.ok (.ret (.own a)) (ρ.set i .aM)|_=>(ev c e ρ).bind λr ρ=>.ok (.ret r) ρ
 |none=>(ev c e ρ).bind λr ρ=>.ok (.ret r) ρ:=(rfl)
theorem X12{c n ρ}:ex c n (.ab4) ρ=.ok (.ret (.val .non)) ρ:=(rfl)
theorem X13{c n t a b ρ}:ex c n (.ifs t a b) ρ=(jV (ev c t) ρ).bind λk ρ=>if k then fW c n a ρ else fW c n b ρ:=(rfl)
theorem X14{c n src is one body ρ}:ex c n (.gQ src is one body) ρ=(srcOf (isVar src) (ev c src) ρ).bind λe a=>(jM is one (fW c n body) e a).bind λfl b=>.ok fl (aP ρ (isVar src) b):=(rfl)
theorem X15{c n t body ρ}:ex c n (.whl t body) ρ=rY (jV (ev c t)) (fW c n body) n ρ:=(rfl)
theorem X16{c n x sub e ρ}:ex c n (.aug x sub e) ρ=(lift (pk ρ x) ρ).bind λa ρ=>(cZ (isVar e) (ev c e) ρ).bind λb ρ=>match a,b with|.int i,.int j=>(lift (put ρ x (.val a_ (.int (if sub then i-j else i+j)))) ρ).bind λf _=>.ok .next f|_,_=>.stuck:=(rfl)
theorem X17{c n x i sub e ρ}:ex c n (.NK x i sub e) ρ=(lift (Cp ρ x) ρ).bind λ_ ρ=>(cZ (isVar i) (ev c i) ρ).bind λk ρ=>(lift (Cp ρ x) ρ).bind λl ρ=>(lift ((je k).bind λi=>at' l i) ρ).bind λa ρ=>(cZ (isVar e) (ev c e) ρ).bind λb ρ=>match a,b,ρ[x]?,k with
 |.int u,.int v,a7 (.own g f),.int k=>match jm f.length k with|some j=>.ok .next (ρ.set x (.own g (f.set j (.int (if sub then u-v else u+v)))))|none=>.stuck
 |_,_,_,_=>.stuck:=(rfl)
theorem X18{c n x e ρ}:ex c n (.Ij x e) ρ=(lift (Cp ρ x) ρ).bind λ_ ρ=>(ev c e ρ).bind λr ρ=>match ρ[x]?,r with|some (.own b a),.own es=>if a.length+es.length<=lim then .ok .next (ρ.set x (.own b (a++es)))else .stuck|_,_=>.stuck:=(rfl)
theorem X19{c n x t ρ}:ex c n (.Ik x t) ρ=match ρ[x]?with|some .aM=>.ok .next (ρ.set x (.gZ (if t then .t []else .k [])))|_=>.stuck:=(rfl)
theorem X20{c n x k e ρ}:ex c n (.dput x k e) ρ=(ev c e ρ).bind λr ρ=>match ρ[x]?with
 |some (.gZ _)=>(cZ (isVar k) (ev c k) ρ).bind λa ρ=>match ρ[x]?,r with
   |some (.gZ m),.val (.int v)=>match m.put a v with|some b=>.ok .next (ρ.set x (.gZ b))|none=>.stuck
   |_,_=>.stuck
 |_=>.stuck:=(rfl)
theorem X21{c n w1 ρ}:ex c n (.Aq w1) ρ=.stuck:=(rfl)
theorem X22{c n body bs ρ}:ex c n (.NP body bs) ρ=match fX c n body ρ with|some (k,_)=>if ρ.all R9=bT then match bs.getD k none with|some b=>.ok (.ret (.val (.bl b))) (cp ρ.length .aM)|none=>.stuck else .stuck|none=>.stuck:=(rfl)
theorem X23{c n x src k is one elt ρ}:ex c n (.NQ x src k is one elt) ρ=(srcOf (isVar src) (ev c src) ρ).bind λg a=>if g.length<=lim then(iI is one (ev c elt) g [] (a++cp k .aM)).bind λe b=>(lift (put (aP ρ (isVar src) (b.take a.length)) x (.hold e)) ρ).bind λf _=>.ok .next f else .stuck:=(rfl)
theorem X24{c n x i e ρ}:ex c n (.NT x i e) ρ=(cZ (isVar i) (ev c i) ρ).bind λk ρ=>(lift (xR ρ x k) ρ).bind λ_ ρ=>(ev c e ρ).bind λr ρ=>Hs ρ x ((jU ρ x).bind λa=>(je k).bind λk=>lu a k λrow=>if row.length<lim then a7 (row++[r.d])else none):=(rfl)
theorem X25{c n src is one body ρ}:ex c n (.Il src is one body) ρ=(ev c src ρ).bind λr a=>(lift (items r.d) a).bind λb a=>jM is one (fW c n body) b a:=(rfl)
theorem X26{c n x ρ}:ex c n (.dD x) ρ=match ρ[x]?with|some (.hold a)=>.ok .next (ρ.set x (.val a_ (.lst (a.map D.lst))))|_=>.stuck:=(rfl)
theorem X27{c n x ρ}:ex c n (.Im x) ρ=match ρ[x]?with|some .aM=>.ok .next (ρ.set x (.cY []))|some (.cY _)=>.ok .next (ρ.set x (.cY []))|some (.val a_ _)=>.ok .next (ρ.set x (.cY []))|_=>.stuck:=(rfl)
theorem X28{c n x k e ρ}:ex c n (.Ry x k e) ρ=match ρ[x]?with|some .aM=>.ok .next (ρ.set x (.cY [(k,.int e)]))|some (.cY _)=>.ok .next (ρ.set x (.cY [(k,.int e)]))|some (.val a_ _)=>.ok .next (ρ.set x (.cY [(k,.int e)]))|_=>.stuck:=(rfl)
theorem X29{c n x k e ρ}:ex c n (.iB x k e) ρ=(ev c e ρ).bind λr ρ=>match ρ[x]?with
 |some (.cY _)=>(cZ (isVar k) (ev c k) ρ).bind λa ρ=>match ρ[x]?,a with|some (.cY kvs),.int k=>if kvs.length<lim then .ok .next (ρ.set x (.cY (iB kvs k r.d)))else .stuck|_,_=>.stuck
 |_=>.stuck:=(rfl)
structure Fd where
 np:Nat
 nn:Nat
 body:List S deriving Inhabited
noncomputable abbrev Tab:=Nat->Option Fd
noncomputable def enter(c:Call)(n:Nat)(d:Fd)(args:List Sl):Res R:=if args.length=d.np/\d.np<=d.nn then match fW c n d.body (args++cp (d.nn-d.np) .aM)with|.ok .next ρ=>.ok (.val .non) (ρ.take d.np)|.ok (.ret r) ρ=>.ok r (ρ.take d.np)|_=>match fX c n d.body (args++cp (d.nn-d.np) .aM)with|some (k,ρ)=>.exc k (ρ.take d.np)|none=>.stuck else .stuck
noncomputable def run(Γ:Tab)(w:Nat):Nat->Call|0,_,_=>.stuck|n+1,f,args=>match Γ f with|some d=>enter (run Γ w n) w d args|none=>.stuck
end _H
section
namespace _H
open PySem _L
variable{ρ:List Sl}{σ:St}{v:V}
noncomputable def Dc.ho:Dc->HO|.k kvs=>.dK (kvs.map λp=>(dA p.1,V.int p.2))|.t kvs=>.dT (kvs.map λp=>(p.1.map dA,V.int p.2))
noncomputable def Eb(ks:List Int)(vs:List V):HO:=.dK ((ks.zip vs).map λp=>(dA p.1,p.2))
section
variable(K:PySem.W.Frag)
mutual
noncomputable def Rep(F:Hp):V->D->Prop|v,.non=>v=.non|v,.bl b=>v=.bl b|v,.int i=>v=.int i|v,.str x=>v=.str x|v,.tup c=>∃a xs,v=.ref a/\mq K F a xs/\aH F xs c|v,.lst c=>∃a xs,v=.ref a/\gF K F a xs/\aH F xs c|v,.dI m=>∃a o,v=.ref a/\F a=a7 (.dD o m.ho)|v,.dv ks c=>∃a o vs,v=.ref a/\F a=a7 (.dD o (Eb ks vs))/\aH F vs c/\ks.length=c.length
noncomputable def aH(F:Hp):List V->List D->Prop|vs,[]=>vs=[]|vs,d::a=>∃v r,vs=v::r/\Rep F v d/\aH F r a
end
end
section
variable{K:PySem.W.Frag}{F F' H H':Hp}
theorem aD.jo{a:ce}{xs:List V}(e:aD H H')(h:mq K H a xs):mq K H' a xs:=by
 rcases h with(h|⟨o,h⟩)|h;.exact .inl (.inl (e _ _ h))
 .exact .inl (.inr ⟨o,e _ _ h⟩)
 .exact .inr h
mutual
theorem Rep.mono(e:aD F F'):∀{d:D}{v:V},Rep K F v d->Rep K F' v d|.non,_,h=>by rw[Rep]at h ⊢;exact h|.bl _,_,h=>by rw[Rep]at h ⊢;exact h|.int _,_,h=>by rw[Rep]at h ⊢;exact h|.str _,_,h=>by rw[Rep]at h ⊢;exact h|.tup b,_,h=>by rw[Rep]at h ⊢;obtain⟨a,xs,rfl,hs,r⟩:=h;exact⟨a,xs,rfl,aD.jo e hs,aH.mono e r⟩|.lst b,_,h=>by rw[Rep]at h ⊢;obtain⟨a,xs,rfl,hs,r⟩:=h;exact⟨a,xs,rfl,e.seq hs,aH.mono e r⟩|.dI m,_,h=>by rw[Rep]at h ⊢;obtain⟨a,o,rfl,hs⟩:=h;exact⟨a,o,rfl,e _ _ hs⟩|.dv ks b,_,h=>by rw[Rep]at h ⊢;obtain⟨a,o,vs,rfl,hs,r,c⟩:=h;exact⟨a,o,vs,rfl,e _ _ hs,aH.mono e r,c⟩theorem aH.mono(e:aD F F'):∀{a:List D}{vs:List V},aH K F vs a->aH K F' vs a|[],_,h=>by rw[aH]at h ⊢;exact h|d::a,_,h=>by rw[aH]at h ⊢;obtain⟨v,r,rfl,h1,b⟩:=h;exact⟨v,r,rfl,Rep.mono e h1,aH.mono e b⟩end
theorem aH.nil:aH K F [] []:=by rw[aH]
theorem aH.cons{v:V}{d:D}{vs:List V}{a:List D}(h:Rep K F v d)(t:aH K F vs a):aH K F (v::vs) (d::a):=by rw[aH];exact⟨v,vs,rfl,h,t⟩
theorem aH.cL{vs:List V}{d:D}{a:List D}(h:aH K F vs (d::a)):∃v r,vs=v::r/\Rep K F v d/\aH K F r a:=by rw[aH]at h;exact h
theorem aH.gV{vs:List V}(h:aH K F vs []):vs=[]:=by rw[aH]at h;exact h
theorem aH.length:∀{a:List D}{vs:List V},aH K F vs a->vs.length=a.length|[],_,h=>by rw[h.gV];rfl|d::a,_,h=>by obtain⟨v,r,rfl,_,t⟩:=h.cL;simp[aH.length t]
theorem aH.get:∀{a:List D}{vs:List V}{i:Nat}{d:D},aH K F vs a->a[i]?=a7 d->∃v,vs[i]?=a7 v/\Rep K F v d|[],_,_,_,h,e=>by simp at e|d::a,_,0,_,h,e=>by obtain⟨v,r,rfl,h1,t⟩:=h.cL;simp at e;subst e;exact⟨v,rfl,h1⟩|d::a,_,i+1,_,h,e=>by obtain⟨v,r,rfl,_,t⟩:=h.cL;simp at e;obtain⟨w,b,c⟩:=t.get e;exact⟨w,by simpa using b,c⟩
theorem aH.append:∀{a es:List D}{vs b:List V},aH K F vs a->aH K F b es->aH K F (vs++b) (a++es)|[],_,_,_,h,h'=>by rw[h.gV];exact h'|d::a,_,_,_,h,h'=>by obtain⟨v,r,rfl,h1,t⟩:=h.cL;exact .cons h1 (t.append h')
theorem aH.set{v:V}{d:D}(hr:Rep K F v d):∀{a:List D}{vs:List V}(i:Nat),aH K F vs a->aH K F (vs.set i v) (a.set i d)|[],_,_,h=>by rw[h.gV];exact .nil|_::_,_,0,h=>by obtain⟨w,r,rfl,h1,t⟩:=h.cL;exact .cons hr t|_::_,_,i+1,h=>by obtain⟨w,r,rfl,h1,t⟩:=h.cL;exact .cons h1 (aH.set hr i t)
theorem aH.take:∀{a:List D}{vs:List V}(n:Nat),aH K F vs a->aH K F (vs.take n) (a.take n)|[],_,n,h=>by rw[h.gV];simpa using aH.nil|_::_,_,0,h=>.nil|_::_,_,n+1,h=>by obtain⟨w,r,rfl,h1,t⟩:=h.cL;exact .cons h1 (t.take n)
theorem aH.drop:∀{a:List D}{vs:List V}(n:Nat),aH K F vs a->aH K F (vs.drop n) (a.drop n)|[],_,n,h=>by rw[h.gV];simpa using aH.nil|_::_,_,0,h=>h|_::_,_,n+1,h=>by obtain⟨w,r,rfl,h1,t⟩:=h.cL;exact t.drop n
theorem aH.rep{a:List D}{vs:List V}(h:aH K F vs a):∀n,aH K F (cp n vs).flatten (cp n a).flatten|0=>by simpa using aH.nil|n+1=>by simpa[fj]using h.append (aH.rep h n)
inductive Oc where|l(ds:List D)|d(m:Dc)|v(kvs:List (Int×D))
noncomputable def lst?:Sl->Option Oc|.own _ a=>a7 (.l a)|.lent a=>a7 (.l a)|.gZ m=>a7 (.d m)|.cY kvs=>a7 (.v kvs)|_=>none
noncomputable def mF(K:PySem.W.Frag)(F:Hp)(o:HO):Oc->Prop|.l a=>∃xs,o=.lst xs/\aH K F xs a|.d m=>o=m.ho|.v kvs=>∃vs,o=Eb (kvs.map (·.1)) vs/\aH K F vs (kvs.map (·.2))
theorem mF.mono{o:HO}{x:Oc}(e:aD F F')(h:mF K F o x):mF K F' o x:=by cases x with|l b=>obtain⟨xs,a,h⟩:=h;exact⟨xs,a,h.mono e⟩|d m=>exact h|v kvs=>obtain⟨xs,a,h⟩:=h;exact⟨xs,a,h.mono e⟩
noncomputable def aQ(ρ:List Sl)(σ:St)(i:Nat)(a:ce):Prop:=(∃s b,ρ[i]?=a7 s/\lst? s=a7 b)/\σ[i]?=a7 (a7 (V.ref a))
noncomputable def Own(ρ:List Sl)(σ:St)(a:ce):Prop:=∃i,aQ ρ σ i a
structure GS(K:PySem.W.Frag)(F:Hp)(ρ:List Sl)(σ:St)(H:Hp):Prop where
 sub:aD F H
 len:ρ.length=σ.length
 val:∀(i:Nat)(b:Bool)(d:D),ρ[i]?=a7 (Sl.val b d)->∃v:V,σ[i]?=a7 (a7 v)/\Rep K F v d
 own:∀(i:Nat)(s:Sl)(ds:Oc),ρ[i]?=a7 s->lst? s=a7 ds->∃(a:ce)(xs:HO),σ[i]?=a7 (a7 (V.ref a))/\H a=a7 xs/\F a=none/\mF K F xs ds
 dis:∀(i j:Nat)(a:ce),aQ ρ σ i a->aQ ρ σ j a->i=j
theorem GS.mZ(g:GS K F ρ σ H)(i:Nat)(s:Sl)(b:List D)(e:ρ[i]?=a7 s)(c:lst? s=a7 (.l b)):∃(a:ce)(xs:List V),σ[i]?=a7 (a7 (V.ref a))/\H a=a7 (.lst xs)/\F a=none/\aH K F xs b:=by obtain⟨a,o,h1,f,h,xs,rfl,j⟩:=g.own i s (.l b) e c;exact⟨a,xs,h1,f,h,j⟩
noncomputable def uL:Sl->Bool|.val b _=>b|.own b _=>b|.lent _=>bT|.aM=>a_|.gZ _=>a_|.cY _=>a_|.hold _=>bT
noncomputable def ou:Sl->Sl->Prop|.val bT d,s=>s=.val bT d|.own bT _,s=>(∃a,s=.own bT a)\/∃d,s=.val bT d|.lent a,s=>s=.lent a|.hold a,s=>s=.hold a|_,_=>True
theorem ou.refl(s:Sl):ou s s:=by unfold ou;split<;>first|rfl|exact .inl ⟨_,rfl⟩|trivial
theorem ou.uL{s a:Sl}(h:ou s a)(l:uL s=bT):_H.uL a=bT:=by cases s with
 |aM=>cases l|gZ _=>cases l|cY _=>cases l|val b d=>cases b with|true=>cases h;rfl|false=>cases l
 |own b d=>cases b with|true=>rcases h with⟨_,rfl⟩|⟨_,rfl⟩<;>rfl|false=>cases l
 |lent d=>cases h;rfl|hold d=>cases h;rfl
theorem ou.trans{s c a:Sl}(l:_H.uL s=bT)(h:ou s c)(h':ou c a):ou s a:=by cases s with
 |aM=>cases l|gZ _=>cases l|cY _=>cases l|val b d=>cases b with|true=>cases h;exact h'|false=>cases l
 |own b d=>cases b with
   | true => rcases h with⟨_,rfl⟩|⟨d,rfl⟩;.exact h'
             .exact .inr ⟨d,h'⟩|false=>cases l
 |lent d=>cases h;exact h'|hold d=>cases h;exact h'
noncomputable def nt:Option HO->Option HO|some (.tup _)=>none|o=>o
theorem lK{o:Option HO}(h:o=none):nt o=none:=by rw[h];rfl
theorem Mt{H:Hp}{b:ce}{xs:List V}(h:H b=a7 (.lst xs))(z:nt (H b)=none):False:=by rw[h]at z;cases z
theorem Kq{o:HO}{x:Oc}(h:mF K F o x)(z:nt (a7 o)=none):False:=by cases x with|l a=>obtain⟨xs,rfl,_⟩:=h;cases z|d m=>cases m<;>(cases(show o=_ from h);cases z)|v kvs=>obtain⟨xs,rfl,_⟩:=h;cases z
structure aq(K:PySem.W.Frag)(F:Hp)(ρ:List Sl)(σ:St)(H:Hp)(F':Hp)(ρ':List Sl)(σ':St)(H':Hp):Prop where
 gs:GS K F' ρ' σ' H'
 bY:aD F F'
 yK:∀b,F b=none->F' b≠none->Own ρ σ b\/nt (H b)=none
 keep:∀b o,H b=a7 o->¬ Own ρ σ b->H' b=a7 o
 yL:∀b,Own ρ' σ' b->Own ρ σ b\/H b=none
 len:ρ'.length=ρ.length
 lk:∀(i:Nat)(s:Sl),ρ[i]?=a7 s->uL s=bT->σ'[i]?=σ[i]?/\∃s',ρ'[i]?=a7 s'/\ou s s'
theorem aq.refl{ρ:List Sl}{σ:St}(g:GS K F ρ σ H):aq K F ρ σ H F ρ σ H:=⟨g,aD.refl _,λb h h'=>absurd h h',λ_ _ h _=>h,λ_ h=>.inl h,rfl,λi s h _=>⟨rfl,s,h,.refl s⟩⟩
theorem aq.trans{F1 p m r:Hp}{ρ f j:List Sl}{σ g k:St}(a:aq K F ρ σ H F1 f g m)(b:aq K F1 f g m p j k r):aq K F ρ σ H p j k r:=by
 have back:∀c,Own f g c\/m c=none->Own ρ σ c\/H c=none:=λc h=>by
  rcases h with h|h;.exact a.yL c h
  . by_cases ho:Own ρ σ c;.exact .inl ho
    .right;cases e:H c with|none=>rfl|some o=>rw[a.keep c o e ho]at h;cases h
 refine⟨b.gs,a.bY.trans b.bY,λc h h'=>?_,λc o h n=>?_,λc h=>back c (b.yL c h),b.len.trans a.len,λi s h l=>?_⟩
 . by_cases e:F1 c=none
   . by_cases ho:Own ρ σ c;.exact .inl ho
     . rcases b.yK c e h' with z|z;.exact(back c (.inl z)).imp id lK
       .right;cases q:H c with|none=>rfl|some o=>rw[a.keep c o q ho]at z;exact z
   .exact a.yK c h e
 . refine b.keep c o (a.keep c o h n) λh'=>?_;rcases a.yL c h' with h'|h';.exact n h'
   .rw[h]at h';cases h'
 .obtain⟨t,s1,h1,k1⟩:=a.lk i s h l;obtain⟨u,s2,w,k2⟩:=b.lk i s1 h1 (k1.uL l);exact⟨u.trans t,s2,w,.trans l k1 k2⟩
noncomputable def fH(K:PySem.W.Frag)(F H:Hp)(v:V)(d:D):Prop:=Rep K F v d\/∃a xs b,v=.ref a/\H a=a7 (.lst xs)/\aH K F xs b/\d=.lst b
noncomputable def di(K:PySem.W.Frag)(F':Hp)(b:List Sl)(σ':St)(H':Hp)(ρ:List Sl)(σ:St)(H:Hp)(v:V):R->Prop|.val d=>Rep K F' v d|.own c=>∃a xs,v=.ref a/\H' a=a7 (.lst xs)/\F' a=none/\aH K F' xs c/\¬ Own b σ' a/\(Own ρ σ a\/H a=none)
theorem aD.cI{F:Hp}{a:ce}{o:HO}(h:F a=none):aD F (upd F a o):=λb u e=>by
 have:b≠a:=by rintro rfl;rw[h]at e;cases e
 rw[aA this];exact e
theorem aq.dD{c:List Sl}{σ':St}{r:R}(s:aq K F ρ σ H F' c σ' H')(h:di K F' c σ' H' ρ σ H v r):∃f,aq K F ρ σ H f c σ' H'/\aD F' f/\Rep K f v r.d:=by cases r with|val d=>exact⟨F',s,.refl _,h⟩|own q=>
   obtain⟨a,xs,rfl,h1,t,u,w,x⟩:=h;have sm:aD F' (upd F' a (.lst xs)):=aD.cI t;refine⟨upd F' a (.lst xs),⟨⟨λb o e=>?_,s.gs.len,λi b d e=>?_,λi sl j e m=>?_,s.gs.dis⟩,s.bY.trans sm,λb n p=>?_,s.keep,s.yL,s.len,s.lk⟩,sm,?_⟩
   . by_cases g:b=a;.subst g;rw[aL]at e;cases e;exact h1
     .rw[aA g]at e;exact s.gs.sub b o e
   .obtain⟨v,k,l⟩:=s.gs.val i b d e;exact⟨v,k,l.mono sm⟩
   . obtain⟨b,ys,k,l,y,z⟩:=s.gs.own i sl j e m;have g:b≠a:=by rintro rfl;exact w ⟨i,⟨sl,j,e,m⟩,k⟩
     exact⟨b,ys,k,l,by rw[aA g];exact y,z.mono sm⟩
   . by_cases g:b=a;.subst g;exact x.imp id lK
     .rw[aA g]at p;exact s.yK b n p
   .show Rep K _ _ (.lst q);rw[Rep];exact⟨a,xs,rfl,gF.of aL,u.mono sm⟩
theorem GS.pk{ρ:List Sl}{σ:St}{i:Nat}{d:D}(g:GS K F ρ σ H)(e:_H.pk ρ i=a7 d):∃v:V,σ[i]?=a7 (a7 v)/\fH K F H v d:=by
 unfold _H.pk at e;split at e;.rename_i b d' h;cases e;obtain⟨v,h1,c⟩:=g.val i b d h;exact⟨v,h1,.inl c⟩
 .rename_i b f h;cases e;obtain⟨a,xs,h1,c,k,j⟩:=g.mZ i _ f h rfl;exact⟨.ref a,h1,.inr ⟨a,xs,f,rfl,c,j,rfl⟩⟩
 .rename_i f h;cases e;obtain⟨a,xs,h1,c,k,j⟩:=g.mZ i _ f h rfl;exact⟨.ref a,h1,.inr ⟨a,xs,f,rfl,c,j,rfl⟩⟩
 .cases e
structure Ext(F H F' H':Hp):Prop where
 hs:aD H H'
 fs:aD F F'
 sub:aD F' H'
 gr:∀b,F b=none->F' b≠none->nt (H b)=none
theorem Ext.refl(h:aD F H):Ext F H F H:=⟨.refl _,.refl _,h,λ_ a b=>absurd a b⟩
theorem Ext.stp(g:GS K F ρ σ H)(e:Ext F H F' H'):aq K F ρ σ H F' ρ σ H':=by
 refine⟨⟨e.sub,g.len,λi b d h=>?_,λi s j h h'=>?_,g.dis⟩,e.fs,λb n k=>.inr (e.gr b n k),λb o h _=>e.hs b o h,λ_ h=>.inl h,rfl,λi s h _=>⟨rfl,s,h,.refl s⟩⟩;.obtain⟨v,h1,c⟩:=g.val i b d h;exact⟨v,h1,c.mono e.fs⟩
 .obtain⟨a,xs,h1,c,l,f⟩:=g.own i s j h h';refine⟨a,xs,h1,e.hs _ _ c,?_,f.mono e.fs⟩;cases q:F' a with|none=>rfl|some o=>have:=e.gr a l (by rw[q];simp);rw[c]at this;exact(Kq f this).elim
noncomputable def cM(K:PySem.W.Frag)(F' H' H:Hp)(v:V):R->Prop|.val d=>Rep K F' v d|.own b=>∃a xs,v=.ref a/\H' a=a7 (.lst xs)/\F' a=none/\aH K F' xs b/\H a=none
theorem cM.uo{r:R}(g:GS K F ρ σ H)(h:cM K F' H' H v r):di K F' ρ σ H' ρ σ H v r:=by cases r with|val d=>exact h|own p=>obtain⟨a,xs,rfl,h1,l,m,f⟩:=h;refine⟨a,xs,rfl,h1,l,m,?_,.inr f⟩;rintro⟨i,⟨s,c,e,n⟩,o⟩;obtain⟨b,ys,j,k,_⟩:=g.own i s c e n;rw[o]at j;cases j;rw[f]at k;cases k
theorem di.later{F1 j k l:Hp}{c f:List Sl}{g i:St}{r:R}(a:aq K F ρ σ H F1 c g j)(h:di K k f i l c g j v r):di K k f i l ρ σ H v r:=by cases r with|val d=>exact h|own q=>
   obtain⟨b,xs,rfl,h1,m,n,p,h5⟩:=h;refine⟨b,xs,rfl,h1,m,n,p,?_⟩;rcases h5 with h5|h5;.exact a.yL b h5
   . by_cases ho:Own ρ σ b;.exact .inl ho
     .right;cases e:H b with|none=>rfl|some o=>rw[a.keep b o e ho]at h5;cases h5
end
end _H
end
namespace _H
open PySem _L Spec PyProof.Rows
variable{ρ' ρ ρ₀:List Sl}{es:List dc}{K:PySem.W.Frag}{F H H₀:Hp}{σ:_L.St}{i n:Nat}{ds:List D}{x:Str}{v:V}{op:nz}{p':Pos}{as:List Arg}
theorem aa{c e:Type}{x:Res c}{f:c->List Sl->Res e}{b:e}(h:x.bind f=.ok b ρ'):∃a ρ,x=.ok a ρ/\f a ρ=.ok b ρ':=by cases x with|ok a ρ=>exact⟨a,ρ,rfl,h⟩|exc _ _=>cases h|stuck=>cases h
theorem aF{c:Type}{o:Option c}{a:c}(h:lift o ρ=.ok a ρ'):o=a7 a/\ρ=ρ':=by cases o with|none=>cases h|some b=>cases h;exact⟨rfl,rfl⟩
theorem map_some{c e:Type}{o:Option c}{f:c->e}{b:e}(h:o.map f=a7 b):∃a,o=a7 a/\f a=b:=by cases o with|none=>cases h|some a=>cases h;exact⟨a,rfl,rfl⟩
theorem cH{c e:Type}{o:Option c}{f:c->Option e}{b:e}(h:o.bind f=a7 b):∃a,o=a7 a/\f a=a7 b:=by cases o with|none=>cases h|some a=>exact⟨a,rfl,h⟩
theorem bD{e:Type}{c:Prop}[Decidable c]{a b:e}(h:(if c then a7 a else none)=a7 b):c/\a=b:=by
 split at h;.rename_i hc;cases h;exact⟨hc,rfl⟩
 .cases h
section
variable{X:Cx}{c:Call}{e a b:dc}{p pa pb:P}{pos:Pos}
theorem dN{t t':TE}(h:PE X e t)(i:∀σ H Q,t' σ H Q->t σ H Q):PE X e t':=λf s σ H Q I q=>h f s σ H Q I (i σ H Q q)
theorem yM{t t':TT}(h:PT X e t)(i:∀σ H Q,t' σ H Q->t σ H Q):PT X e t':=λf s σ H Q I q=>h f s σ H Q I (i σ H Q q)
theorem abf{t t':TT}(h:PW X e t)(i:∀σ H Q,t' σ H Q->t σ H Q):PW X e t':=λwh f s σ H Q I q=>h wh f s σ H Q I (i σ H Q q)
theorem uA{t t':TA}(h:PA X es t)(i:∀σ H Q,t' σ H Q->t σ H Q):PA X es t':=λpos f s σ H Q I q=>h pos f s σ H Q I (i σ H Q q)
inductive yI(K:PySem.W.Frag)(f:Ev)(σ:_L.St)(H:Hp)(Q:VK):Prop where|mk(F:Hp)(ρ:List Sl)(r:R)(ρ':List Sl)(g:GS K F ρ σ H)(e:f ρ=.ok r ρ')(k:∀v F' H',aq K F ρ σ H F' ρ' σ H'->di K F' ρ' σ H' ρ σ H v r->Q v H')
inductive Iw(K:PySem.W.Frag)(f:List Sl->Res Bool)(σ:_L.St)(H:Hp)(Q:Bool->Hp->Prop):Prop where|mk(F:Hp)(ρ:List Sl)(b:Bool)(ρ':List Sl)(g:GS K F ρ σ H)(e:f ρ=.ok b ρ')(k:∀F' H',aq K F ρ σ H F' ρ' σ H'->Q b H')
inductive aep(K:PySem.W.Frag)(f:List Sl->Res (List D))(σ:_L.St)(H:Hp)(Q:List V->Hp->Prop):Prop where|mk(F:Hp)(ρ:List Sl)(ds:List D)(ρ':List Sl)(g:GS K F ρ σ H)(e:f ρ=.ok ds ρ')(k:∀vs F' H',aq K F ρ σ H F' ρ' σ H'->aH K F' vs ds->Q vs H')
structure SX(X:Cx)(c:Call)(e:dc)(p:P):Prop where ev:PE X e (yI X.K (_H.ev c p))var:∀i,isVar p=a7 i->PE X e (U0 i)
noncomputable def SA(X:Cx)(c:Call)(es:List dc)(ps:List P):Prop:=PA X es (aep X.K (evs c ps))/\ps.length=es.length
theorem SX.cZ(h:SX X c e p):∃t,PE X e t/\∀{σ:_L.St}{H F:Hp}{ρ ρ':List Sl}{d:D}{Q:VK},GS X.K F ρ σ H->cZ (isVar p) (_H.ev c p) ρ=.ok d ρ'->(∀v j f,aq X.K F ρ σ H j ρ' σ f->fH X.K j f v d->Q v f)->t σ H Q:=by cases hv:isVar p with|none=>refine⟨_,h.ev,λ{σ H F ρ ρ' d Q}g e k=>?_⟩;obtain⟨r,q,l,m⟩:=aa e;cases m;refine⟨F,ρ,r,_,g,l,λv j f s u=>?_⟩;obtain⟨o,w,_,y⟩:=s.dD u;exact k v o f w (.inl y)|some i=>refine⟨_,h.var i hv,λ{σ H F ρ ρ' d Q}g e k=>?_⟩;obtain⟨l,m⟩:=aF e;subst m;obtain⟨v,h1,z⟩:=g.pk l;exact⟨v,h1,k v F H (.refl g) z⟩
theorem SX.kJ(I:SX X c a pa)(M:SX X c b pb):∃J tb,PE X a J/\PE X b tb/\∀{σ:_L.St}{H F:Hp}{ρ ρ':List Sl}{h:D×D}{R:V->V->Hp->Prop},GS X.K F ρ σ H->kJ (isVar pa) (_H.ev c pa) (isVar pb) (_H.ev c pb) ρ=.ok h ρ'->(∀v u t j,aq X.K F ρ σ H t ρ' σ j->fH X.K t j v h.1->fH X.K t j u h.2->R v u j)->J σ H λx w=>tb σ w λy z=>R x y z:=by obtain⟨tb,l,m⟩:=M.cZ;cases hv:isVar pa with|none=>refine⟨_,tb,I.ev,l,λ{σ H F ρ ρ' h R}g e k=>?_⟩;obtain⟨x,A,o,e⟩:=aa e;obtain⟨y,B,f,e⟩:=aa e;cases e;obtain⟨r,L,o,C⟩:=aa o;cases C;refine⟨F,ρ,r,_,g,o,λv t j s N=>?_⟩;obtain⟨F1,s1,_,O⟩:=s.dD N;refine m s1.gs f λu Q z s2 E=>?_;exact k v u Q z (s1.trans s2) (.inl (O.mono s2.bY)) E|some i=>refine⟨_,tb,I.var i hv,l,λ{σ H F ρ ρ' h R}g e k=>?_⟩;obtain⟨x0,U,C,e⟩:=aa e;obtain⟨G,W⟩:=aF C;subst W;obtain⟨y,A,o,e⟩:=aa e;obtain⟨x,B,f,e⟩:=aa e;cases e;have Y:=aF f;clear f;obtain⟨f,Z⟩:=Y;subst Z;obtain⟨v,h1,_⟩:=g.pk G;refine⟨v,h1,m g o λu F1 w s1 E=>?_⟩;obtain⟨v',q,pv⟩:=s1.gs.pk f;rw[h1]at q;cases q;exact k v u F1 w s1 pv E
inductive rD(K:PySem.W.Frag)(f:D->D->Option R)(x y:V)(H:Hp)(Q:VK):Prop where|mk(F:Hp)(d e:D)(r:R)(sm:aD F H)(px:fH K F H x d)(py:fH K F H y e)(he:f d e=a7 r)(k:∀v F' H',Ext F H F' H'->cM K F' H' H v r->Q v H')
inductive rD1(K:PySem.W.Frag)(f:D->Option R)(x:V)(H:Hp)(Q:VK):Prop where|mk(F:Hp)(d:D)(r:R)(sm:aD F H)(px:fH K F H x d)(he:f d=a7 r)(k:∀v F' H',Ext F H F' H'->cM K F' H' H v r->Q v H')
theorem xM{E:dc}{f:D->D->Option R}{q:P}(o:∀{m tb},PE X a m->PE X b tb->PE X E (Xg (rD X.K f) m tb))(t:SX X c a pa)(y:SX X c b pb)(z:∀ρ,_H.ev c q ρ=(_H.kJ (isVar pa) (_H.ev c pa) (isVar pb) (_H.ev c pb) ρ).bind λj ρ=>lift (f j.1 j.2) ρ)(A:isVar q=none):SX X c E q:=by obtain⟨m,tb,h1,B,C⟩:=t.kJ y;refine⟨dN (o h1 B) ?_,λi h=>by rw[A]at h;cases h⟩;rintro σ H Q⟨F,ρ,r,ρ',g,e,k⟩;rw[z]at e;obtain⟨j,G,I,l⟩:=aa e;have J:=aF l;clear l;obtain⟨l,L⟩:=J;subst L;refine C g I λv u M Z s N O=>⟨M,j.1,j.2,r,s.gs.sub,N,O,l,λw U W x Y=>?_⟩;exact k w U W (s.trans (x.stp s.gs)) (.later s (Y.uo s.gs))
theorem We{E:dc}{f:D->Option R}{q:P}(m:∀{l},PE X a l->PE X E (tUn (rD1 X.K f) l))(o:SX X c a pa)(t:∀ρ,_H.ev c q ρ=(_H.cZ (isVar pa) (_H.ev c pa) ρ).bind λx ρ=>lift (f x) ρ)(u:isVar q=none):SX X c E q:=by obtain⟨l,h1,y⟩:=o.cZ;refine⟨dN (m h1) ?_,λi h=>by rw[u]at h;cases h⟩;rintro σ H Q⟨F,ρ,r,ρ',g,e,k⟩;rw[t]at e;obtain⟨x,z,A,j⟩:=aa e;have B:=aF j;clear j;obtain⟨j,C⟩:=B;subst C;refine y g A λv G N s I=>⟨G,x,r,s.gs.sub,I,j,λw J L x M=>?_⟩;exact k w J L (s.trans (x.stp s.gs)) (.later s (M.uo s.gs))
theorem GS.freeze{b:Bool}(g:GS K F ρ σ H)(e:ρ[i]?=a7 (.own b ds)):∃v z,σ[i]?=a7 (a7 v)/\aq K F ρ σ H z (ρ.set i (.val b (.lst ds))) σ H/\Rep K z v (.lst ds):=by
 obtain⟨a,xs,h1,C,E,G⟩:=g.mZ i _ ds e rfl;have hi:i<ρ.length:=(fu e).1;have sm:aD F (upd F a (.lst xs)):=aD.cI E;have A:Rep K (upd F a (.lst xs)) (.ref a) (.lst ds):=by rw[Rep];exact⟨a,xs,rfl,gF.of aL,G.mono sm⟩
 have I:Own ρ σ a:=⟨i,⟨_,_,e,rfl⟩,h1⟩;have r:∀j x,aQ (ρ.set i (.val b (.lst ds))) σ j x->aQ ρ σ j x/\j≠i:=λj x⟨⟨s,h,m,u⟩,y⟩=>by
  by_cases f:j=i;.subst f;rw[cu hi]at m;cases m;cases u
  .rw[fY f]at m;exact⟨⟨⟨s,h,m,u⟩,y⟩,f⟩
 refine⟨.ref a,upd F a (.lst xs),h1,⟨⟨λx o q=>?_,by simpa using g.len,λj b' d q=>?_,λj s h q w=>?_,λj k x q w=>g.dis j k x (r j x q).1 (r k x w).1⟩,sm,λx n B=>?_,λ_ _ q _=>q,λx⟨j,q⟩=>.inl ⟨j,(r j x q).1⟩,by simp,λj s q l=>⟨rfl,?_⟩⟩,A⟩
 . by_cases t:x=a;.subst t;rw[aL]at q;cases q;exact C
   .rw[aA t]at q;exact g.sub x o q
 . by_cases f:j=i;.subst f;rw[cu hi]at q;cases q;exact⟨_,h1,A⟩
   .rw[fY f]at q;obtain⟨v,m,u⟩:=g.val j b' d q;exact⟨v,m,u.mono sm⟩
 . by_cases f:j=i;.subst f;rw[cu hi]at q;cases q;cases w
   . rw[fY f]at q;obtain⟨x,ys,m,u,y,J⟩:=g.own j s h q w;have t:x≠a:=by rintro rfl;exact f (g.dis j i x ⟨⟨s,h,q,w⟩,m⟩ ⟨⟨_,_,e,rfl⟩,h1⟩)
     exact⟨x,ys,m,u,by rw[aA t];exact y,J.mono sm⟩
 . by_cases t:x=a;.subst t;exact .inl I
   .rw[aA t]at B;exact absurd n B
 . by_cases f:j=i;.subst f;rw[e]at q;cases q;refine⟨_,cu hi,?_⟩;cases b with|true=>exact .inr ⟨_,rfl⟩|false=>cases l
   .exact⟨s,by rw[fY f];exact q,.refl s⟩
theorem GS.Ez{m:Dc}(g:GS K F ρ σ H)(e:ρ[i]?=a7 (.gZ m)):∃a,σ[i]?=a7 (a7 (.ref a))/\H a=a7 m.ho/\∀u,aq K F ρ σ H (upd F a (.dD u m.ho)) (ρ.set i (.val a_ (.dI m))) σ (upd H a (.dD u m.ho))/\Rep K (upd F a (.dD u m.ho)) (.ref a) (.dI m):=by
 obtain⟨a,G,h1,I,J,L⟩:=g.own i _ _ e rfl;cases(show G=m.ho from L);have hi:i<ρ.length:=(fu e).1;refine⟨a,h1,I,λu=>?_⟩;have sm:aD F (upd F a (.dD u m.ho)):=aD.cI J;have B:Rep K (upd F a (.dD u m.ho)) (.ref a) (.dI m):=by rw[Rep];exact⟨a,u,rfl,aL⟩
 have C:Own ρ σ a:=⟨i,⟨_,_,e,rfl⟩,h1⟩;have w:∀j x,aQ (ρ.set i (.val a_ (.dI m))) σ j x->aQ ρ σ j x/\j≠i:=λj x⟨⟨s,r,t,y⟩,A⟩=>by
  by_cases f:j=i;.subst f;rw[cu hi]at t;cases t;cases y
  .rw[fY f]at t;exact⟨⟨⟨s,r,t,y⟩,A⟩,f⟩
 refine⟨⟨⟨λx o q=>?_,by simpa using g.len,λj b' d q=>?_,λj s r q z=>?_,λj k x q z=>g.dis j k x (w j x q).1 (w k x z).1⟩,sm,λx n E=>?_,λx o q n=>?_,λx⟨j,q⟩=>.inl ⟨j,(w j x q).1⟩,by simp,λj s q l=>⟨rfl,?_⟩⟩,B⟩
 . by_cases h:x=a;.subst h;rw[aL]at q ⊢;exact q
   .rw[aA h]at q ⊢;exact g.sub x o q
 . by_cases f:j=i;.subst f;rw[cu hi]at q;cases q;exact⟨_,h1,B⟩
   .rw[fY f]at q;obtain⟨v,t,y⟩:=g.val j b' d q;exact⟨v,t,y.mono sm⟩
 . by_cases f:j=i;.subst f;rw[cu hi]at q;cases q;cases z
   . rw[fY f]at q;obtain⟨x,ys,t,y,A,M⟩:=g.own j s r q z;have h:x≠a:=by rintro rfl;exact f (g.dis j i x ⟨⟨s,r,q,z⟩,t⟩ ⟨⟨_,_,e,rfl⟩,h1⟩)
     exact⟨x,ys,t,by rw[aA h];exact y,by rw[aA h];exact A,M.mono sm⟩
 . by_cases h:x=a;.subst h;exact .inl C
   .rw[aA h]at E;exact absurd n E
 . have h:x≠a:=by rintro rfl;exact n C
   rw[aA h];exact q
 . by_cases f:j=i;.subst f;rw[e]at q;cases q;cases l
   .exact⟨s,by rw[fY f];exact q,.refl s⟩
theorem GS.Gv{kvs:List (Int×D)}(g:GS K F ρ σ H)(e:ρ[i]?=a7 (.cY kvs)):∃a vs,σ[i]?=a7 (a7 (.ref a))/\H a=a7 (Eb (kvs.map (·.1)) vs)/\∀t,aq K F ρ σ H (upd F a (.dD t (Eb (kvs.map (·.1)) vs))) (ρ.set i (.val a_ (.dv (kvs.map (·.1)) (kvs.map (·.2))))) σ (upd H a (.dD t (Eb (kvs.map (·.1)) vs)))/\Rep K (upd F a (.dD t (Eb (kvs.map (·.1)) vs))) (.ref a) (.dv (kvs.map (·.1)) (kvs.map (·.2))):=by
 obtain⟨a,M,h1,E,G,I⟩:=g.own i _ _ e rfl;obtain⟨vs,rfl,J⟩:=I;have hi:i<ρ.length:=(fu e).1;refine⟨a,vs,h1,E,λt=>?_⟩;have sm:aD F (upd F a (.dD t (Eb (kvs.map (·.1)) vs))):=aD.cI G;have A:Rep K (upd F a (.dD t (Eb (kvs.map (·.1)) vs))) (.ref a) (.dv (kvs.map (·.1)) (kvs.map (·.2))):=by rw[Rep];exact⟨a,t,vs,rfl,aL,J.mono sm,by simp⟩
 have B:Own ρ σ a:=⟨i,⟨_,_,e,rfl⟩,h1⟩;have u:∀j x,aQ (ρ.set i (.val a_ (.dv (kvs.map (·.1)) (kvs.map (·.2))))) σ j x->aQ ρ σ j x/\j≠i:=λj x⟨⟨s,m,r,w⟩,z⟩=>by
  by_cases f:j=i;.subst f;rw[cu hi]at r;cases r;cases w
  .rw[fY f]at r;exact⟨⟨⟨s,m,r,w⟩,z⟩,f⟩
 refine⟨⟨⟨λx o q=>?_,by simpa using g.len,λj b' d q=>?_,λj s m q y=>?_,λj k x q y=>g.dis j k x (u j x q).1 (u k x y).1⟩,sm,λx n C=>?_,λx o q n=>?_,λx⟨j,q⟩=>.inl ⟨j,(u j x q).1⟩,by simp,λj s q l=>⟨rfl,?_⟩⟩,A⟩
 . by_cases h:x=a;.subst h;rw[aL]at q ⊢;exact q
   .rw[aA h]at q ⊢;exact g.sub x o q
 . by_cases f:j=i;.subst f;rw[cu hi]at q;cases q;exact⟨_,h1,A⟩
   .rw[fY f]at q;obtain⟨v,r,w⟩:=g.val j b' d q;exact⟨v,r,w.mono sm⟩
 . by_cases f:j=i;.subst f;rw[cu hi]at q;cases q;cases y
   . rw[fY f]at q;obtain⟨x,ys,r,w,z,L⟩:=g.own j s m q y;have h:x≠a:=by rintro rfl;exact f (g.dis j i x ⟨⟨s,m,q,y⟩,r⟩ ⟨⟨_,_,e,rfl⟩,h1⟩)
     exact⟨x,ys,r,by rw[aA h];exact w,by rw[aA h];exact z,L.mono sm⟩
 . by_cases h:x=a;.subst h;exact .inl B
   .rw[aA h]at C;exact absurd n C
 . have h:x≠a:=by rintro rfl;exact n B
   rw[aA h];exact q
 . by_cases f:j=i;.subst f;rw[e]at q;cases q;cases l
   .exact⟨s,by rw[fY f];exact q,.refl s⟩
theorem Inv.Ma{X:Cx}{f:List (ce×Obj)}{s:b_}{a:ce}{kvs:List (Key×V)}(I:_L.Inv X f σ H s)(h:H a=a7 (.dK kvs)):∃o,_L.Inv X f σ (upd H a (.dD o (.dK kvs))) s:=by obtain⟨hz,g,vs,r,dd⟩:=(show bA X.prog X.w H s.heap a (.dK kvs)from I.hok a _ h);obtain⟨o,ho,_⟩:=dd.typeIs;exact⟨o,I.write (h':=s.heap) (t':=s.toks) (by rw[h];exact trivial) (.inl rfl) (λb u _ e=>e) ⟨o,ho⟩ ⟨ho,hz,g,vs,r,dd⟩⟩
theorem Vs(z:X.N[i]?=a7 x)(A:uQ X.env.scope x)(hd:(x==("__debug__":Str))=a_:=by decide)(t:(x==("__classdict__":Str))=a_:=by decide):SX X c (.Name x pos) (.var i):=by
 have h:=dZ (X:=X) (pos:=pos) z A hd t;refine⟨?_,λj B=>by cases B;exact h⟩;rintro f s σ H Q I⟨F,ρ,r,ρ',g,e,k⟩;rw[_H.E1]at e;split at e;.rename_i b d q;cases e;obtain⟨v,h1,l⟩:=g.val i b d q;exact h f s σ H Q I ⟨v,h1,k v F H (.refl g) l⟩
 .rename_i b ds q;cases e;obtain⟨v,C,h1,l,m⟩:=g.freeze q;exact h f s σ H Q I ⟨v,h1,k v C H l m⟩
 .rename_i kvs q;cases e;obtain⟨a,h1,l,m⟩:=g.Ez q;refine cC (h f s σ H (λv w=>v=.ref a/\w=H) I ⟨.ref a,h1,rfl,rfl⟩) λu s1⟨v,H1,I1,r1,e1,e2⟩=>?_;subst e1 e2;obtain⟨o,y⟩:=Inv.Ma I1 l;exact⟨.ref a,_,y,r1,k _ _ _ (m o).1 (m o).2⟩
 .rename_i kvs q;cases e;obtain⟨a,vs,h1,l,m⟩:=g.Gv q;refine cC (h f s σ H (λv w=>v=.ref a/\w=H) I ⟨.ref a,h1,rfl,rfl⟩) λu s1⟨v,H1,I1,r1,e1,e2⟩=>?_;subst e1 e2;obtain⟨o,y⟩:=Inv.Ma I1 l;exact⟨.ref a,_,y,r1,k _ _ _ (m o).1 (m o).2⟩
 .cases e
theorem Bh{d:D}(h:PE X e (tC v))(hr:∀F,Rep X.K F v d):SX X c e (.con d):=⟨dN h λσ H Q⟨F,ρ,r,ρ',g,e,k⟩=>by rw[_H.E2]at e;cases e;exact k v F H (.refl g) (hr F),λi h=>by cases h⟩
theorem aj{i j}:SX X c (.Constant (.int i) j pos) (.con (.int i)):=Bh tM λF=>by rw[Rep]
theorem m8{i j}:SX X c (.Constant (.bool i) j pos) (.con (.bl i)):=Bh abr λF=>by rw[Rep]
theorem pC{j}:SX X c (.Constant .none j pos) (.con .non):=Bh Vh λF=>by rw[Rep]
theorem fH.int{K:PySem.W.Frag}{F H:Hp}{v:V}{i:Int}(h:fH K F H v (.int i)):v=.int i:=by
 rcases h with h|⟨_,_,_,_,_,_,h⟩;.rw[Rep]at h;exact h
 .cases h
theorem fH.bl{K:PySem.W.Frag}{F H:Hp}{v:V}{i:Bool}(h:fH K F H v (.bl i)):v=.bl i:=by
 rcases h with h|⟨_,_,_,_,_,_,h⟩;.rw[Rep]at h;exact h
 .cases h
theorem fH.str{K:PySem.W.Frag}{F H:Hp}{v:V}{i:Str}(h:fH K F H v (.str i)):v=.str i:=by
 rcases h with h|⟨_,_,_,_,_,_,h⟩;.rw[Rep]at h;exact h
 .cases h
theorem fH.non{K:PySem.W.Frag}{F H:Hp}{v:V}(h:fH K F H v .non):v=.non:=by
 rcases h with h|⟨_,_,_,_,_,_,h⟩;.rw[Rep]at h;exact h
 .cases h
theorem fH.tup{K:PySem.W.Frag}{F H:Hp}{v:V}{ds:List D}(s:aD F H)(h:fH K F H v (.tup ds)):∃a xs,v=.ref a/\mq K H a xs/\aH K F xs ds/\Rep K F v (.tup ds):=by
 rcases h with h|⟨_,_,_,_,_,_,h⟩;.have h':=h;rw[Rep]at h;obtain⟨a,xs,rfl,h1,f⟩:=h;exact⟨a,xs,rfl,aD.jo s h1,f,h'⟩
 .cases h
theorem fH.lst{K:PySem.W.Frag}{F H:Hp}{v:V}{ds:List D}(s:aD F H)(h:fH K F H v (.lst ds)):∃a xs,v=.ref a/\gF K H a xs/\aH K F xs ds:=by
 rcases h with h|⟨a,xs,es,h1,f,g,h⟩;.rw[Rep]at h;obtain⟨a,xs,rfl,h1,f⟩:=h;exact⟨a,xs,rfl,s.seq h1,f⟩
 .cases h;exact⟨a,xs,h1,gF.of f,g⟩
theorem fH.dI{m:Dc}(s:aD F H)(h:fH K F H v (.dI m)):∃a o,v=.ref a/\H a=a7 (.dD o m.ho):=by
 rcases h with h|⟨_,_,_,_,_,_,h⟩;.rw[Rep]at h;obtain⟨a,o,rfl,h⟩:=h;exact⟨a,o,rfl,s _ _ h⟩
 .cases h
theorem M4{X:Cx}{f:List (ce×Obj)}{s:b_}{a:ce}{g:Obj}{m:Dc}(I:_L.Inv X f σ H s)(h:H a=a7 (.dD g m.ho)):∃o,s.heap.get? a=a7 o/\o.cls=.type "dict":=by have z:=(show bA X.prog X.w H s.heap a (.dD g m.ho)from I.hok a _ h).2;cases m with|k kvs=>obtain⟨_,_,vs,_,d2⟩:=(show bA X.prog X.w H s.heap a (.dK _)from z);exact d2.typeIs|t kvs=>obtain⟨_,_,xs,_,o,es,ep,h1,j,_⟩:=(show bA X.prog X.w H s.heap a (.dT _)from z);exact⟨o,h1,j.1⟩
theorem fH.dv{ks:List Int}(s:aD F H)(h:fH K F H v (.dv ks ds)):∃a o vs,v=.ref a/\H a=a7 (.dD o (Eb ks vs))/\aH K F vs ds/\ks.length=ds.length:=by
 rcases h with h|⟨_,_,_,_,_,_,h⟩;.rw[Rep]at h;obtain⟨a,o,vs,rfl,h,h1,f⟩:=h;exact⟨a,o,vs,rfl,s _ _ h,h1,f⟩
 .cases h
theorem Nb{X:Cx}{f:List (ce×Obj)}{s:b_}{a:ce}{g:Obj}{ks:List Int}{vs:List V}(I:_L.Inv X f σ H s)(h:H a=a7 (.dD g (Eb ks vs))):∃o,s.heap.get? a=a7 o/\o.cls=.type "dict":=by have z:=(show bA X.prog X.w H s.heap a (.dD g (Eb ks vs))from I.hok a _ h).2;obtain⟨_,_,vs,_,d2⟩:=(show bA X.prog X.w H s.heap a (.dK _)from z);exact d2.typeIs
theorem fH.items{d:D}(s:aD F H)(h:fH K F H v d)(e:items d=a7 ds):∃a xs,v=.ref a/\(gF K H a xs\/mq K H a xs)/\aH K F xs ds:=by cases d with|tup es=>cases e;obtain⟨a,xs,h1,f,g,_⟩:=h.tup s;exact⟨a,xs,h1,.inr f,g⟩|lst es=>cases e;obtain⟨a,xs,h1,f,g⟩:=h.lst s;exact⟨a,xs,h1,.inl f,g⟩|_=>cases e
theorem cM.dC{Q:VK}{d:D}(s:aD F H)(r:Rep K F v d)(k:∀v g f,Ext F H g f->cM K g f H v (.val d)->Q v f):Q v H:=k v F H (.refl s) r
theorem bW(i:Int):Rep K F (.int i) (.int i):=by rw[Rep]
theorem iT(i:Bool):Rep K F (.bl i) (.bl i):=by rw[Rep]
theorem WN(i:Str):Rep K F (.str i) (.str i):=by rw[Rep]
theorem W2:Rep K F .non .non:=by rw[Rep]
theorem CK{Q:VK}{xs:List V}{p:ce}(s:aD F H)(r:aH K F xs ds)(f:H p=none)(k:∀v h g,Ext F H h g->cM K h g H v (.own ds)->Q v g):Q (.ref p) (upd H p (.lst xs)):=by
 have j:F p=none:=by cases q:F p with|none=>rfl|some o=>rw[s p o q]at f;cases f
 exact k _ F _ ⟨aD.cI f,.refl _,s.trans (aD.cI f),λ_ a b=>absurd a b⟩ ⟨p,xs,rfl,aL,j,r,f⟩
theorem CG{Q:VK}{xs:List V}{p:ce}(s:aD F H)(r:aH K F xs ds)(g:H p=none)(k:∀v j h,Ext F H j h->cM K j h H v (.val (.tup ds))->Q v h):Q (.ref p) (upd H p (.tup xs)):=by
 have m:F p=none:=by cases q:F p with|none=>rfl|some o=>rw[s p o q]at g;cases g
 have sm:aD F (upd F p (.tup xs)):=aD.cI m;refine k _ (upd F p (.tup xs)) _ ⟨aD.cI g,sm,λb o e=>?_,λb n l=>?_⟩ ?_
 . by_cases f:b=p;.subst f;rw[aL]at e ⊢;exact e
   .rw[aA f]at e ⊢;exact s b o e
 . by_cases f:b=p;.subst f;exact lK g
   .rw[aA f]at l;exact absurd n l
 .show Rep K _ _ (.tup ds);rw[Rep];exact⟨p,xs,rfl,mq.of aL,r.mono sm⟩
end
theorem uP(k:Int)(t:Tok)(l:ce)(a:Array bx)(n:Nat)(dd:Option ce)(sl:Array (Option bx)):ol (iE.«int.__rmul__» ⟨[.int k t,.ref l],[]⟩) (λ_ R s=>s.heap.get? l=a7 ⟨.type "list",dd,.seq a n,sl⟩/\R (.ok (.ret kS)) s):=.of_wp λprog w A R s h=>by obtain⟨b,g,d,tk,os⟩:=s;obtain⟨c,h⟩:=h;wp_walk;exact⟨_,rfl,h⟩
theorem HJ(l:ce)(a:Array bx)(n:Nat)(dd:Option ce)(sl:Array (Option bx))(k:Int)(t:Tok)(h0:¬(!Builtin.List.listFitsIndex k)=bT)(h1:¬a.size*k.toNat>(2^63-1)/8)(b:¬n_ (a.size*k.toNat)=bT):ol (iE.«list.__mul__» ⟨[.ref l,.int k t],[]⟩) (λ_ R s=>s.heap.get? l=a7 ⟨.type "list",dd,.seq a n,sl⟩/\R (.ok (.ret (dr s.heap.objs.size))) {s with heap:=s.heap.push {cls:=.type "list",data:=.seq (rS (·++·) #[] (cp (if a.isEmpty=bT then 0 else k.toNat) a))}}):=.of_wp λprog w A R s h=>by obtain⟨e,g,d,tk,os⟩:=s;obtain⟨c,h⟩:=h;have hz:=AutoListH.joined_fits b;wp_walk using jI c;refine wpAny_ite_false (decide_eq_false (Nat.not_lt.mpr hz)) ?_;wp_walk;exact⟨_,rfl,h⟩
section
variable{X:Cx}{c:Call}{e a b d:dc}{p pa pb pd:P}{pos:Pos}
theorem Ro:jw X (fo .Add) (λx y H Q=>∃l b xs o,x=.ref l/\y=.ref b/\gF X.K H l xs/\gF X.K H b o/\xs.length+o.length<=sizeLine/\∀p,H p=none->Q (.ref p) (upd H p (.lst (xs++o)))):=by
 intro z s σ H x y v u Q I C E h;obtain⟨l,b,xs,o,rfl,rfl,G,J,hz,q⟩:=h;cases C;cases E;obtain⟨g,r,L,_⟩:=I.list G;obtain⟨f,A,M,_⟩:=I.list J;obtain⟨⟨cls,dd,data,sl⟩,ho,hc,n,hd⟩:=id L.isList;obtain⟨⟨B,t,data2,w⟩,j,k,N,m⟩:=id M.isList;simp only at hc hd k m;subst hc hd k m;have e:g.toArray++f.toArray=(g++f).toArray:=by simp
 refine nh ⟨_,ho,rfl⟩ ⟨_,j,rfl⟩ noFill_list_add seq_list_add PySem.F.slot_list_add PySem.F.entry_list_add (PySem.F.args_list_add_2 _ _) (list_addW l b g.toArray f.toArray n N dd t sl w (by simp only[cE];rw[<-r.length,<-A.length];exact hz)) ⟨ho,j,?_⟩;rw[e];exact⟨.ref _,_,I.Xz (t':=s.toks) (r.append A) (by rw[ei];exact hz),rfl,q _ I.fresh⟩
theorem Ja:jw X (fo .Add) (λx y H Q=>∃a b ys,x=.ref a/\y=.ref b/\mq X.K H a []/\mq X.K H b ys/\Q (.ref b) H):=by intro r s σ H x y v u Q I w z h;obtain⟨a,b,ys,rfl,rfl,A,B,q⟩:=h;cases w;cases z;obtain⟨l,r1,p1,_⟩:=I.tuple A;obtain⟨f,G,p2,_⟩:=I.tuple B;obtain⟨⟨cls,dd,data,sl⟩,ho,hc,n,hd⟩:=id p1;obtain⟨⟨t,m,data2,o⟩,g,j,C,k⟩:=id p2;simp only at hc hd j k;subst hc hd j k;have E:l=[]:=r1.rH.mpr rfl;subst E;exact nh ⟨_,ho,rfl⟩ ⟨_,g,rfl⟩ nN p_ slot_tuple_add entry_tuple_add (args_tuple_add_2 _ _) (tuple_addW0 a b _ f.toArray n C dd m sl o (by simp)) ⟨ho,g,⟨.ref b,H,I,rfl,q⟩⟩
theorem bN:jw X (fo .Add) (rD X.K (uK .add)):=by
 rintro f s σ H x y v u Q I g h⟨F,d,e,r,sm,o,q,he,k⟩;replace he:tQ d e=a7 r:=he;unfold tQ at he;split at he;.cases he;rw[o.int]at g;rw[q.int]at h;exact VB f s σ H _ _ v u Q I g h ⟨_,_,rfl,rfl,cM.dC sm (bW _) k⟩
 .rename_i xs ys;obtain⟨m,he⟩:=bD he;subst he;obtain⟨a,vs,rfl,t,j⟩:=o.lst sm;obtain⟨b,w,rfl,z,l⟩:=q.lst sm;exact Ro f s σ H _ _ v u Q I g h ⟨a,b,vs,w,rfl,rfl,t,z,by rw[j.length,l.length];exact m,λp A=>CK sm (j.append l) A k⟩
 . rename_i xs ys;obtain⟨m,he⟩:=bD he;subst he;obtain⟨a,vs,rfl,t,j,C⟩:=o.tup sm;obtain⟨b,w,rfl,z,l,tb⟩:=q.tup sm;by_cases h0:vs=[]
   . subst h0;have B:xs=[]:=by have:=j.length;exact ft this.symm
     subst B;exact Ja f s σ H _ _ v u Q I g h ⟨a,b,w,rfl,rfl,t,z,cM.dC sm tb k⟩
   . refine Rm f s σ H _ _ v u Q I g h ⟨a,b,vs,w,rfl,rfl,t,z,h0,by rw[j.length,l.length];exact m,λe=>?_,λ_ p A=>CG sm (j.append l) A k⟩;subst e;have B:ys=[]:=by have:=l.length;exact ft this.symm
     subst B;rw[e_]at k;exact cM.dC sm C k
 .rename_i E G;obtain⟨m,he⟩:=bD he;subst he;rw[o.str]at g;rw[q.str]at h;exact Bl f s σ H _ _ v u Q I g h ⟨_,_,rfl,rfl,m,cM.dC sm (WN _) k⟩
 .cases he
theorem lO:jw X (fo .Sub) (rD X.K (uK .sub)):=by
 rintro f s σ H x y v u Q I g h⟨F,d,e,r,sm,j,l,he,k⟩;replace he:yQ d e=a7 r:=he;unfold yQ at he;split at he;.cases he;rw[j.int]at g;rw[l.int]at h;exact V2 f s σ H _ _ v u Q I g h ⟨_,_,rfl,rfl,cM.dC sm (bW _) k⟩
 .cases he
theorem Qs:jw X (fo .Mult) (λx y H Q=>∃l k xs,x=.ref l/\y=.int k/\gF X.K H l xs/\-(2^63)<=k/\k<2^63/\xs.length*k.toNat<=sizeLine/\∀p,H p=none->Q (.ref p) (upd H p (.lst (cp k.toNat xs).flatten))):=by
 intro w s σ H x y v u Q I z A h;obtain⟨l,k,xs,rfl,rfl,B,h1,C,hz,q⟩:=h;cases z;obtain⟨t,rfl⟩:=A;obtain⟨f,r,E,_⟩:=I.list B;obtain⟨⟨cls,dd,data,sl⟩,ho,hc,n,hd⟩:=id E.isList;simp only at hc hd;subst hc hd;have g:f.toArray.size*k.toNat<=sizeLine:=by rw[cE,<-r.length];exact hz
 have o:¬ f.toArray.size*k.toNat>(2^63-1)/8:=by
  have:(sizeLine:Nat)<=(2^63-1)/8:=by decide
  omega
 have j:rS (·++·) #[] (cp (if f.toArray.isEmpty=bT then 0 else k.toNat) f.toArray)=(cp k.toNat f).flatten.toArray:=by
  have f0:∀m:Nat,rS (·++·) #[] (cp m f.toArray)=(cp m f).flatten.toArray:=λm=>by have:=foldl_rep f m [];rw[oN]at this;exact this
  rw[f0];cases f with|nil=>simp|cons a J=>rw[if_neg (by simp)]
 refine p0 (T:="list") (U:="int") (by decide) ⟨_,ho,rfl⟩ (λG=>mw G k t) noFill_list_mul F.fills_int_mul F.slot_int_rmul repeat_list F.slot_int_index.lookup ?_;refine lj F.slot_int_rmul (mw s k t) F.entry_int_rmul (F.args_int_rmul_2 _ _) (uP k t l f.toArray n dd sl) ⟨ho,rfl,⟨_,ho,rfl⟩,?_⟩;refine lj F.slot_list_mul ⟨_,ho,rfl⟩ F.entry_list_mul (F.args_list_mul_2 _ _) (HJ l f.toArray n dd sl k t (by rw[fitsIndex_both h1 C];exact eh) o (by rw[Ah g];exact eh)) ⟨ho,?_⟩;rw[j];exact⟨.ref _,_,I.Xz (t':=s.toks) (r.rep k.toNat) (by rw[len_rep,pc];exact hz),rfl,q _ I.fresh⟩
theorem pH:fillsNumberSlot (.type "tuple") "mul"=eS a_:=PySem.fillsNumberSlot_seq (id:="tuple.__mul__") (r:=a7 (.builtin "tuple.__rmul__")) slot_tuple_mul.lookup (by decide+kernel) PySem.F.slot_tuple_rmul.lookup (by decide+kernel)
theorem wU:seqRepeat? (.type "tuple")=eS (a7 (.builtin "tuple.__mul__")):=by unfold seqRepeat?;rw[PySem.seqSlot_of (T:="tuple") (name:="__mul__") (id:="tuple.__mul__") slot_tuple_mul.lookup (by decide+kernel),PySem.seqSlot_of (T:="tuple") (name:="__rmul__") (id:="tuple.__rmul__") PySem.F.slot_tuple_rmul.lookup (by decide+kernel)];rfl
theorem tK(k:Int)(t:Tok)(l:ce)(f:Array bx)(n:Nat)(dd:Option ce)(sl:Array (Option bx)):ol (iE.«int.__rmul__» ⟨[.int k t,.ref l],[]⟩) (λ_ R s=>s.heap.get? l=a7 ⟨.type "tuple",dd,.seq f n,sl⟩/\R (.ok (.ret kS)) s):=.of_wp λprog w A R s h=>by obtain⟨j,g,d,tk,os⟩:=s;obtain⟨m,h⟩:=h;wp_walk;exact⟨_,rfl,h⟩
theorem Bm(l:ce)(f:Array bx)(n:Nat)(dd:Option ce)(sl:Array (Option bx))(k:Int)(t:Tok)(h0:0<=k)(h1:k<2^63)(hz:f.size*k.toNat<=sizeLine)(r:0<f.size):ol (iE.«tuple.__mul__» ⟨[.ref l,.int k t],[]⟩) (λ_ R s=>s.heap.get? l=a7 ⟨.type "tuple",dd,.seq f n,sl⟩/\(k=1->R (.ok (.ret (dr l))) s)/\(k≠1->R (.ok (.ret (dr s.heap.objs.size))) {s with heap:=s.heap.push {cls:=.type "tuple",data:=.seq (rS (·++·) #[] (cp k.toNat f))}})):=.of_wp λprog w A R s h=>by
  obtain⟨u,g,d,tk,os⟩:=s;obtain⟨o,y,z⟩:=h;have j:f.isEmpty=a_:=by cases e:f.isEmpty with|false=>rfl|true=>rw[Array.isEmpty_iff_size_eq_zero]at e;omega
  show cz _ _ (asIndex (.int k t)>>=_) _ _ _;wp_walk using jI o;have B:qo u l f:=⟨_,o,rfl,n,rfl⟩;rw[if_neg (by simp;omega)];refine bd (PyProof.Rows.tupleItemsOf_ B ?_);try dsimp only
  by_cases m:k=1;.rw[if_pos (by simp[m])];wp_walk using jI o;exact⟨_,rfl,y m⟩
  . have q:=z m;rw[if_neg (by simp[j,m])];by_cases C:k=0;.subst C;rw[if_pos (by simp)];unfold i9;refine bd (et ?_);exact cx ⟨_,rfl,q⟩
    . have G:(f.size:Int)*k<=sizeLine:=by
       have:((f.size*k.toNat:Nat):Int)<=(sizeLine:Nat):=by exact_mod_cast hz
       rw[Int.natCast_mul,show((k.toNat:Nat):Int)=k by omega]at this;exact this
      have E:(sizeLine:Int)<=(2^63-1)/8:=by decide
      rw[if_neg (by simp[j];omega),if_neg (by omega),if_neg (by simp[Builtin.Tuple.tupleTooMany];omega)];unfold i9;refine bd (et ?_ ?_);.exact cx ⟨_,rfl,q⟩
      .have:=foldl_rep f.toList k.toNat [];rw[oN,show f.toList.toArray=f by simp]at this;show(rS (·++·) #[] (cp k.toNat f)).size<=sizeLine;rw[show(#[]:Array bx)=([]:List bx).toArray from rfl,this,cE,len_rep,jd,pc];exact hz
theorem O2:jw X (fo .Mult) (λx y H Q=>∃l k xs,x=.ref l/\y=.int k/\mq X.K H l xs/\0<xs.length/\0<=k/\k<2^63/\xs.length*k.toNat<=sizeLine/\(k=1->Q (.ref l) H)/\(k≠1->∀p,H p=none->Q (.ref p) (upd H p (.tup (cp k.toNat xs).flatten)))):=by
 intro w s σ H x y v u Q I z A h;obtain⟨l,k,xs,rfl,rfl,B,m,h1,C,hz,E,G⟩:=h;cases z;obtain⟨t,rfl⟩:=A;obtain⟨f,r,J,_⟩:=I.tuple B;obtain⟨⟨cls,dd,data,sl⟩,ho,hc,n,hd⟩:=id J;simp only at hc hd;subst hc hd;have g:f.toArray.size*k.toNat<=sizeLine:=by rw[cE,<-r.length];exact hz
 have j:rS (·++·) #[] (cp k.toNat f.toArray)=(cp k.toNat f).flatten.toArray:=by have:=foldl_rep f k.toNat [];rw[oN]at this;exact this
 refine p0 (T:="tuple") (U:="int") (by decide) ⟨_,ho,rfl⟩ (λL=>mw L k t) pH F.fills_int_mul F.slot_int_rmul wU F.slot_int_index.lookup ?_;refine lj F.slot_int_rmul (mw s k t) F.entry_int_rmul (F.args_int_rmul_2 _ _) (tK k t l f.toArray n dd sl) ⟨ho,rfl,⟨_,ho,rfl⟩,?_⟩;refine lj slot_tuple_mul ⟨_,ho,rfl⟩ PySem.F.entry_tuple_mul (PySem.F.args_tuple_mul_2 _ _) (Bm l f.toArray n dd sl k t h1 C g (by rw[cE,<-r.length];exact m)) ⟨ho,λe=>⟨.ref l,H,I,rfl,E e⟩,λe=>?_⟩;rw[j];refine⟨.ref s.heap.objs.size,_,I.laid (t':=s.toks) (o:=.tup (cp k.toNat xs).flatten) (λb M q=>eG q) (dU) ?_,rfl,G e _ (I.hok.fresh (dU))⟩;exact⟨by rw[len_rep,pc];exact hz,_,r.rep k.toNat,k6 _ _⟩
theorem dg:jw X (fo .Mult) (rD X.K (uK .mul)):=by
 rintro f s σ H x y v u Q I l g⟨F,d,e,r,sm,o,q,he,k⟩;replace he:j8 d e=a7 r:=he;unfold j8 at he;split at he;.obtain⟨hc,he⟩:=bD he;subst he;rw[o.int]at l;rw[q.int]at g;exact UW f s σ H _ _ v u Q I l g ⟨_,_,rfl,rfl,hc,cM.dC sm (bW _) k⟩
 . rename_i xs i;obtain⟨⟨h1,m,j⟩,he⟩:=bD he;subst he;obtain⟨a,vs,rfl,t,h⟩:=o.lst sm;rw[q.int]at g;have w:i<2^63:=by have z:=pw i.toNat m;have B:i.toNat<=16777216:=fR z j;omega
   exact Qs f s σ H _ _ v u Q I l g ⟨a,i,vs,rfl,rfl,t,by omega,w,by rw[h.length];exact j,λp A=>CK sm (h.rep i.toNat) A k⟩
 . rename_i xs i;obtain⟨⟨h1,m,j⟩,he⟩:=bD he;subst he;obtain⟨a,vs,rfl,t,h,C⟩:=o.tup sm;rw[q.int]at g;have w:i<2^63:=by have z:=pw i.toNat m;have B:i.toNat<=16777216:=fR z j;omega
   refine O2 f s σ H _ _ v u Q I l g ⟨a,i,vs,rfl,rfl,t,by rw[h.length];exact m,h1,w,by rw[h.length];exact j,λe=>?_,λe p A=>CG sm (h.rep i.toNat) A k⟩;subst e;refine cM.dC sm ?_ k;have E:(cp (1:Int).toNat xs).flatten=xs:=by simp
   rw[E];exact C
 .cases he
theorem zO:jw X (fo .FloorDiv) (rD X.K (uK .fdiv)):=by
 rintro f s σ H x y v u Q I g h⟨F,d,e,r,sm,l,m,he,k⟩;replace he:uE d e=a7 r:=he;unfold uE at he;split at he
 . rename_i i j;obtain⟨⟨h1,q⟩,he⟩:=bD he;subst he;rw[l.int]at g;rw[m.int]at h;obtain⟨t,rfl⟩:=g;obtain⟨t',rfl⟩:=h;have o:j.natAbs.log2<9000:=by
    have:j.natAbs<2^200:=by
     have:(2:Nat)^200=1606938044258990275541962092341162602522202993782792835301376:=by decide
     omega
    have w:=(Nat.log2_lt (by omega)).mpr this;omega
   exact floordiv_int (by omega) (by rw[Int.fdiv_eq_ediv_of_nonneg i (by omega)];exact⟨.int _,H,I.tok _,⟨_,rfl⟩,cM.dC sm (bW _) k⟩) (.inl (PyProof.noPylong_of_log2 o))
 .cases he
theorem gG:jw X (fo .Mod) (rD X.K (uK .mod)):=by
 rintro f s σ H x y v u Q I g h⟨F,d,e,r,sm,j,l,he,k⟩;replace he:zq d e=a7 r:=he;unfold zq at he;split at he;.obtain⟨h1,he⟩:=bD he;subst he;rw[j.int]at g;rw[l.int]at h;exact W8 f s σ H _ _ v u Q I g h ⟨_,_,rfl,rfl,h1,cM.dC sm (bW _) k⟩
 .cases he
theorem yg:jw X (fo .Pow) (rD X.K (uK .pow)):=by
 rintro f s σ H x y v u Q I g h⟨F,d,e,r,sm,j,l,he,k⟩;replace he:zu d e=a7 r:=he;unfold zu at he;split at he;.obtain⟨⟨h1,o,m⟩,he⟩:=bD he;subst he;rw[j.int]at g;rw[l.int]at h;exact WM f s σ H _ _ v u Q I g h ⟨_,_,rfl,rfl,⟨h1,by omega,m⟩,cM.dC sm (bW _) k⟩
 .cases he
theorem aJ{o:Op}{op:l_}(ho:jw X (fo op) (rD X.K (uK o)))(f:SX X c a pa)(g:SX X c b pb):SX X c (.BinOp a op b pos) (.bin o pa pb):=xM (λh1 h=>Z6 ho h1 h) f g (λρ=>rfl) rfl
theorem pA(j:SX X c a pa):SX X c (.UnaryOp .USub a pos) (.neg pa):=by refine We (f:=M8) (λh1=>Z2 ?_ h1) j (λρ=>rfl) rfl;rintro g s σ H x v Q I h⟨F,d,r,sm,l,he,k⟩;unfold M8 at he;obtain⟨i,m,o⟩:=map_some he;subst o;cases d<;>cases m;rw[l.int]at h;exact Xj g s σ H _ v Q I h ⟨_,rfl,cM.dC sm (bW _) k⟩
theorem Eh{f:Int->Int->Bool}(ho:jw X (eR op) (Tw λi j=>.bl (f i j))):jw X (eR op) (rD X.K λx y=>(Om f x y).map λk=>.val (.bl k)):=by
 rintro g s σ H x y v u Q I l m⟨F,d,e,r,sm,o,q,he,k⟩;obtain⟨t,h,w⟩:=map_some (show(Om f d e).map _=a7 r from he);subst w;unfold Om at h;split at h;.cases h;rw[o.int]at l;rw[q.int]at m;exact ho g s σ H _ _ v u Q I l m ⟨_,_,rfl,rfl,cM.dC sm (iT _) k⟩
 .cases h
theorem Vg{f:Int->Int->Bool}(ho:jw X (eR op) (Tw λi j=>.bl (f i j))){o:Cm}(hc:cm o=Om f):jw X (eR op) (rD X.K (CP o)):=by
 have e:CP o=λx y=>(Om f x y).map λk=>.val (.bl k):=by funext x y;unfold CP;rw[hc]
 rw[e];exact Eh ho
theorem VN:jw X (eR .Lt) (rD X.K λx y=>(Om (λi j=>decide (i<j)) x y).map λk=>.val (.bl k)):=Eh aaP
theorem jL:jw X (eR .Gt) (rD X.K (CP .gt)):=Vg abQ rfl
theorem Hj{d:D}(h:fH K F H v d):decide (v=.non)=lq d:=by cases d with
 |non=>rw[h.non];rfl|bl _=>rw[h.bl];rfl|int _=>rw[h.int];rfl|str _=>rw[h.str];rfl|tup _=>
   rcases h with h|⟨a,_,_,rfl,_⟩;.rw[Rep]at h;obtain⟨a,_,rfl,_⟩:=h;rfl
   .rfl|lst _=>
   rcases h with h|⟨a,_,_,rfl,_⟩;.rw[Rep]at h;obtain⟨a,_,rfl,_⟩:=h;rfl
   .rfl|dI _=>
   rcases h with h|⟨a,_,_,rfl,_⟩;.rw[Rep]at h;obtain⟨a,_,rfl,_⟩:=h;rfl
   .rfl|dv _ _=>
   rcases h with h|⟨a,_,_,rfl,_⟩;.rw[Rep]at h;obtain⟨a,_,_,rfl,_⟩:=h;rfl
   .rfl
theorem Fy:jw X (eR .IsNot) (rD X.K (CP .Nu)):=by
 rintro f s σ H x y v u Q I h j⟨F,d,e,r,sm,l,m,he,k⟩;obtain⟨t,g,o⟩:=map_some (show(cmN bT d e).map _=a7 r from he);subst o;unfold cmN at g;split at g;.cases g;exact Q5 f s σ H x y v u Q I h j ⟨m.non,by rw[Hj l];exact cM.dC sm (iT _) k⟩
 .cases g
theorem CJ{o:Cm}(ho:jw X (eR op) (rD X.K (CP o)))(f:SX X c a pa)(g:SX X c b pb)(h:gi op b=a_):SX X c (.Compare a [op] [b] pos) (.cmp o pa pb):=xM (λh1 j=>Rp ho h1 j h) f g (λρ=>rfl) rfl
end
section
variable{X:Cx}{c:Call}{e a b d:dc}{p pa pb pd:P}{pos:Pos}{rest:List dc}
theorem sE{x:D}{k:Bool}(h:Gb x=a7 k):x=.bl k:=by cases x<;>cases h;rfl
theorem dm{x:D}{k:Int}(h:je x=a7 k):x=.int k:=by cases x<;>cases h;rfl
theorem di.bool{f g:Hp}{σ':_L.St}{r:R}{k:Bool}(h:di K f ρ' σ' g ρ σ H v r)(e:r.d=.bl k):v=.bl k:=by cases r with|val d=>cases(show d=.bl k from e);have h:Rep K f v (.bl k):=h;rw[Rep]at h;exact h|own ds=>cases e
noncomputable def ST(X:Cx)(c:Call)(e:dc)(p:P):Prop:=PT X e (Iw X.K (jV (_H.ev c p)))
noncomputable def SW(X:Cx)(c:Call)(e:dc)(p:P):Prop:=PW X e (Iw X.K (jV (_H.ev c p)))
theorem SW.st(h:SW X c e p):ST X c e p:=PW.pt h
theorem pQ{t:TE}{Q:Bool->Hp->Prop}(hi:∀Q,yI X.K (_H.ev c p) σ H Q->t σ H Q)(h:Iw X.K (jV (_H.ev c p)) σ H Q):t σ H λx l=>∃k,x=.bl k/\Q k l:=by obtain⟨F,ρ,k,ρ',g,e,q⟩:=h;obtain⟨r,j,m,f⟩:=aa e;have o:=aF f;clear f;obtain⟨f,u⟩:=o;subst u;exact hi _ ⟨F,ρ,r,j,g,m,λv w y s z=>⟨k,z.bool (sE f),q w y s⟩⟩
theorem gb(h:SX X c e p)(he:∀f,isTrue e X.env f=(do let v<-f;qE e.pos;kc [v] (truthy v)):=by intro _;rfl):ST X c e p:=yM (Jq h.ev he) λσ H Q q=>pQ (λ_ z=>z) q
theorem cU{o:Cm}(ho:jw X (eR op) (rD X.K (CP o)))(j:SX X c a pa)(l:SX X c b pb)(m:gi op b=a_):ST X c (.Compare a [op] [b] pos) (.cmp o pa pb):=by obtain⟨y,tb,h1,A,B⟩:=j.kJ l;refine yM (Ft ho h1 A m) λσ H Q q=>pQ (t:=Xg (rD X.K (CP o)) y tb) (λQ z=>?_) q;obtain⟨F,ρ,r,ρ',g,e,k⟩:=z;rw[_H.E8]at e;obtain⟨h,C,E,f⟩:=aa e;have G:=aF f;clear f;obtain⟨f,I⟩:=G;subst I;refine B g E λv u J W s L M=>⟨J,h.1,h.2,r,s.gs.sub,L,M,f,λw N O x U=>?_⟩;exact k w N O (s.trans (x.stp s.gs)) (.later s (U.uo s.gs))
theorem pK(l:ST X c a pa):ST X c (.UnaryOp .Not a pos) (.not pa):=by
 refine yM (JR l) ?_;rintro σ H Q⟨F,ρ,k,ρ',g,e,q⟩;unfold jV at e;rw[_H.E5]at e;obtain⟨r,m,o,f⟩:=aa e;obtain⟨h,t,u,w⟩:=aa o;cases w;have y:=aF f;clear f;obtain⟨f,z⟩:=y;subst z;have f:(!h)=k:=by cases f;rfl
 exact⟨F,ρ,h,_,g,u,λA j s=>by show Q (!h) j;rw[f];exact q A j s⟩
theorem Vn(ρ:List Sl):jV (_H.ev c (.or pa pb)) ρ=(jV (_H.ev c pa) ρ).bind λx ρ=>if x then .ok bT ρ else jV (_H.ev c pb) ρ:=by unfold jV;rw[_H.E7];unfold jV;cases _H.ev c pa ρ with|exc _ _=>rfl|stuck=>rfl|ok r f=>simp only[Res.bind];cases h:Gb r.d with|none=>rfl|some k=>cases k with|true=>rfl|false=>simp only[lift,gE,if_false];cases _H.ev c pb f with|exc _ _=>rfl|stuck=>rfl|ok g j=>simp only[Res.bind];cases h2:Gb g.d with|none=>rfl|some k2=>rfl
theorem o4(f:ST X c a pa):SW X c (.BoolOp .Or [a] pos) pa:=Lh f
theorem sU(h:ST X c a pa)(j:SW X c (.BoolOp .Or (b::rest) pos) pb):SW X c (.BoolOp .Or (a::b::rest) pos) (.or pa pb):=by refine abf (S6 h j) ?_;rintro σ H Q⟨F,ρ,k,ρ',g,e,q⟩;rw[Vn]at e;obtain⟨x,f,l,e⟩:=aa e;refine⟨F,ρ,x,f,g,l,λF1 m s1=>?_⟩;cases x with|true=>rw[if_pos rfl]at e ⊢;cases e;exact q F1 m s1|false=>rw[if_neg eh]at e ⊢;exact⟨F1,f,k,ρ',s1.gs,e,λo r s2=>q o r (s1.trans s2)⟩
theorem Vb(j:SX X c a pa):SX X c (.UnaryOp .Not a pos) (.not pa):=by refine⟨dN (JD j.ev) ?_,λi h=>by cases h⟩;rintro σ H Q⟨F,ρ,r,ρ',g,e,k⟩;rw[_H.E5]at e;obtain⟨x,l,m,o⟩:=aa e;cases o;exact pQ (c:=c) (λ_ z=>z) ⟨F,ρ,x,_,g,m,λf q s=>k _ f q s (show Rep X.K f _ _ from iT _)⟩
theorem qW{op}(f:SX X c a pa):PE X (.BoolOp op [a] pos) (yI X.K (_H.ev c pa)):=Uu f.ev
theorem sH(o:SX X c a pa)(q:PE X (.BoolOp .And (b::rest) pos) (yI X.K (_H.ev c pb))):SX X c (.BoolOp .And (a::b::rest) pos) (.and pa pb):=by refine⟨dN (Xl o.ev q) ?_,λi h=>by cases h⟩;rintro σ H Q⟨F,ρ,r,ρ',g,e,k⟩;rw[_H.E6]at e;obtain⟨x,f,s,e⟩:=aa e;refine pQ (c:=c) (λ_ z=>z) (Q:=λx j=>if x=bT then yI X.K (_H.ev c pb) σ j Q else Q (.bl a_) j) ⟨F,ρ,x,f,g,s,λF1 j s1=>?_⟩;cases x with|true=>rw[if_pos rfl]at e ⊢;obtain⟨y,t,u,w⟩:=aa e;cases w;obtain⟨A,B,C,l⟩:=aa u;have E:=aF l;clear l;obtain⟨l,G⟩:=E;subst G;refine⟨F1,f,A,_,s1.gs,C,λv m I s2 J=>?_⟩;rw[J.bool (sE l)];exact k _ m I (s1.trans s2) (show Rep X.K m _ _ from iT _)|false=>rw[if_neg eh]at e ⊢;cases e;exact k _ F1 j s1 (show Rep X.K F1 _ _ from iT _)
theorem mY(hc:ST X c e p)(w:SX X c a pa)(y:SX X c b pb):SX X c (.IfExp e a b pos) (.T4 p pa pb):=by refine⟨dN (KC hc w.ev y.ev) ?_,λi h=>by cases h⟩;rintro σ H Q⟨F,ρ,r,ρ',g,e,k⟩;rw[_H.E9]at e;obtain⟨x,f,z,e⟩:=aa e;refine⟨F,ρ,x,f,g,z,λF1 B s1=>?_⟩;cases x with|true=>rw[if_pos rfl]at e ⊢;obtain⟨j,l,m,o⟩:=aa e;cases o;refine⟨F1,f,j,_,s1.gs,m,λv A q s2 s=>?_⟩;obtain⟨t,s3,_,u⟩:=s2.dD s;exact k v t q (s1.trans s3) u|false=>rw[if_neg eh]at e ⊢;obtain⟨j,l,m,o⟩:=aa e;cases o;refine⟨F1,f,j,_,s1.gs,m,λv A q s2 s=>?_⟩;obtain⟨t,s3,_,u⟩:=s2.dD s;exact k v t q (s1.trans s3) u
theorem xF:∀{ps:List P}{ρ ρ':List Sl}{ds:List D},evs c ps ρ=.ok ds ρ'->ds.length=ps.length|[],_,_,_,h=>by rw[J4]at h;cases h;rfl|p::ps,_,_,_,h=>by rw[yj]at h;obtain⟨r,f,_,h⟩:=aa h;obtain⟨xs,g,j,h⟩:=aa h;cases h;simp[xF j]
theorem aK:SA X c [] []:=⟨uA dw λσ H Q⟨F,ρ,ds,ρ',g,e,k⟩=>by rw[J4]at e;cases e;exact k [] F H (.refl g) .nil,rfl⟩
theorem rE{ps:List P}(h:SX X c a pa)(hr:SA X c es ps)(hs:cv (a::es) X.env=(a_,er a X.env)::cv es X.env:=by rfl):SA X c (a::es) (pa::ps):=by refine⟨uA (bj h.ev hr.1 hs) ?_,by simp[hr.2]⟩;rintro σ H Q⟨F,ρ,ds,ρ',g,e,k⟩;rw[yj]at e;obtain⟨r,f,j,e⟩:=aa e;obtain⟨xs,l,m,e⟩:=aa e;cases e;refine⟨F,ρ,r,f,g,j,λv y z s o=>?_⟩;obtain⟨F1,s1,_,q⟩:=s.dD o;refine⟨F1,f,xs,_,s1.gs,m,λvs t u s2 w=>?_⟩;exact k _ t u (s1.trans s2) (.cons (q.mono s2.bY) w)
theorem Ext.Qg{h j:Hp}{Q:VK}{xs:List V}(s:aq K j ρ σ h F ρ' σ H)(r:aH K F xs ds)(k:∀v g f,aq K j ρ σ h g ρ' σ f->di K g ρ' σ f ρ σ h v (.val (.tup ds))->Q v f)(p:ce)(l:H p=none):Q (.ref p) (upd H p (.tup xs)):=CG s.gs.sub r l λv g f x m=>k v g f (s.trans (x.stp s.gs)) m
theorem dh{ps:List P}{x1}(h:SA X c es ps)(hz:ps.length<=sizeLine:=by decide):SX X c (.Tuple es x1 pos) (.tup ps):=by refine⟨dN (MK h.1) ?_,λi h=>by cases h⟩;rintro σ H Q⟨F,ρ,r,ρ',g,e,k⟩;rw[_H.E10]at e;obtain⟨ds,l,f,e⟩:=aa e;cases e;exact⟨F,ρ,ds,_,g,f,λvs o q s j=>⟨by rw[j.length,xF f];exact hz,λp m=>Ext.Qg s j k p m⟩⟩
theorem cW{ps:List P}(h:SA X c es ps)(hz:ps.length<=sizeLine:=by decide):SX X c (.List es pos) (.lst ps):=by refine⟨dN (WT h.1) ?_,λi h=>by cases h⟩;rintro σ H Q⟨F,ρ,r,ρ',g,e,k⟩;rw[_H.E11]at e;obtain⟨ds,l,f,e⟩:=aa e;cases e;exact⟨F,ρ,ds,_,g,f,λvs u w s j=>⟨by rw[j.length,xF f];exact hz,λp m=>CK s.gs.sub j m λv o q x t=>k v o q (s.trans (x.stp s.gs)) (.later s (t.uo s.gs))⟩⟩
theorem JP{i:Int}{d:D}(h:at' ds i=a7 d):∃j,_L.jm ds.length i=a7 j/\ds[j]?=a7 d:=cH h
theorem afc:IxR X (rD X.K Hf):=by
 rintro f slice g s σ H x y v u Q I m l⟨F,d,e,r,sm,t,A,he,k⟩hs;unfold Hf at he;obtain⟨ds,B,he⟩:=cH he;obtain⟨i,C,he⟩:=cH he;obtain⟨z,E,he⟩:=map_some he;subst he;cases dm C;rw[A.int]at l;obtain⟨p,xs,rfl,hq,o⟩:=t.items sm B;obtain⟨j,h1,G⟩:=JP E;obtain⟨w,J,q⟩:=o.get G;have h:Ji xs i=a7 w:=by unfold Ji;rw[o.length,h1];exact J
 rcases hq with hq|hq;.exact Gn f slice g s σ H _ _ v u Q I m l ⟨p,xs,i,w,rfl,rfl,hq,h,cM.dC sm q k⟩ hs
 .exact Wl f slice g s σ H _ _ v u Q I m l ⟨p,xs,i,w,rfl,rfl,hq,h,cM.dC sm q k⟩ hs
theorem aC(g:SX X c a pa)(h:SX X c b pb)(hs:wX b:=by intro _ _;rfl):SX X c (.Subscript a b pos) (.idx pa pb):=xM (f:=Hf) (λh1 j=>Th afc h1 j hs) g h (λρ=>rfl) rfl
noncomputable def QM(K:PySem.W.Frag)(f:D->Option R):List V->Hp->VK->Prop:=λxs H Q=>∃x,xs=[x]/\rD1 K f x H Q
theorem qp{E:dc}{f:D->Option R}{q:P}(l:∀{t},PA X [a] t->PE X E (tCB (QM X.K f) t))(m:SX X c a pa)(o:∀ρ,_H.ev c q ρ=(_H.cZ (isVar pa) (_H.ev c pa) ρ).bind λx ρ=>lift (f x) ρ)(u:isVar q=none)(hs:cv [a] X.env=(a_,er a X.env)::cv [] X.env:=by rfl):SX X c E q:=by obtain⟨N,h1,y⟩:=m.cZ;refine⟨dN (l (bj h1 dw hs)) ?_,λi h=>by rw[u]at h;cases h⟩;rintro σ H Q⟨F,ρ,r,ρ',g,e,k⟩;rw[o]at e;obtain⟨x,z,A,j⟩:=aa e;have B:=aF j;clear j;obtain⟨j,C⟩:=B;subst C;refine y g A λv G O s I=>⟨v,rfl,G,x,r,s.gs.sub,I,j,λw J L x M=>?_⟩;exact k w J L (s.trans (x.stp s.gs)) (.later s (M.uo s.gs))
theorem Z8:dY X (.builtin "len") (QM X.K λx=>blt .len [x]):=by rintro f s σ H xs g Q I r⟨x,h,F,d,j,sm,l,he,k⟩;obtain⟨ds,m,he⟩:=map_some (show(items d).map _=a7 j from he);subst he;obtain⟨p,ys,rfl,o,q⟩:=l.items sm m;exact wH f s σ H xs g Q I r ⟨p,ys,h,o,by rw[q.length];exact cM.dC sm (bW _) k⟩
theorem XH:dY X (.type "list") (QM X.K λx=>blt .list [x]):=by rintro f s σ H xs g Q I r⟨x,h,F,d,j,sm,m,he,k⟩;obtain⟨ds,o,he⟩:=map_some (show(items d).map _=a7 j from he);subst he;obtain⟨p,ys,rfl,q,t⟩:=m.items sm o;exact yt f s σ H xs g Q I r ⟨p,ys,h,q,λl u=>CK sm t u k⟩
theorem QC:dY X (.type "tuple") (QM X.K λx=>blt .tuple [x]):=by rintro f s σ H xs j Q I r⟨x,m,F,d,t,sm,o,he,k⟩;obtain⟨ds,g,he⟩:=map_some (show(items d).map _=a7 t from he);subst he;cases d with|tup es=>cases g;obtain⟨a,ys,rfl,h,q,rt⟩:=o.tup sm;exact mD f s σ H xs j Q I r ⟨a,ys,m,.inr ⟨h,cM.dC sm rt k⟩⟩|lst es=>cases g;obtain⟨a,ys,rfl,h,q⟩:=o.lst sm;exact mD f s σ H xs j Q I r ⟨a,ys,m,.inl ⟨h,λl u=>CG sm q u k⟩⟩|_=>cases g
theorem gf(f:x="len")(g:Gl X x)(j:X.mg x=none)(k:SX X c a pa)(hs:cv [a] X.env=(a_,er a X.env)::cv [] X.env:=by rfl):SX X c (.Call (.Name x p') [a] [] pos) (.blt .len [pa]):=by subst f;exact qp (λh=>dq Z8 g j PySem.boot_len h (he:=hs)) k (λρ=>rfl) rfl hs
theorem FW(f:x="list")(g:Gl X x)(j:X.mg x=none)(k:SX X c a pa)(hs:cv [a] X.env=(a_,er a X.env)::cv [] X.env:=by rfl):SX X c (.Call (.Name x p') [a] [] pos) (.blt .list [pa]):=by subst f;exact qp (λh=>o6 XH g j (by decide+kernel) h (he:=hs)) k (λρ=>rfl) rfl hs
theorem Kf(f:x="tuple")(g:Gl X x)(j:X.mg x=none)(k:SX X c a pa)(hs:cv [a] X.env=(a_,er a X.env)::cv [] X.env:=by rfl):SX X c (.Call (.Name x p') [a] [] pos) (.blt .tuple [pa]):=by subst f;exact qp (λh=>o6 QC g j (by decide+kernel) h (he:=hs)) k (λρ=>rfl) rfl hs
end
noncomputable def Rg(K:PySem.W.Frag)(np:Nat)(f:List Sl->Res R):Sp:=λvs H Q _=>vs.length=np/\∃F args r a,GS K F args (vs.map a7) H/\f args=.ok r a/\∀v c σ' b,aq K F args (vs.map a7) H c a σ' b->di K c a σ' b args (vs.map a7) H v r->Q v b
section
variable{K:PySem.W.Frag}
noncomputable def Cw(K:PySem.W.Frag)(F:Hp)(ρ:List Sl)(σ:_L.St)(H:Hp)(ρ₀:List Sl)(H₀:Hp)(v:V):Arg->Prop|.dat d=>Rep K F v d|.tmp ds=>∃x xs,v=.ref x/\H x=a7 (.lst xs)/\F x=none/\aH K F xs ds/\¬ Own ρ σ x/\(Own ρ₀ σ x\/H₀ x=none)|.gH i=>σ[i]?=a7 (a7 v)
structure Aa(K:PySem.W.Frag)(F:Hp)(ρ:List Sl)(σ:_L.St)(H:Hp)(ρ₀:List Sl)(H₀:Hp)(as:List Arg)(vs:List V):Prop where
 len:as.length=vs.length
 one:∀(j:Nat)(a:Arg)(v:V),as[j]?=a7 a->vs[j]?=a7 v->Cw K F ρ σ H ρ₀ H₀ v a
 dis:∀(j k:Nat)(ds es:List D)(x:ce),as[j]?=a7 (.tmp ds)->as[k]?=a7 (.tmp es)->vs[j]?=a7 (.ref x)->vs[k]?=a7 (.ref x)->j=k
theorem Cw.later{b f:Hp}{a:Arg}(s:aq K F ρ σ H b ρ' σ f)(h:Cw K F ρ σ H ρ₀ H₀ v a):Cw K b ρ' σ f ρ₀ H₀ v a:=by cases a with|dat d=>exact Rep.mono s.bY h|gH i=>exact h|tmp ds=>
   obtain⟨x,xs,h1,c,g,j,e,k⟩:=h;refine⟨x,xs,h1,s.keep x _ c e,?_,j.mono s.bY,λo=>?_,k⟩;.cases q:b x with|none=>rfl|some o=>
       rcases s.yK x g (by rw[q];simp)with z|z;.exact absurd z e
       .exact(Mt c z).elim
   . rcases s.yL x o with z|z;.exact e z
     .rw[c]at z;cases z
theorem Aa.nil:Aa K F ρ σ H ρ₀ H₀ [] []:=⟨rfl,λj a v h=>by simp at h,λj k ds es x h=>by simp at h⟩
theorem Aa.cons{F H H₀:Hp}{ρ ρ₀:List Sl}{σ:_L.St}{a:Arg}{v:V}{as:List Arg}{vs:List V}(h:Cw K F ρ σ H ρ₀ H₀ v a)(t:Aa K F ρ σ H ρ₀ H₀ as vs)(hd:∀ds x,a=.tmp ds->v=.ref x->∀(k:Nat)es,as[k]?=a7 (.tmp es)->vs[k]?≠a7 (.ref x)):Aa K F ρ σ H ρ₀ H₀ (a::as) (v::vs):=by
 refine⟨by simp[t.len],λj b u h1 c=>?_,λj k ds es x h1 c e f=>?_⟩;.cases j with|zero=>simp at h1 c;subst h1;subst c;exact h|succ j=>exact t.one j b u (by simpa using h1) (by simpa using c)
 .cases j with
   |zero=>cases k with|zero=>rfl|succ k=>simp at h1 e;exact absurd (by simpa using f) (hd ds x h1 e k es (by simpa using c))
   |succ j=>cases k with|zero=>simp at c f;exact absurd (by simpa using e) (hd es x c f j ds (by simpa using h1))|succ k=>rw[t.dis j k ds es x (by simpa using h1) (by simpa using c) (by simpa using e) (by simpa using f)]
noncomputable def Mp(ρ:List Sl):Arg->Sl->Prop|.dat d,s=>s=.val a_ d|.tmp ds,s=>s=.own a_ ds|.gH i,s=>(∃b d,ρ[i]?=a7 (.val b d)/\s=.val a_ d)\/(∃b ds,ρ[i]?=a7 (.own b ds)/\s=.own bT ds)\/∃ds,ρ[i]?=a7 (.lent ds)/\s=.lent ds
theorem uF{ρ:List Sl}:∀{as:List Arg}{c:List Nat}{args:List Sl},bV ρ as c=a7 args->args.length=as.length/\(∀(j:Nat)(a:Arg)(s:Sl),as[j]?=a7 a->args[j]?=a7 s->Mp ρ a s)/\(∀(j:Nat)(i:Nat)(s:Sl)ds,as[j]?=a7 (.gH i)->args[j]?=a7 s->lst? s=a7 ds->i∉c)/\(∀(j k:Nat)(i:Nat)(s t:Sl)ds es,as[j]?=a7 (.gH i)->as[k]?=a7 (.gH i)->args[j]?=a7 s->args[k]?=a7 t->lst? s=a7 ds->lst? t=a7 es->j=k)
 |[],c,args,h=>by rw[mK]at h;cases h;exact⟨rfl,λj a s h=>by simp at h,λj i s ds h=>by simp at h,λj k i s t ds es h=>by simp at h⟩|a::as,c,args,h=>by--the agT slot,the agU
   have key:∃s0 r u,args=s0::r/\bV ρ as u=a7 r/\Mp ρ a s0/\((∃i ds,a=.gH i/\lst? s0=a7 ds/\u=i::c/\i∉c)\/((∀i ds,a=.gH i->lst? s0≠a7 ds)/\u=c)):=by cases a with|dat d=>rw[mO]at h;obtain⟨r,g,l⟩:=map_some h;exact⟨_,r,c,l.symm,g,rfl,.inr ⟨λi ds z=>(by cases z),rfl⟩⟩|tmp d=>rw[mR]at h;obtain⟨r,g,l⟩:=map_some h;exact⟨_,r,c,l.symm,g,rfl,.inr ⟨λi ds z=>(by cases z),rfl⟩⟩|gH i=>
      rw[jJ]at h;split at h;.rename_i b d q;obtain⟨r,g,l⟩:=map_some h;exact⟨_,r,c,l.symm,g,.inl ⟨b,d,q,rfl⟩,.inr ⟨λ_ _ _ z=>(by cases z),rfl⟩⟩
      . rename_i b ds q;split at h;.cases h
        .rename_i o;obtain⟨r,g,l⟩:=map_some h;exact⟨_,r,_,l.symm,g,.inr (.inl ⟨b,ds,q,rfl⟩),.inl ⟨i,_,rfl,rfl,rfl,by simpa using o⟩⟩
      . rename_i ds q;split at h;.cases h
        .rename_i o;obtain⟨r,g,l⟩:=map_some h;exact⟨_,r,_,l.symm,g,.inr (.inr ⟨ds,q,rfl⟩),.inl ⟨i,_,rfl,rfl,rfl,by simpa using o⟩⟩
      .cases h
   obtain⟨s0,r,u,rfl,hr,A,o⟩:=key;obtain⟨M,l2,B,N⟩:=uF hr;have sub:∀i,i∉u->i∉c:=λi hi J=>by
    rcases o with⟨_,_,_,_,rfl,_⟩|⟨_,rfl⟩;.exact hi (dS _ J)
    .exact hi J
   refine⟨by simp[M],λj b s h1 f=>?_,λj i s ds h1 f p=>?_,λj k i s t ds es h1 f p y C E=>?_⟩;.cases j with|zero=>simp at h1 f;subst h1;subst f;exact A|succ j=>exact l2 j b s (by simpa using h1) (by simpa using f)
   .cases j with|zero=>
       simp at h1 f;subst h1;subst f;rcases o with⟨L,_,e,_,_,m⟩|⟨m,_⟩;.cases e;exact m
       .exact absurd p (m i ds rfl)|succ j=>exact sub i (B j i s ds (by simpa using h1) (by simpa using f) p)
   . have O:∀(k:Nat)(t:Sl)es,a=.gH i->lst? s0=a7 ds->(as[k]?=a7 (.gH i))->r[k]?=a7 t->lst? t=a7 es->False:=λk t es w G I ht he=>by
      rcases o with⟨L,_,e,_,rfl,m⟩|⟨m,_⟩;.rw[w]at e;cases e;exact B k i t es I ht he h9
      .exact m i ds w G
     have Q:∀(k:Nat)(t:Sl)es,a=.gH i->lst? s0=a7 es->(as[k]?=a7 (.gH i))->r[k]?=a7 t->lst? t=a7 ds->False:=λk t es w G I ht he=>by
      rcases o with⟨L,_,e,_,rfl,m⟩|⟨m,_⟩;.rw[w]at e;cases e;exact B k i t ds I ht he h9
      .exact m i es w G
     cases j with
     |zero=>cases k with|zero=>rfl|succ k=>simp at h1 p;subst p;exact(O k t es h1 C (by simpa using f) (by simpa using y) E).elim
     |succ j=>cases k with|zero=>simp at f y;subst y;exact(Q j s es f E (by simpa using h1) (by simpa using p) C).elim|succ k=>rw[N j k i s t ds es (by simpa using h1) (by simpa using f) (by simpa using p) (by simpa using y) C E]
theorem Aa.get{vs:List V}(A:Aa K F ρ σ H ρ₀ H₀ as vs){args:List Sl}{j:Nat}{s:Sl}(c:args.length=as.length)(h:args[j]?=a7 s):∃a v,as[j]?=a7 a/\vs[j]?=a7 v/\Cw K F ρ σ H ρ₀ H₀ v a:=by
 have e:j<args.length:=(fu h).1;have h1:j<as.length:=by omega
 have b:j<vs.length:=by rw[<-A.len];exact h1
 exact⟨as[j],vs[j],by simp[h1],by simp[b],A.one j _ _ (by simp[h1]) (by simp[b])⟩
theorem args_gs{vs:List V}{args:List Sl}(g:GS K F ρ σ H)(A:Aa K F ρ σ H ρ₀ H₀ as vs)(h:bV ρ as []=a7 args):GS K F args (vs.map a7) H:=by
 obtain⟨I,l2,l3,X⟩:=uF h;have M:∀{j:Nat}{v:V},vs[j]?=a7 v->(vs.map a7)[j]?=a7 (a7 v):=λe=>by rw[eV,e];rfl
 have dn:∀{j:Nat}{v:V},(vs.map a7)[j]?=a7 (a7 v)->vs[j]?=a7 v:=λ{j v}e=>by rw[eV]at e;cases q:vs[j]?with|none=>rw[q]at e;cases e|some w=>rw[q]at e;cases e;rfl
 refine⟨g.sub,by rw[I,A.len,ef],λj b d e=>?_,λj s ds e J=>?_,λj k x⟨⟨s,ds,e1,e2⟩,N⟩⟨⟨t,es,f1,f2⟩,f3⟩=>?_⟩;.obtain⟨a,v,h1,u,m⟩:=A.get I e;have B:=l2 j a _ h1 e;refine⟨v,M u,?_⟩;cases a with|dat d'=>cases B;exact m|tmp ds=>cases B|gH i=>
     rcases B with⟨b',d',r,c⟩|⟨_,_,_,c⟩|⟨_,_,c⟩;.cases c;obtain⟨w,f,p⟩:=g.val i b' d r;have m:σ[i]?=a7 (a7 v):=m;rw[m]at f;cases f;exact p
     .cases c
     .cases c
 .obtain⟨a,v,h1,u,m⟩:=A.get I e;have B:=l2 j a _ h1 e;cases a with|dat d'=>cases B;cases J|tmp es=>cases B;cases J;obtain⟨x,xs,rfl,c,f,p,_⟩:=m;exact⟨x,_,M u,c,f,xs,rfl,p⟩|gH i=>
     have m:σ[i]?=a7 (a7 v):=m;rcases B with⟨b',d',r,c⟩|⟨b',es,r,c⟩|⟨es,r,c⟩;.cases c;cases J
     .cases c;cases J;obtain⟨x,xs,f,p⟩:=g.own i _ _ r rfl;rw[m]at f;cases f;exact⟨x,xs,M u,p⟩
     .cases c;cases J;obtain⟨x,xs,f,p⟩:=g.own i _ _ r rfl;rw[m]at f;cases f;exact⟨x,xs,M u,p⟩
 . obtain⟨a,v,h1,u,m⟩:=A.get I e1;obtain⟨O,v',C,L,E⟩:=A.get I f1;have N:=dn N;have f3:=dn f3;rw[u]at N;cases N;rw[L]at f3;cases f3;have s1:=l2 j a _ h1 e1;have s2:=l2 k O _ C f1;have nm:∀{i:Nat}{s:Sl}{ds:Oc},lst? s=a7 ds->Mp ρ (.gH i) s->∃G o,ρ[i]?=a7 G/\lst? G=a7 o:=λ{i s ds}l z=>by
    rcases z with⟨_,_,_,z⟩|⟨b,es,q,_⟩|⟨es,q,_⟩;.subst z;cases l
    .exact⟨_,_,q,rfl⟩
    .exact⟨_,_,q,rfl⟩
   cases a with
   |dat d=>cases s1;cases e2|tmp Y=>cases O with|dat d=>cases s2;cases f2|tmp W=>exact A.dis j k Y W x h1 C u L|gH i=>obtain⟨y,_,r,_,_,_,c,_⟩:=m;cases r;obtain⟨G,o,f,p⟩:=nm f2 s2;exact absurd ⟨i,⟨G,o,f,p⟩,E⟩ c
   |gH i=>obtain⟨G,o,f,p⟩:=nm e2 s1;cases O with|dat d=>cases s2;cases f2|tmp W=>obtain⟨y,_,r,_,_,_,c,_⟩:=E;cases r;exact absurd ⟨i,⟨G,o,f,p⟩,m⟩ c|gH Z=>obtain⟨Q,U,q5,q6⟩:=nm f2 s2;have:=g.dis i Z x ⟨⟨G,o,f,p⟩,m⟩ ⟨⟨Q,U,q5,q6⟩,E⟩;subst this;exact X j k i s t ds es h1 C e1 f1 e2 f2
theorem pM{as:List Arg}{ss:List Sl}:∀(ρ:List Sl)(n i:Nat),(fK as ss n ρ)[i]?=(ρ[i]?).map λs=>dz s (aO (n+i) as ss)
 |[],n,i=>by simp[jz,ir]|s::ρ,n,0=>by simp[jz,ir]|s::ρ,n,i+1=>by
   rw[ir];simp only[ix];rw[pM ρ (n+1) i];have:n+1+i=n+(i+1):=by omega
   rw[this]
theorem pJ{as:List Arg}{ss:List Sl}:∀(ρ:List Sl)(n:Nat),(fK as ss n ρ).length=ρ.length|[],n=>rfl|s::ρ,n=>by rw[ir];simp[pJ ρ]
theorem jF{i:Nat}:∀{as:List Arg}{ss:List Sl}{t:Sl},aO i as ss=a7 t->∃j:Nat,as[j]?=a7 (.gH i)/\ss[j]?=a7 t
 |[],_,_,h=>by simp[aO]at h|a::as,[],_,h=>by cases a<;>simp[aO]at h|a::as,s::ss,t,h=>by
   have b:aO i as ss=a7 t->∃j:Nat,(a::as)[j]?=a7 (.gH i)/\(s::ss)[j]?=a7 t:=λh=>by obtain⟨j,h1,c⟩:=jF h;exact⟨j+1,by simpa using h1,by simpa using c⟩
   cases a with|dat d=>exact b (by simpa[aO]using h)|tmp d=>exact b (by simpa[aO]using h)|gH k=>
     rw[aO]at h;split at h;.rename_i e;cases h;subst e;exact⟨0,rfl,rfl⟩
     .exact b h
theorem mX{i:Nat}:∀{as:List Arg}{ss:List Sl},as.length=ss.length->aO i as ss=none->∀j:Nat,as[j]?≠a7 (.gH i)
 |[],_,_,_=>λj h=>by simp at h|a::as,[],b,_=>by simp at b|a::as,s::ss,b,h=>λj c=>by
   have f:as.length=ss.length:=by simpa using b
   have g:aO i as ss=none/\a≠.gH i:=by cases a with|dat d=>exact⟨by simpa[aO]using h,by simp⟩|tmp d=>exact⟨by simpa[aO]using h,by simp⟩|gH k=>
      rw[aO]at h;split at h;.cases h
      .rename_i l;exact⟨h,λe=>l (by cases e;rfl)⟩
   cases j with|zero=>simp at c;exact g.2 c|succ j=>exact mX f g.1 j (by simpa using c)
theorem uw{Q X H':Hp}{args c:List Sl}{σ':_L.St}{vs:List V}(s0:aq K Q ρ₀ σ H₀ F ρ σ H)(A:Aa K F ρ σ H ρ₀ H₀ as vs)(hb:bV ρ as []=a7 args)(s:aq K F args (vs.map a7) H X c σ' H'):aq K Q ρ₀ σ H₀ X (fK as c 0 ρ) σ H'/\∀v r,di K X c σ' H' args (vs.map a7) H v r->di K X (fK as c 0 ρ) σ H' ρ₀ σ H₀ v r:=by
 have g:=s0.gs;obtain⟨M,l2,l3,l4⟩:=uF hb;have up:∀{j:Nat}{v:V},vs[j]?=a7 v->(vs.map a7)[j]?=a7 (a7 v):=λe=>by rw[eV,e];rfl
 have dn:∀{j:Nat}{v:V},(vs.map a7)[j]?=a7 (a7 v)->vs[j]?=a7 v:=λ{j v}e=>by rw[eV]at e;cases q:vs[j]?with|none=>rw[q]at e;cases e|some w=>rw[q]at e;cases e;rfl
 have la:as.length=c.length:=by rw[s.len,M]--whose are the lists that the callee holds
 have own:∀b,Own args (vs.map a7) b->(∃(j:Nat)(ds:List D),as[j]?=a7 (Arg.tmp ds)/\vs[j]?=a7 (V.ref b)/\¬ Own ρ σ b/\(Own ρ₀ σ b\/H₀ b=none))\/Own ρ σ b:=λb⟨j,⟨sl,ds,E,U⟩,e3⟩=>by obtain⟨a,v,h1,C,J⟩:=A.get M E;have s1:=l2 j a _ h1 E;have e3:=dn e3;rw[C]at e3;cases e3;cases a with|dat d=>cases s1;cases U|tmp es=>obtain⟨x,_,k,_,_,_,f,N⟩:=J;cases k;exact .inl ⟨j,es,h1,C,f,N⟩|gH i=>
    right;rcases s1 with⟨_,_,_,z⟩|⟨b',es,q,_⟩|⟨es,q,_⟩;.subst z;cases U
    .exact⟨i,⟨_,_,q,rfl⟩,J⟩
    .exact⟨i,⟨_,_,q,rfl⟩,J⟩
 have back:∀b,Own ρ σ b\/H b=none->Own ρ₀ σ b\/H₀ b=none:=λb h=>by
  rcases h with h|h;.exact s0.yL b h
  . by_cases ho:Own ρ₀ σ b;.exact .inl ho
    .right;cases e:H₀ b with|none=>rfl|some o=>rw[s0.keep b o e ho]at h;cases h
 have L:∀b,Own args (vs.map a7) b->Own ρ₀ σ b\/H₀ b=none:=λb h=>by
  rcases own b h with⟨_,_,_,_,_,z⟩|z;.exact z
  .exact back b (.inl z)--a name's slot behind the call
 have slot:∀{i:Nat}{t:Sl},(fK as c 0 ρ)[i]?=a7 t->∃s1,ρ[i]?=a7 s1/\t=dz s1 (aO i as c):=λ{i t}h=>by rw[pM]at h;obtain⟨s1,E,U⟩:=map_some h;exact⟨s1,E,by rw[<-U,ri]⟩
 have ae:∀{i:Nat}{s1:Sl},ρ[i]?=a7 s1->(fK as c 0 ρ)[i]?=a7 (dz s1 (aO i as c)):=λ{i s1}h=>by rw[pM,h,ri];rfl--what the callee left of a list that was lent to it
 have lent:∀{i j:Nat}{s1 t:Sl}{ds:List D},ρ[i]?=a7 s1->lst? s1=a7 (.l ds)->as[j]?=a7 (.gH i)->c[j]?=a7 t->∃v s2,σ[i]?=a7 (a7 v)/\σ'[j]?=a7 (a7 v)/\args[j]?=a7 s2/\ou s2 t/\((∃b,s1=.own b ds/\s2=.own bT ds)\/(s1=.lent ds/\s2=.lent ds)):=λ{i j s1 t ds}h1 C J h4=>by
  have Y:j<args.length:=by rw[M];exact(fu J).1
  have E:args[j]?=a7 args[j]:=by simp[Y]
  obtain⟨a,v,k,f,N⟩:=A.get M E;rw[J]at k;cases k;have q4:=l2 j _ _ J E;have kind:(∃b,s1=.own b ds/\args[j]=.own bT ds)\/(s1=.lent ds/\args[j]=.lent ds):=by
   rcases q4 with⟨_,_,z,_⟩|⟨b,es,z,z'⟩|⟨es,z,z'⟩;.rw[h1]at z;cases z;cases C
   .rw[h1]at z;cases z;cases C;exact .inl ⟨b,rfl,z'⟩
   .rw[h1]at z;cases z;cases C;exact .inr ⟨rfl,z'⟩
  have lk:uL args[j]=bT:=by rcases kind with⟨_,_,z⟩|⟨_,z⟩<;>rw[z]<;>rfl
  obtain⟨u,s',y,z3⟩:=s.lk j _ E lk;rw[h4]at y;cases y;exact⟨v,_,N,by rw[u];exact up f,E,z3,kind⟩
 have RB:∀{i:Nat}{x:ce},aQ (fK as c 0 ρ) σ i x->aQ ρ σ i x:=λ{i x}⟨⟨t,ds,E,U⟩,e3⟩=>by obtain⟨s1,k,f⟩:=slot E;refine⟨?_,e3⟩;cases s1 with|aM=>subst f;cases U|val b d=>subst f;cases U|own b es=>exact⟨_,_,k,rfl⟩|lent es=>exact⟨_,_,k,rfl⟩|gZ m=>exact⟨_,_,k,rfl⟩|cY m=>exact⟨_,_,k,rfl⟩|hold _=>subst f;cases U
 refine⟨?_,λv r h=>?_⟩;rotate_left;.cases r with|val d=>exact h|own ds=>
     obtain⟨x,xs,h1,C,J,h4,h5,h6⟩:=h;refine⟨x,xs,h1,C,J,h4,λ⟨i,h⟩=>?_,?_⟩
     . have hO:=RB h;obtain⟨⟨s1,Yb,k,f⟩,N⟩:=hO;obtain⟨x',ai,w1,w2,_⟩:=g.own i s1 Yb k f;rw[N]at w1;cases w1;rcases h6 with h6|h6
       . rcases own x h6 with⟨_,_,_,_,z,_⟩|_;.exact z ⟨i,⟨s1,Yb,k,f⟩,N⟩
         .--a name was lent
           obtain⟨j,⟨sl,es,Z,w4⟩,w5⟩:=h6;obtain⟨a',v',G,O,y3⟩:=A.get M Z;have sa:=l2 j a' _ G Z;have w5:=dn w5;rw[O]at w5;cases w5;cases a' with|dat d=>cases sa;cases w4|tmp am=>obtain⟨_,_,u1,_,_,_,u2,_⟩:=y3;cases u1;exact u2 ⟨i,⟨s1,Yb,k,f⟩,N⟩|gH i'=>
             have ex:∃s' ac,ρ[i']?=a7 s'/\lst? s'=a7 ac:=by
              rcases sa with⟨_,_,_,z⟩|⟨b,es,q,_⟩|⟨es,q,_⟩;.subst z;cases w4
              .exact⟨_,_,q,rfl⟩
              .exact⟨_,_,q,rfl⟩
             have:=g.dis i i' x ⟨⟨s1,Yb,k,f⟩,N⟩ ⟨ex,y3⟩;subst this;have hk:∃Rz,Yb=.l Rz:=by
              rcases sa with⟨_,_,_,z⟩|⟨b,es,q,_⟩|⟨es,q,_⟩;.subst z;cases w4
              .rw[k]at q;cases q;cases f;exact⟨_,rfl⟩
              .rw[k]at q;cases q;cases f;exact⟨_,rfl⟩
             obtain⟨Rz,rfl⟩:=hk;have Y:j<c.length:=by rw[<-la];exact(fu G).1
             have B:c[j]?=a7 c[j]:=by simp[Y]
             obtain⟨v2,s2,u1,u2,u3,u4,u5⟩:=lent k f G B;rw[N]at u1;cases u1--the slot behind the call is a list's
             obtain⟨⟨t,dt,t1,t2⟩,_⟩:=h;obtain⟨s3,t3,t4⟩:=slot t1;rw[k]at t3;cases t3;have lo:∃t5,aO i as c=a7 t5:=by cases I:aO i as c with|none=>exact absurd G (mX la I j)|some t5=>exact⟨t5,rfl⟩
             obtain⟨t5,I⟩:=lo;obtain⟨j2,t6,t7⟩:=jF I;have ap:j2<args.length:=by rw[M];exact(fu t6).1
             obtain⟨_,s6,_,ar,af,av,ag⟩:=lent k f t6 t7;have ah:j2=j:=by
              have a1:lst? s6=a7 (.l Rz):=by rcases ag with⟨_,_,z⟩|⟨_,z⟩<;>rw[z]<;>rfl
              have a2:lst? s2=a7 (.l Rz):=by rcases u5 with⟨_,_,z⟩|⟨_,z⟩<;>rw[z]<;>rfl
              exact l4 j2 j i s6 s2 _ _ t6 G af u3 a1 a2
             subst ah;rw[B]at t7;cases t7;rw[I]at t4;refine h5 ⟨j2,?_,u2⟩;rcases u5 with⟨b,u,y⟩|⟨u,y⟩
             . subst u;subst y;rcases u4 with⟨d2,z⟩|⟨d2,z⟩;.exact⟨_,.l d2,B,by rw[z];rfl⟩
               .rw[z]at t4;subst t4;cases t2
             .subst u;subst y;exact⟨_,.l Rz,B,by rw[show c[j2]=.lent Rz from u4];rfl⟩
       .rw[w2]at h6;cases h6
     . rcases h6 with h6|h6;.exact L x h6
       .exact back x (.inr h6)
 refine⟨⟨s.gs.sub,by rw[pJ];exact g.len,λi b d e=>?_,λi t ds e B=>?_,λi j x h1 C=>g.dis i j x (RB h1) (RB C)⟩,s0.bY.trans s.bY,λb n n'=>?_,λb o h n=>?_,λb⟨i,h⟩=>back b (.inl ⟨i,RB h⟩),by rw[pJ];exact s0.len,λi s1 h l=>?_⟩;.--data
   obtain⟨s1,k,f⟩:=slot e;cases s1 with|aM=>cases f|lent es=>cases f|gZ _=>cases f|cY _=>cases f|hold _=>cases f|val b' d'=>cases f;obtain⟨v,u,y⟩:=g.val i b d k;exact⟨v,u,y.mono s.bY⟩|own b' es=>cases I:aO i as c with|none=>rw[I]at f;cases f|some t=>rw[I]at f;obtain⟨j,u,y⟩:=jF I;obtain⟨v,s2,G,O,y3,y4,p⟩:=lent k rfl u y;cases t with|aM=>cases f|own _ _=>cases f|lent _=>cases f|gZ _=>cases f|cY _=>cases f|hold _=>cases f|val b2 d2=>cases f;obtain⟨w,W,x2⟩:=s.gs.val j b2 d y;rw[O]at W;cases W;exact⟨v,G,x2⟩
 .--lists
   obtain⟨s1,k,f⟩:=slot e--a list that was not lent
   have stay:∀es,lst? s1=a7 es->(∀j:Nat,as[j]?≠a7 (.gH i))->t=s1->∃(a:ce)(xs:HO),σ[i]?=a7 (a7 (V.ref a))/\H' a=a7 xs/\X a=none/\mF K X xs ds:=λes he hn ht=>by
    subst ht;rw[he]at B;cases B;obtain⟨a,xs,u,y,z3,z4⟩:=g.own i _ ds k he;have no:¬ Own args (vs.map a7) a:=λh=>by obtain⟨j,⟨sl,es,w1,w2⟩,Z⟩:=h;obtain⟨a',v,h1,C,J⟩:=A.get M w1;have sa:=l2 j a' _ h1 w1;have Z:=dn Z;rw[C]at Z;cases Z;cases a' with|dat d=>cases sa;cases w2|tmp es=>obtain⟨x,_,G,_,_,_,O,_⟩:=J;cases G;exact O ⟨i,⟨_,ds,k,he⟩,u⟩|gH i'=>
       have:∃s' ac,ρ[i']?=a7 s'/\lst? s'=a7 ac:=by
        rcases sa with⟨_,_,_,z⟩|⟨b,es,q,_⟩|⟨es,q,_⟩;.subst z;cases w2
        .exact⟨_,_,q,rfl⟩
        .exact⟨_,_,q,rfl⟩
       have:=g.dis i i' a ⟨⟨_,ds,k,he⟩,u⟩ ⟨this,J⟩;subst this;exact hn j h1
    refine⟨a,xs,u,s.keep a _ y no,?_,z4.mono s.bY⟩;cases q:X a with|none=>rfl|some o=>
      rcases s.yK a z3 (by rw[q];simp)with z|z;.exact absurd z no
      .rw[y]at z;exact(Kq z4 z).elim
   cases I:aO i as c with
   |none=>have hn:=mX la I;rw[I]at f;cases s1 with|aM=>subst f;cases B|val b' d'=>subst f;cases B|own b' es=>exact stay _ rfl hn f|lent es=>exact stay _ rfl hn f|gZ m=>exact stay _ rfl hn f|cY m=>exact stay _ rfl hn f|hold _=>subst f;cases B
   |some t2=>rw[I]at f;obtain⟨j,u,y⟩:=jF I;cases s1 with
     |aM=>subst f;cases B|val b' d'=>subst f;cases B|hold _=>subst f;cases B|gZ m=>
       have Y:j<args.length:=by rw[M];exact(fu u).1
       rcases l2 j _ _ u (show args[j]?=a7 args[j]by simp[Y])with⟨_,_,z,_⟩|⟨_,_,z,_⟩|⟨_,z,_⟩<;>(rw[k]at z;cases z)|cY m=>
       have Y:j<args.length:=by rw[M];exact(fu u).1
       rcases l2 j _ _ u (show args[j]?=a7 args[j]by simp[Y])with⟨_,_,z,_⟩|⟨_,_,z,_⟩|⟨_,z,_⟩<;>(rw[k]at z;cases z)|own b' es=>
       obtain⟨v,s2,G,O,y3,y4,p⟩:=lent k rfl u y;have:t2≠.aM/\∀x,t2≠.lent x:=by
        rcases p with⟨_,_,p⟩|⟨p,_⟩;.subst p;rcases y4 with⟨_,rfl⟩|⟨_,rfl⟩<;>simp
        .cases p
       cases t2 with
       |aM=>exact absurd rfl this.1|hold x=>
         rcases p with⟨_,_,p⟩|⟨p,_⟩;.subst p;rcases y4 with⟨_,h⟩|⟨_,h⟩<;>cases h
         .cases p|gZ x=>
         rcases p with⟨_,_,p⟩|⟨p,_⟩;.subst p;rcases y4 with⟨_,h⟩|⟨_,h⟩<;>cases h
         .cases p|cY x=>
         rcases p with⟨_,_,p⟩|⟨p,_⟩;.subst p;rcases y4 with⟨_,h⟩|⟨_,h⟩<;>cases h
         .cases p|lent x=>exact absurd rfl (this.2 x)|val b2 d2=>subst f;cases B|own b2 aw=>subst f;cases B;obtain⟨a,xs,W,x2⟩:=s.gs.own j _ _ y rfl;rw[O]at W;cases W;exact⟨a,xs,G,x2⟩
     |lent es=>
       obtain⟨v,s2,G,O,y3,y4,p⟩:=lent k rfl u y;have ht:t=.lent es:=by rw[f];cases t2<;>rfl
       subst ht;cases B;rcases p with⟨_,p,_⟩|⟨_,p⟩;.cases p
       .subst p;cases(show t2=.lent es from y4);obtain⟨a,xs,W,x2⟩:=s.gs.own j _ _ y rfl;rw[O]at W;cases W;exact⟨a,xs,G,x2⟩
 . by_cases q:F b=none
   . rcases s.yK b q n' with z|z;.exact(L b z).imp id lK
     . by_cases ho:Own ρ₀ σ b;.exact .inl ho
       .right;cases f:H₀ b with|none=>rfl|some o=>rw[s0.keep b o f ho]at z;exact z
   .exact s0.yK b n q
 . refine s.keep b o (s0.keep b o h n) λz=>?_;rcases L b z with z|z;.exact n z
   .rw[h]at z;cases z
 .obtain⟨E,s2,C,k2⟩:=s0.lk i s1 h l;refine⟨E,_,ae C,?_⟩;have ZQ:=k2.uL l;refine ou.trans l k2 ?_;cases s2 with
   |aM=>cases ZQ|gZ _=>cases ZQ|cY _=>cases ZQ|hold _=>exact ou.refl _|val b d=>exact ou.refl _|lent es=>cases aO i as c with|none=>rfl|some t=>cases t<;>rfl
   |own b es=>cases b with|false=>cases ZQ|true=>cases aO i as c with|none=>exact .inl ⟨_,rfl⟩|some t=>cases t with|aM=>exact .inl ⟨_,rfl⟩|lent _=>exact .inl ⟨_,rfl⟩|gZ _=>exact .inl ⟨_,rfl⟩|cY _=>exact .inl ⟨_,rfl⟩|hold _=>exact .inl ⟨_,rfl⟩|own _ ds=>exact .inl ⟨_,rfl⟩|val _ d=>exact .inr ⟨_,rfl⟩
theorem Aa.rebase{F1 g k l:Hp}{c f:List Sl}{vs:List V}(a:aq K F ρ σ H F1 c σ g)(A:Aa K k f σ l c g as vs):Aa K k f σ l ρ H as vs:=by refine⟨A.len,λj b v h1 m=>?_,A.dis⟩;have h:=A.one j b v h1 m;cases b with|dat d=>exact h|gH i=>exact h|tmp ds=>
   obtain⟨x,xs,p,q,r,s,t,q6⟩:=h;refine⟨x,xs,p,q,r,s,t,?_⟩;rcases q6 with q6|q6;.exact a.yL x q6
   . by_cases ho:Own ρ σ x;.exact .inl ho
     .right;cases e:H x with|none=>rfl|some o=>rw[a.keep x o e ho]at q6;cases q6
theorem Aa.abq{F1 c e f:Hp}{a b:List Sl}{vs:List V}{r:R}(s1:aq K F ρ σ H F1 a σ c)(g:di K F1 a σ c ρ σ H v r)(s2:aq K F1 a σ c e b σ f)(A:Aa K e b σ f a c as vs):Aa K e b σ f ρ H (vJ r::as) (v::vs):=by
 have h1:Cw K F1 a σ c ρ H v (vJ r):=by cases r with|val d=>exact g|own ds=>exact g
 refine .cons (h1.later s2) (A.rebase s1) λds x m ev k es o j=>?_;cases r with|val d=>cases m|own p=>
   obtain⟨y,xs,l,q,u,w,s,B⟩:=g;rw[ev]at l;cases l;have h:=A.one k _ _ o j;obtain⟨z,C,t,_,_,_,_,w6⟩:=h;cases t;rcases w6 with w6|w6;.exact s w6
   .rw[q]at w6;cases w6
end
section
variable{K:PySem.W.Frag}{F F1 H H1:Hp}{ρ ρ1 ρ2:List Sl}{σ σ1:_L.St}
theorem yc{s:Sl}(h:put ρ i s=a7 ρ1):∃s0,ρ[i]?=a7 s0/\uL s0=a_/\ρ1=ρ.set i s:=by
 unfold put at h;split at h;.rename_i q;cases h;exact⟨_,q,rfl,rfl⟩
 .rename_i q;cases h;exact⟨_,q,rfl,rfl⟩
 .rename_i q;cases h;exact⟨_,q,rfl,rfl⟩
 .cases h
theorem aq.put{r:R}(s:aq K F ρ σ H F1 ρ1 σ1 H1)(w:di K F1 ρ1 σ1 H1 ρ σ H v r)(h:_H.put ρ1 i (Cu r)=a7 ρ2):aq K F ρ σ H F1 ρ2 (σ1.set i (a7 v)) H1:=by
 obtain⟨s0,h0,A,rfl⟩:=yc h;have hi:i<ρ1.length:=(fu h0).1;have m:i<σ1.length:=by rw[<-s.gs.len];exact hi
 have f:∀{j:Nat}{a:ce},j≠i->aQ (ρ1.set i (Cu r)) (σ1.set i (a7 v)) j a->aQ ρ1 σ1 j a:=λ{j a}c⟨⟨t,ds,o,p⟩,g⟩=>by rw[fY c]at o g;exact⟨⟨t,ds,o,p⟩,g⟩
 have new:∀{a:ce},aQ (ρ1.set i (Cu r)) (σ1.set i (a7 v)) i a->¬ Own ρ1 σ1 a/\(Own ρ σ a\/H a=none):=λ{a}⟨⟨t,ds,o,p⟩,g⟩=>by rw[cu hi]at o;rw[cu m]at g;cases o;cases g;cases r with|val d=>cases p|own es=>obtain⟨x,xs,G,B,C,E,I,J⟩:=w;cases G;exact⟨I,J⟩
 refine⟨⟨s.gs.sub,by simp[s.gs.len],λj b d e=>?_,λj t ds e y=>?_,λj k a h1 z=>?_⟩,s.bY,s.yK,s.keep,λa⟨j,c⟩=>?_,by simp[s.len],λj t e l=>?_⟩
 . by_cases c:j=i;.subst c;rw[cu hi]at e;cases r with|own es=>cases e|val d'=>cases e;exact⟨v,cu m,w⟩
   .rw[fY c]at e ⊢;exact s.gs.val j b d e
 . by_cases c:j=i;.subst c;rw[cu hi]at e;cases r with|val d'=>cases e;cases y|own es=>cases e;cases y;obtain⟨x,xs,rfl,B,C,E,_⟩:=w;exact⟨x,_,cu m,B,C,xs,rfl,E⟩
   .rw[fY c]at e ⊢;exact s.gs.own j t ds e y
 . by_cases c:j=i
   . by_cases q:k=i;.rw[c,q]
     .subst c;exact absurd ⟨k,f q z⟩ (new h1).1
   . by_cases q:k=i;.subst q;exact absurd ⟨j,f c h1⟩ (new z).1
     .exact s.gs.dis j k a (f c h1) (f q z)
 . by_cases u:j=i;.subst u;exact(new c).2
   .exact s.yL a ⟨j,f u c⟩
 . obtain⟨o,t1,p,g⟩:=s.lk j t e l;have c:j≠i:=by rintro rfl;rw[h0]at p;cases p;rw[g.uL l]at A;cases A
   exact⟨by rw[fY c];exact o,t1,by rw[fY c];exact p,g⟩
theorem GS.mut{x:Nat}{b:Bool}{es:List D}{a:ce}{ys:List V}(g:GS K F ρ σ H)(e:ρ[x]?=a7 (.own b ds))(p:σ[x]?=a7 (a7 (.ref a)))(r:aH K F ys es):aq K F ρ σ H F (ρ.set x (.own b es)) σ (upd H a (.lst ys)):=by
 have hi:x<ρ.length:=(fu e).1;have w:aQ ρ σ x a:=⟨⟨_,_,e,rfl⟩,p⟩;obtain⟨I,xs,h1,J,y,L⟩:=g.mZ x _ ds e rfl;rw[p]at h1;cases h1;have h:∀{j:Nat}{c:ce},aQ (ρ.set x (.own b es)) σ j c->aQ ρ σ j c:=λ{j c}⟨⟨t,dt,m,s⟩,q3⟩=>by
  by_cases f:j=x;.subst f;exact⟨⟨_,_,e,rfl⟩,q3⟩
  .rw[fY f]at m;exact⟨⟨t,dt,m,s⟩,q3⟩
 refine⟨⟨λc o q=>?_,by simp[g.len],λj b' d q=>?_,λj t dt q u=>?_,λj k c m s=>g.dis j k c (h m) (h s)⟩,.refl _,λc n A=>absurd n A,λc o q n=>?_,λc⟨j,q⟩=>.inl ⟨j,h q⟩,by simp,λj t q l=>⟨rfl,?_⟩⟩
 . have:c≠a:=by rintro rfl;rw[y]at q;cases q
   rw[aA this];exact g.sub c o q
 . by_cases f:j=x;.subst f;rw[cu hi]at q;cases q
   .rw[fY f]at q;exact g.val j b' d q
 . by_cases f:j=x;.subst f;rw[cu hi]at q;cases q;cases u;exact⟨a,_,p,aL,y,ys,rfl,r⟩
   . rw[fY f]at q;obtain⟨c,B,z,C,E,G⟩:=g.own j t dt q u;have:c≠a:=by rintro rfl;exact f (g.dis j x c ⟨⟨t,dt,q,u⟩,z⟩ w)
     exact⟨c,B,z,by rw[aA this];exact C,E,G⟩
 . have:c≠a:=by rintro rfl;exact n ⟨x,w⟩
   rw[aA this];exact q
 . by_cases f:j=x;.subst f;rw[e]at q;cases q;refine⟨_,cu hi,?_⟩;cases b with|true=>exact .inl ⟨_,rfl⟩|false=>cases l
   .exact⟨t,by rw[fY f];exact q,.refl t⟩
theorem GS.lend{b:Bool}(g:GS K F ρ σ H)(e:ρ[i]?=a7 (.own b ds)):GS K F (ρ.set i (.lent ds)) σ H:=by
 have hi:i<ρ.length:=(fu e).1;have f:∀{j:Nat}{c:ce},aQ (ρ.set i (.lent ds)) σ j c->aQ ρ σ j c:=λ{j c}⟨⟨t,dt,h,l⟩,q3⟩=>by
  by_cases a:j=i;.subst a;exact⟨⟨_,_,e,rfl⟩,q3⟩
  .rw[fY a]at h;exact⟨⟨t,dt,h,l⟩,q3⟩
 refine⟨g.sub,by simp[g.len],λj b' d q=>?_,λj t dt q m=>?_,λj k c h l=>g.dis j k c (f h) (f l)⟩
 . by_cases a:j=i;.subst a;rw[cu hi]at q;cases q
   .rw[fY a]at q;exact g.val j b' d q
 . by_cases a:j=i;.subst a;rw[cu hi]at q;cases q;cases m;exact g.own j _ _ e rfl
   .rw[fY a]at q;exact g.own j t dt q m
theorem aq.aP{b:Bool}(g:GS K F ρ σ H)(e:ρ[i]?=a7 (.own b ds))(s:aq K F (ρ.set i (.lent ds)) σ H F1 ρ1 σ1 H1):aq K F ρ σ H F1 (ρ1.set i (.own b ds)) σ1 H1/\∀v r,di K F1 ρ1 σ1 H1 (ρ.set i (.lent ds)) σ H v r->di K F1 (ρ1.set i (.own b ds)) σ1 H1 ρ σ H v r:=by
 have hi:i<ρ.length:=(fu e).1;have h1:(ρ.set i (.lent ds))[i]?=a7 (.lent ds):=cu hi;obtain⟨C,E,z,G⟩:=s.lk i _ h1 rfl;cases(show E=.lent ds from G);have u:i<ρ1.length:=(fu z).1;have A:∀{j:Nat}{c:ce},aQ (ρ.set i (.lent ds)) σ j c->aQ ρ σ j c:=λ{j c}⟨⟨t,dt,f,p⟩,m⟩=>by
  by_cases a:j=i;.subst a;exact⟨⟨_,_,e,rfl⟩,m⟩
  .rw[fY a]at f;exact⟨⟨t,dt,f,p⟩,m⟩
 have I:∀{c:ce},Own ρ σ c->Own (ρ.set i (.lent ds)) σ c:=λ{c}⟨j,⟨t,dt,f,p⟩,m⟩=>by
  by_cases a:j=i;.subst a;exact⟨j,⟨_,_,h1,rfl⟩,m⟩
  .exact⟨j,⟨t,dt,by rw[fY a];exact f,p⟩,m⟩
 have y:∀{j:Nat}{c:ce},aQ (ρ1.set i (.own b ds)) σ1 j c->aQ ρ1 σ1 j c:=λ{j c}⟨⟨t,dt,f,p⟩,m⟩=>by
  by_cases a:j=i;.subst a;exact⟨⟨_,_,z,rfl⟩,m⟩
  .rw[fY a]at f;exact⟨⟨t,dt,f,p⟩,m⟩
 have w:∀{c:ce}{h:Hp},Own (ρ.set i (.lent ds)) σ c\/h c=none->Own ρ σ c\/h c=none:=λ{c h}q=>q.imp (λ⟨j,q⟩=>⟨j,A q⟩) id;have J:∀{c:ce}{h:Hp},Own (ρ.set i (.lent ds)) σ c\/nt (h c)=none->Own ρ σ c\/nt (h c)=none:=λ{c h}q=>q.imp (λ⟨j,q⟩=>⟨j,A q⟩) id;refine⟨⟨⟨s.gs.sub,by simp[s.gs.len],λj b' d q=>?_,λj t dt q B=>?_,λj k c f p=>s.gs.dis j k c (y f) (y p)⟩,s.bY,λc n L=>J (s.yK c n L),λc o q n=>s.keep c o q λ⟨j,x⟩=>n ⟨j,A x⟩,λc⟨j,q⟩=>w (s.yL c ⟨j,y q⟩),by simpa using s.len,λj t q l=>?_⟩,λv r h=>?_⟩
 . by_cases a:j=i;.subst a;rw[cu u]at q;cases q
   .rw[fY a]at q;exact s.gs.val j b' d q
 . by_cases a:j=i;.subst a;rw[cu u]at q;cases q;cases B;exact s.gs.own j _ _ z rfl
   .rw[fY a]at q;exact s.gs.own j t dt q B
 . by_cases a:j=i;.subst a;rw[e]at q;cases q;refine⟨C,_,cu u,?_⟩;cases b with|true=>exact .inl ⟨_,rfl⟩|false=>cases l
   .obtain⟨M,t',N,O⟩:=s.lk j t (by rw[fY a];exact q) l;exact⟨M,t',by rw[fY a];exact N,O⟩
 .cases r with|val d=>exact h|own es=>obtain⟨x,xs,f,p,m,Q,U,W⟩:=h;exact⟨x,xs,f,p,m,Q,λ⟨j,q⟩=>U ⟨j,y q⟩,w W⟩
theorem GS.give(g:GS K F ρ σ H)(e:ρ[i]?=a7 (.own a_ ds)):∃v,σ[i]?=a7 (a7 v)/\aq K F ρ σ H F (ρ.set i .aM) σ H/\di K F (ρ.set i .aM) σ H ρ σ H v (.own ds):=by
 have hi:i<ρ.length:=(fu e).1;obtain⟨a,xs,h1,r,s,u⟩:=g.mZ i _ ds e rfl;have f:∀{j:Nat}{c:ce},aQ (ρ.set i .aM) σ j c->aQ ρ σ j c/\j≠i:=λ{j c}⟨⟨t,dt,h,m⟩,q3⟩=>by
  by_cases b:j=i;.subst b;rw[cu hi]at h;cases h;cases m
  .rw[fY b]at h;exact⟨⟨⟨t,dt,h,m⟩,q3⟩,b⟩
 have o:aQ ρ σ i a:=⟨⟨_,_,e,rfl⟩,h1⟩;refine⟨.ref a,h1,⟨⟨g.sub,by simp[g.len],λj b' d q=>?_,λj t dt q p=>?_,λj k c h m=>g.dis j k c (f h).1 (f m).1⟩,.refl _,λc n w=>absurd n w,λ_ _ q _=>q,λc⟨j,q⟩=>.inl ⟨j,(f q).1⟩,by simp,λj t q l=>⟨rfl,?_⟩⟩,a,xs,rfl,r,s,u,λ⟨j,q⟩=>?_,.inl ⟨i,o⟩⟩
 . by_cases b:j=i;.subst b;rw[cu hi]at q;cases q
   .rw[fY b]at q;exact g.val j b' d q
 . by_cases b:j=i;.subst b;rw[cu hi]at q;cases q;cases p
   .rw[fY b]at q;exact g.own j t dt q p
 . by_cases b:j=i;.subst b;rw[e]at q;cases q;cases l
   .exact⟨t,by rw[fY b];exact q,.refl t⟩
 .exact(f q).2 (g.dis j i a (f q).1 o)
theorem GS.more{τ:List (Option V)}(g:GS K F ρ σ H)(u:τ.length=n):GS K F (ρ++cp n .aM) (σ++τ) H:=by
 have get:∀{j:Nat}{t:Sl},(ρ++cp n Sl.aM)[j]?=a7 t->t≠.aM->ρ[j]?=a7 t/\j<ρ.length:=λ{j t}q ne=>by
  by_cases h:j<ρ.length;.rw[cS h]at q;exact⟨q,h⟩
  . rw[fg (by omega),hU]at q;split at q;.cases q;exact absurd rfl ne
    .cases q
 have m:∀{j:Nat}{v:Option V},j<ρ.length->(σ[j]?=a7 v↔(σ++τ)[j]?=a7 v):=λ{j v}h=>by rw[cS (by rw[<-g.len];exact h)]
 have e:∀{j:Nat}{c:ce},aQ (ρ++cp n .aM) (σ++τ) j c->aQ ρ σ j c:=λ{j c}⟨⟨t,dt,o,l⟩,q3⟩=>by obtain⟨h1,f⟩:=get o (by rintro rfl;cases l);exact⟨⟨t,dt,h1,l⟩,(m f).mpr q3⟩
 refine⟨g.sub,by simp[g.len,u],λj b d q=>?_,λj t dt q s=>?_,λj k c o l=>g.dis j k c (e o) (e l)⟩;.obtain⟨h1,f⟩:=get q (by simp);obtain⟨v,p,r⟩:=g.val j b d h1;exact⟨v,(m f).mp p,r⟩
 .obtain⟨h1,f⟩:=get q (by rintro rfl;cases s);obtain⟨a,xs,p,r⟩:=g.own j t dt h1 s;exact⟨a,xs,(m f).mp p,r⟩
theorem aq.less{τ:List (Option V)}{m:Nat}(J:m=ρ.length)(g:GS K F ρ σ H)(Z:τ.length=n)(s:aq K F (ρ++cp n .aM) (σ++τ) H F1 ρ1 σ1 H1):aq K F ρ σ H F1 (ρ1.take m) (σ1.take m) H1/\∀v r,di K F1 ρ1 σ1 H1 (ρ++cp n .aM) (σ++τ) H v r->di K F1 (ρ1.take m) (σ1.take m) H1 ρ σ H v r:=by
 subst J;have L:ρ.length<=ρ1.length:=by rw[s.len];simp
 have l2:ρ.length<=σ1.length:=by rw[<-s.gs.len];exact L
 have tk:∀{y:Type}{l:List y}{j:Nat}{x:y},(l.take ρ.length)[j]?=a7 x->l[j]?=a7 x/\j<ρ.length:=λ{y l j x}q=>by
  rw[ly]at q;split at q;.exact⟨q,by assumption⟩
  .cases q
 have A:∀{y:Type}{l:List y}{j:Nat}{x:y},j<ρ.length->l[j]?=a7 x->(l.take ρ.length)[j]?=a7 x:=λ{y l j x}f q=>by rw[ly,if_pos f];exact q
 have B:∀{c:ce},Own (ρ++cp n .aM) (σ++τ) c->Own ρ σ c:=λ{c}⟨j,⟨t,dt,e,p⟩,u⟩=>by
  by_cases f:j<ρ.length;.rw[cS f]at e;rw[cS (by rw[<-g.len];exact f)]at u;exact⟨j,⟨t,dt,e,p⟩,u⟩
  . rw[fg (by omega),hU]at e;split at e;.cases e;cases p
    .cases e
 have M:∀{c:ce},Own ρ σ c->Own (ρ++cp n .aM) (σ++τ) c:=λ{c}⟨j,⟨t,dt,e,p⟩,u⟩=>by have f:j<ρ.length:=(fu e).1;exact⟨j,⟨t,dt,by rw[cS f];exact e,p⟩,by rw[cS (by rw[<-g.len];exact f)];exact u⟩
 have z:∀{j:Nat}{c:ce},aQ (ρ1.take ρ.length) (σ1.take ρ.length) j c->aQ ρ1 σ1 j c:=λ{j c}⟨⟨t,dt,e,p⟩,u⟩=>⟨⟨t,dt,(tk e).1,p⟩,(tk u).1⟩;have w:∀{c:ce}{h:Hp},Own (ρ++cp n .aM) (σ++τ) c\/h c=none->Own ρ σ c\/h c=none:=λ{c h}q=>q.imp B id;have N:∀{c:ce}{h:Hp},Own (ρ++cp n .aM) (σ++τ) c\/nt (h c)=none->Own ρ σ c\/nt (h c)=none:=λ{c h}q=>q.imp B id;refine⟨⟨⟨s.gs.sub,by simp only[ky];omega,λj b d q=>?_,λj t dt q O=>?_,λj k c e p=>s.gs.dis j k c (z e) (z p)⟩,s.bY,λc a b=>N (s.yK c a b),λc o q n=>s.keep c o q λx=>n (B x),λc⟨j,q⟩=>w (s.yL c ⟨j,z q⟩),by simp only[ky];omega,λj t q l=>?_⟩,λv r h=>?_⟩;.obtain⟨h1,C⟩:=tk q;obtain⟨v,E,G⟩:=s.gs.val j b d h1;exact⟨v,A C E,G⟩
 .obtain⟨h1,C⟩:=tk q;obtain⟨a,xs,E,G⟩:=s.gs.own j t dt h1 O;exact⟨a,xs,A C E,G⟩
 .have f:j<ρ.length:=(fu q).1;obtain⟨I,t',Q,U⟩:=s.lk j t (by rw[cS f];exact q) l;rw[cS (by rw[<-g.len];exact f)]at I;refine⟨?_,t',A f Q,U⟩;rw[ly,if_pos f];exact I
 .cases r with|val d=>exact h|own es=>obtain⟨x,xs,e,p,u,W,X,Y⟩:=h;exact⟨x,xs,e,p,u,W,λ⟨j,q⟩=>X ⟨j,z q⟩,w Y⟩
end
section
variable{X:Cx}{c:Call}{n:Nat}{e a b d:dc}{p pa pb pd:P}{pos:Pos}{es:List dc}{ps:List P}
inductive aeo(K:PySem.W.Frag)(f:List Sl->Res (List Arg))(σ:_L.St)(H:Hp)(Q:List V->Hp->Prop):Prop where|mk(F:Hp)(ρ:List Sl)(as:List Arg)(ρ':List Sl)(g:GS K F ρ σ H)(e:f ρ=.ok as ρ')(k:∀vs F' H',aq K F ρ σ H F' ρ' σ H'->Aa K F' ρ' σ H' ρ H as vs->Q vs H')
noncomputable def SG(X:Cx)(c:Call)(es:List dc)(ps:List P):Prop:=PA X es (aeo X.K (Az c ps))
theorem az:SG X c [] []:=uA dw λσ H Q⟨F,ρ,as,ρ',g,e,k⟩=>by rw[Bp]at e;cases e;exact k [] F H (.refl g) .nil
theorem O1(q:SX X c a pa)(hr:SG X c es ps)(hs:cv (a::es) X.env=(a_,er a X.env)::cv es X.env:=by rfl):SG X c (a::es) (pa::ps):=by cases hv:isVar pa with|none=>refine uA (bj q.ev hr hs) ?_;rintro σ H Q⟨F,ρ,as,ρ',g,e,k⟩;rw[ym,hv]at e;obtain⟨r,f,s,e⟩:=aa e;obtain⟨xs,h,j,e⟩:=aa e;cases e;refine⟨F,ρ,r,f,g,s,λv F1 B s1 t=>⟨F1,f,xs,_,s1.gs,j,λvs l m s2 A=>k _ l m (s1.trans s2) (Aa.abq s1 t s2 A)⟩⟩|some i=>refine uA (bj (q.var i hv) hr hs) ?_;rintro σ H Q⟨F,ρ,as,ρ',g,e,k⟩;rw[ym,hv]at e;obtain⟨x0,u,w,e⟩:=aa e;obtain⟨o,y⟩:=aF w;subst y;obtain⟨xs,h,j,e⟩:=aa e;cases e;obtain⟨v,h1,_⟩:=g.pk o;exact⟨v,h1,F,ρ,xs,_,g,j,λvs l m s2 A=>k _ l m s2 (.cons h1 A λds x z=>by cases z)⟩
theorem Ql{k f:Nat}{t:ce}{fd:gX}{j:List Str}(J:jq X.prog X.w X.K X.mg X.base J9 k t fd j (Rg X.K j.length (c f)))(hr:jc k X.A)(L:Gl X x)(M:X.mg x=a7 (.ref t))(N:keepIn X.K (.ref t)=bT)(O:Binds X.K fd j [])(U:SG X c (e::es) ps)(W:(e::es).length=j.length)(u:(x==("__debug__":Str))=a_:=by decide)(he:cv (e::es) X.env=(a_,er e X.env)::cv es X.env:=by rfl)(hpl:(gI pos (cv es X.env)).any (·.1)=a_:=by rfl)(y:ps.length=(e::es).length:=by rfl):SX X c (.Call (.Name x p') (e::es) [] pos) (.call f ps):=by
 refine⟨dN (wD (E:=E0) J hr L M N O .nil aaa U u he hpl) ?_,λi h=>by cases h⟩;rintro σ H Q⟨F,ρ,r,ρ',g,e,k⟩;rw[_H.E14]at e;obtain⟨as,z,G,e⟩:=aa e;unfold jE at e;split at e;.cases e
 . rename_i args m;split at e
   . rename_i r' l hc;cases e;refine⟨F,ρ,as,z,g,G,λvs F1 Y s1 A=>?_⟩;have o:vs.length=j.length:=by
      have:∀{ps:List P}{ρ ρ':List Sl}{as:List Arg},Az c ps ρ=.ok as ρ'->as.length=ps.length:=by intro ps;induction ps with|nil=>intro ρ ρ' as h;rw[Bp]at h;cases h;rfl|cons q j I=>
         intro ρ ρ' as h;rw[ym]at h;split at h;.obtain⟨_,_,_,h⟩:=aa h;obtain⟨xs,B,C,h⟩:=aa h;cases h;simp[I C]
         .obtain⟨_,_,_,h⟩:=aa h;obtain⟨xs,B,C,h⟩:=aa h;cases h;simp[I C]
      rw[<-A.len,this G,y,W]
     show Rg X.K j.length (c f) (vs++[]) Y Q E0;rw[e_];refine⟨o,F1,args,r,l,args_gs s1.gs A m,hc,λv Z σ' H' s rr=>?_⟩;obtain⟨z1,z2⟩:=uw s1 A m s;exact k v Z H' z1 (z2 v r rr)
   .cases e
   .cases e
noncomputable def Kr(K:PySem.W.Frag)(D:Ends)(g:Hp)(ρ':List Sl)(σ':_L.St)(f:Hp)(ρ:List Sl)(σ:_L.St)(H:Hp)(fl:Fl):Prop:=match fl with|.next=>D.nx σ' f|.brk=>D.bk σ' f|.cont=>D.ct σ' f|.ret r=>∀v,di K g ρ' σ' f ρ σ H v r->D.rt v f
inductive tEx(K:PySem.W.Frag)(f:List Sl->Res Fl)(D:Ends)(σ:_L.St)(H:Hp):Prop where|mk(F:Hp)(ρ:List Sl)(fl:Fl)(ρ':List Sl)(g:GS K F ρ σ H)(e:f ρ=.ok fl ρ')(k:∀F' σ' H',aq K F ρ σ H F' ρ' σ' H'->Kr K D F' ρ' σ' H' ρ σ H fl)
noncomputable def SS(X:Cx)(c:Call)(n:Nat)(st:ey)(s:S):Prop:=PS X st (tEx X.K (ex c n s))
noncomputable def SB(X:Cx)(c:Call)(n:Nat)(st:List ey)(s:List S):Prop:=qi X st (tEx X.K (fW c n s))
theorem cO{st:ey}{t t':TS}(h:PS X st t)(i:∀D σ H,t' D σ H->t D σ H):PS X st t':=λf s σ H D I q=>h f s σ H D I (i D σ H q)
theorem iz{st:List ey}{t t':TS}(h:qi X st t)(i:∀D σ H,t' D σ H->t D σ H):qi X st t':=λf s σ H D I q=>h f s σ H D I (i D σ H q)
theorem xs0{c:Call}:fW c n [] ρ=.ok .next ρ:=rfl
theorem Wv{c:Call}{s:S}{r:List S}:fW c n (s::r) ρ=(ex c n s ρ).bind λfl ρ=>match fl with|.next=>fW c n r ρ|fl=>.ok fl ρ:=rfl
theorem ao:SB X c n [] []:=iz qT λD σ H⟨F,ρ,fl,ρ',g,e,k⟩=>by rw[xs0]at e;cases e;exact k F σ H (.refl g)
theorem aU{st:ey}{s:S}{sts:List ey}{ss:List S}(h1:SS X c n st s)(l:SB X c n sts ss):SB X c n (st::sts) (s::ss):=by refine iz (jj h1 l) ?_;rintro D σ H⟨F,ρ,fl,ρ',g,e,k⟩;rw[Wv]at e;obtain⟨f1,f,h,e⟩:=aa e;cases f1 with
 |next=>refine⟨F,ρ,.next,f,g,h,λF1 m w s1=>⟨F1,f,fl,ρ',s1.gs,e,λo j t s2=>?_⟩⟩;have q:=k o j t (s1.trans s2);cases fl with|next=>exact q|brk=>exact q|cont=>exact q|ret r=>exact λv u=>q v (u.later s1)
 |brk=>cases e;exact⟨F,ρ,.brk,_,g,h,k⟩|cont=>cases e;exact⟨F,ρ,.cont,_,g,h,k⟩|ret r=>cases e;exact⟨F,ρ,.ret r,_,g,h,k⟩
theorem aai{t1 t2:TE}(h1:PE X e t1)(g:PE X e t2):PE X e (λσ H Q=>t1 σ H Q\/t2 σ H Q):=λf s σ H Q I h=>h.elim (h1 f s σ H Q I) (g f s σ H Q I)
theorem VM(he:SX X c e p):SS X c n (.Return (a7 e) pos) (.ret p):=by
 have plain:∀(D:Ends)(σ:_L.St)(H:Hp),(∃F ρ fl ρ',GS X.K F ρ σ H/\((_H.ev c p ρ).bind λr ρ=>.ok (Fl.ret r) ρ)=.ok fl ρ'/\∀h σ' f,aq X.K F ρ σ H h ρ' σ' f->(match fl with|.next=>D.nx σ' f|.brk=>D.bk σ' f|.cont=>D.ct σ' f|.ret r=>∀v,di X.K h ρ' σ' f ρ σ H v r->D.rt v f))->yI X.K (_H.ev c p) σ H D.rt:=λD σ H⟨F,ρ,fl,ρ',g,e,k⟩=>by obtain⟨r,j,l,e⟩:=aa e;cases e;exact⟨F,ρ,r,_,g,l,λv F1 m s1 o=>k F1 σ m s1 v o⟩
 cases hv:isVar p with|none=>refine cO (xO he.ev) λD σ H⟨F,ρ,fl,ρ',g,e,k⟩=>plain D σ H ⟨F,ρ,fl,ρ',g,?_,k⟩;rw[_H.X11,hv]at e;exact e|some i=>--by the name itself:its own list is handed back,else its data
   have s:p=.var i:=by cases p<;>cases hv;rfl
   subst s;refine cO (xO (aai (he.var i hv) he.ev)) ?_;rintro D σ H⟨F,ρ,fl,ρ',g,e,k⟩;rw[_H.X11,hv]at e;dsimp only at e;split at e;.rename_i ds q;cases e;obtain⟨v,h1,t,u⟩:=g.give q;exact .inl ⟨v,h1,k F σ H t v u⟩
   .exact .inr (plain D σ H ⟨F,ρ,fl,ρ',g,e,k⟩)
theorem iR{m o:List ey}{s tb:List S}(hc:ST X c e p)(t:SB X c n m s)(u:SB X c n o tb):SS X c n (.If e m o pos) (.ifs p s tb):=by refine cO (Eo hc t u) ?_;rintro D σ H⟨F,ρ,fl,ρ',g,e,k⟩;rw[_H.X13]at e;obtain⟨x,j,w,e⟩:=aa e;refine⟨F,ρ,x,j,g,w,λF1 y s1=>?_⟩;have go:∀{f:List Sl->Res Fl},f j=.ok fl ρ'->tEx X.K f D σ y:=λ{f}h=>⟨F1,j,fl,ρ',s1.gs,h,λz l A s2=>by have q:=k z l A (s1.trans s2);cases fl with|next=>exact q|brk=>exact q|cont=>exact q|ret r=>exact λv B=>q v (B.later s1)⟩;cases x with|true=>rw[if_pos rfl]at e;exact go e|false=>rw[if_neg eh]at e;exact go e
theorem sI{f:Pos}(l:X.N.Nodup)(hi:X.N[i]?=a7 x)(m:Loc X.env.scope x)(he:SX X c e p)(hs:fy e (a7 (.Name x f)) pos.line X.env=eS a_:=by rfl)(o:X.fn x=bT\/X.env.scope.names.lookup x=a7 .local:=by first|(left;rfl)|(right;rfl)|assumption):SS X c n (.Assign [.Name x f] e pos) (.asg i p):=by refine cO (o7 l hi m he.ev hs o) ?_;rintro D σ H⟨F,ρ,fl,ρ',g,e,k⟩;rw[_H.X6]at e;obtain⟨r,j,q,e⟩:=aa e;obtain⟨s,t,h,e⟩:=aa e;cases e;have u:=aF h;clear h;obtain⟨h,z⟩:=u;exact⟨F,ρ,r,j,g,q,λv F1 w s1 y=>k F1 _ w (s1.put y h)⟩
end
end _H
namespace _L
open PySem Spec PyProof.Rows
variable{env:Env}{scope:iO}{X:Cx}
noncomputable def sW(X:Cx)(scope:iO)(N':List Str)(cl:List (Str×ce))(C:ce)(s₀:b_)(H₀:Hp)(ex:List ce):Cx:={X with N:=N',s₀:=s₀,H₀:=H₀,env:=compEnvC scope cl C X.env,outer:=X.stack,stack:=X.stack,ex:=ex,fn:=λx=>scope.names.lookup x==a7 .cell,pn:=[],xe:=λ_ _=>False}
theorem Ci(l:List (Str×ku)):∀(cs:List (Str×ce)),(∀n,(n,eK)∈l->∃c,env.cells.lookup n=a7 c)->(∀n c,cs.lookup n=a7 c->env.cells.lookup n=a7 c)->∃ cl,(forIn l cs (λ(x:Str × ku)(r:List (Str × ce))=>(if(x.2==eK)=bT then(do let a<-cellOf env x.1;eS (ib ((x.1,a)::r)))else eS (ib r):Sem (ForInStep (List (Str × ce))))):Sem (List (Str × ce)))=eS cl/\(∀n c,cl.lookup n=a7 c->env.cells.lookup n=a7 c)/\(∀n,((n,eK)∈l\/(cs.lookup n).isSome)->(cl.lookup n).isSome):=by induction l with|nil=>intro cs _ h;exact⟨cs,rfl,h,λn hn=>by rcases hn with hn|hn;cases hn;exact hn⟩|cons y l i=>
   obtain⟨n,k⟩:=y;intro cs b hc;rw[forIn_cons];by_cases f:k=.free
   . subst f;obtain⟨a,j⟩:=b n h9;obtain⟨cl,e,h1,g⟩:=i ((n,a)::cs) (λm hm=>b m (dS _ hm)) λm c hm=>by
      rw[fv]at hm;split at hm;.rename_i q;have q:=eq_of_beq q;subst q;cases hm;exact j
      .exact hc m c hm
     refine⟨cl,?_,h1,λm hm=>g m ?_⟩
     . rw[<-e];have:cellOf env n=eS a:=by unfold cellOf;rw[j]
       simp only[beq_self_eq_true,if_true,this];rfl
     . rcases hm with hm|hm
       . rcases c_.mp hm with hm|hm;.cases hm;right;simp[fv]
         .exact .inl hm
       . right;rw[fv];split;.rfl
         .exact hm
   . obtain⟨cl,e,h1,g⟩:=i cs (λm hm=>b m (dS _ hm)) hc;refine⟨cl,?_,h1,λm hm=>g m ?_⟩
     . rw[<-e];have:(k==eK)=a_:=by simpa using f
       simp only[this,gE,if_false];rfl
     . rcases hm with hm|hm
       . rcases c_.mp hm with hm|hm;.cases hm;exact absurd rfl f
         .exact .inl hm
       .exact .inr hm
theorem De(a:∀n,(n,eK)∈scope.names->∃c,env.cells.lookup n=a7 c):∃cl,closureFor scope env=eS cl/\(∀n c,cl.lookup n=a7 c->env.cells.lookup n=a7 c)/\∀n,(n,eK)∈scope.names->(cl.lookup n).isSome:=by obtain⟨cl,e,h1,b⟩:=Ci (env:=env) scope.names [] a (by simp);refine⟨cl,?_,h1,λn f=>b n (.inl f)⟩;unfold closureFor;exact(congrArg (λt=>t>>=λr=>eS r) e).trans rfl
theorem fL{env:Env}:∀(names:List (Str×ku))(x:Str),(names.map λ(n,k)=>if(k==eK&&env.scope.kind==.function&&env.kindOf n==a7 .cell)then(n,gn)else(n,k)).lookup x=(names.lookup x).map λk=>if(k==eK&&env.scope.kind==.function&&env.kindOf x==a7 .cell)=bT then gn else k
 |[],x=>rfl|(n,k)::r,x=>by
   have a:=fL (env:=env) r x;show List.lookup x ((if(k==eK&&env.scope.kind==.function&&env.kindOf n==a7 .cell)=bT then(n,gn)else(n,k))::_)=_;by_cases hc:(k==eK&&env.scope.kind==.function&&env.kindOf n==a7 .cell)=bT;.rw[if_pos hc,fv,fv];cases hx:x==n with|true=>have:=eq_of_beq hx;subst this;show a7 gn=a7 (if _ then _ else _);rw[if_pos hc]|false=>exact a
   .rw[if_neg hc,fv,fv];cases hx:x==n with|true=>have:=eq_of_beq hx;subst this;show a7 k=a7 (if _ then _ else _);rw[if_neg hc]|false=>exact a
noncomputable def Z5(N N':List Str)(a:iO):Bool:=(N.zip N').all λp=>(p.1==p.2&&a.names.lookup p.2==a7 .free)||(a.names.lookup p.2!=a7 .local&&a.names.lookup p.2!=a7 .cell&&a.names.lookup p.2!=a7 .free)
structure gj(X:Cx)(scope:iO)(N':List Str)(n:Nat):Prop where
 kind:scope.kind=.function
 cons:∀y∈scope.names,scope.names.lookup y.1=a7 y.2
 names:∀y∈scope.names,y.2=.local->scope.names.lookup y.1=a7 .local
 cap:∀y∈scope.names,y.2=.free->X.env.scope.names.lookup y.1=a7 .cell\/X.env.scope.names.lookup y.1=a7 .free
 len:N'.length=X.N.length+n
 same:Z5 X.N N' scope=bT
theorem gj.get{N':List Str}{n:Nat}(c:gj X scope N' n){i:Nat}{x:Str}(hi:i<X.N.length)(h:N'[i]?=a7 x)(a:uQ (ja scope X.env) x):X.N[i]?=a7 x/\scope.names.lookup x=a7 .free:=by
 have hz:(X.N.zip N')[i]?=a7 (X.N[i],x):=by rw[n3];exact⟨by simp[hi],h⟩
 have:=(fw.mp c.same) _ (dQ hz);simp only[mx,fk]at this;rcases this with⟨h1,b⟩|⟨⟨h1,b⟩,f⟩;.have h1:=eq_of_beq h1;have b:=eq_of_beq b;exact⟨by simp[hi,h1],b⟩
 . exfalso;have h1:scope.names.lookup x≠a7 .local:=by simpa using h1
   have b:scope.names.lookup x≠a7 .cell:=by simpa using b
   have f:scope.names.lookup x≠a7 .free:=by simpa using f
   have e:=fL (env:=X.env) scope.names x;have a:(ja scope X.env).names.lookup x=a7 .local\/(ja scope X.env).names.lookup x=a7 .cell\/(ja scope X.env).names.lookup x=a7 .free:=a;rw[show(ja scope X.env).names.lookup x=_ from e]at a;cases q:scope.names.lookup x with|none=>rw[q]at a;simp at a|some k=>
     rw[q]at a h1 b f;have g:(k==eK)=a_:=by cases k<;>first|rfl|exact absurd rfl f
     simp only[kw,g,k8,gE,if_false,Option.some.injEq]at a;rcases a with rfl|rfl|rfl;.exact h1 rfl
     .exact b rfl
     .exact f rfl
structure CI(cl:List (Str×ce))(z:Nat)(h:ej)(acc:List (Str×ce)):Prop where from':∀n c,acc.lookup n=a7 c->cl.lookup n=a7 c\/(z<=c/\h.IsCell c none)inj:∀n n' c,acc.lookup n=a7 c->acc.lookup n'=a7 c->n=n'
theorem Lb{cl:List (Str×ce)}{z:Nat}(i:∀n c,cl.lookup n=a7 c->c<z):∀(names:List (Str×ku))(h:ej)(f:List (Str×ce)),z<=h.objs.size->CI cl z h f->CI cl z (pushCells h names) (kg h.objs.size names f)/\(∀n,(f.lookup n).isSome->((kg h.objs.size names f).lookup n).isSome)/\(∀n,((∃c,f.lookup n=a7 c/\z<=c)\/(n,gn)∈names)->∃c,(kg h.objs.size names f).lookup n=a7 c/\z<=c)/\(∀n c,(n,gn)∉names->(kg h.objs.size names f).lookup n=a7 c->f.lookup n=a7 c)
 |[],h,f,hz,x=>by
   refine⟨x,λ_ q=>q,λn q=>?_,λ_ _ _ q=>q⟩;rcases q with q|q;.exact q
   .cases q|(name,kind)::r,h,f,hz,x=>by
   unfold pushCells kg;by_cases l:kind=.cell
   . subst l;rw[if_pos (by rfl),if_pos (by rfl)];have p:CI cl z (h.push {cls:=.type "cell",data:=.cell none}) ((name,h.objs.size)::f):=by
      have lt:∀n c,f.lookup n=a7 c->c<h.objs.size:=λn c e=>by
       rcases x.from' n c e with q|q;.exact dP (i n c q) hz
       .exact q.2.lt
      refine⟨λn c e=>?_,λn m c e j=>?_⟩
      . rw[fv]at e;split at e;.cases e;exact .inr ⟨hz,_,cy _ rfl,rfl⟩
        . rcases x.from' n c e with q|q;.exact .inl q
          .exact .inr ⟨q.1,q.2.keeps λb o e=>eG e⟩
      . rw[fv]at e j;split at e<;>split at j;.rename_i _ a _ b;rw[eq_of_beq a,eq_of_beq b]
        .cases e;exact absurd (lt m _ j) (h_ _)
        .cases j;exact absurd (lt n _ e) (h_ _)
        .exact x.inj n m c e j
     have g:=Lb i r (h.push {cls:=.type "cell",data:=.cell none}) ((name,h.objs.size)::f) (by rw[eu];omega) p;rw[eu]at g;refine⟨g.1,λn q=>g.2.1 n ?_,λn q=>g.2.2.1 n ?_,λn c q e=>?_⟩
     . rw[fv];split;.rfl
       .exact q
     . rcases q with⟨c,e,hc⟩|q
       . left;rw[fv];split;.exact⟨_,rfl,hz⟩
         .exact⟨c,e,hc⟩
       . rcases c_.mp q with q|q;.cases q;left;exact⟨_,by simp[fv],hz⟩
         .exact .inr q
     . have:=g.2.2.2 n c (λz=>q (dS _ z)) e;rw[fv]at this;split at this;.rename_i a;exact absurd (by rw[eq_of_beq a];exact h9) q
       .exact this
   . have k:(kind==gn)=a_:=by simpa using l
     rw[if_neg (by rw[k];decide),if_neg (by rw[k];decide)];have g:=Lb i r h f hz x;refine⟨g.1,g.2.1,λn q=>g.2.2.1 n ?_,λn c q e=>g.2.2.2 n c (λz=>q (dS _ z)) e⟩;rcases q with q|q;.exact .inl q
     . rcases c_.mp q with q|q;.cases q;exact absurd rfl l
       .exact .inr q
structure KY(X:Cx)(scope:iO)(z:Nat)(h:ej)(cs:List (Str×ce)):Prop where
 from':∀n c,cs.lookup n=a7 c->X.env.cells.lookup n=a7 c\/(z<c/\h.IsCell c none)inj:∀n n' c,cs.lookup n=a7 c->cs.lookup n'=a7 c->n=n'
 has:∀n,(scope.names.lookup n=a7 .free\/scope.names.lookup n=a7 .cell)->∃c,cs.lookup n=a7 c
 fre:∀n c,scope.names.lookup n=a7 .free->cs.lookup n=a7 c->X.env.cells.lookup n=a7 c
 own:∀n c,scope.names.lookup n=a7 .cell->cs.lookup n=a7 c->z<c
theorem GP{M:oj}{A:ek}{E:bx->b_->Prop}{s:b_}{N':List Str}{n:Nat}{cl:List (Str×ce)}{Q:Env->b_->Prop}(ok:gj X scope N' n)(h:∀n c,X.env.cells.lookup n=a7 c->c<s.heap.objs.size)(f:∀x y c,X.env.cells.lookup x=a7 c->X.env.cells.lookup y=a7 c->x=y)(a:∀n c,cl.lookup n=a7 c->X.env.cells.lookup n=a7 c)(l:∀n,(n,eK)∈scope.names->(cl.lookup n).isSome)(m:∀ cs h',h'.Ns s.heap.objs.size (λ_=>none)->(∀ b o,s.heap.get? b=a7 o->h'.get? b=a7 o)->KY X scope s.heap.objs.size h' cs->Q {scope:=scope,locals:=s.heap.objs.size,globals:=X.env.globals,cells:=cs,qual:=X.env.qual,func:=none,code:=X.env.code,frame:=X.env.frame,builtins:=X.env.builtins} {s with heap:=h'}):cz M A (oP scope X.env.globals cl [] X.env.qual none .none (a7 X.env)) Q E s:=by
 simp only[oP,Option.isSome_some,if_true];refine bd (wpAny_alloc ?_);refine bd (wpAny_layCells _ (λname kind cells=>by cases i:kind==gn<;>simp[i]) _ _ _ _ ?_);have ck:=Lb (cl:=cl) (z:=s.heap.objs.size+1) (λn c e=>Nat.lt_succ_of_lt (h n c (a n c e))) scope.names (s.heap.push {cls:=.type "dict",data:=.dict #[]}) cl (by rw[eu];exact dU) ⟨λn c e=>.inl e,λn k c e g=>f n k c (a n c e) (a k c g)⟩;obtain⟨c1,c2,c3,c4⟩:=ck;rw[show({s with heap:=s.heap.push {cls:=.type "dict",data:=.dict #[]}}:b_).heap.objs.size=(s.heap.push {cls:=.type "dict",data:=.dict #[]}).objs.size from rfl];refine bd ?_;rw[forIn_nil];refine cx (cx (m _ _ ((Heap.Ns.new s.heap (.type "dict")).keeps (pushCells_keeps _ _)) (λb o e=>pushCells_keeps _ _ b o (eG e)) ⟨λn c e=>?_,c1.inj,λn q=>?_,λn c q e=>?_,λn c q e=>?_⟩))
 . rcases c1.from' n c e with z|z;.exact .inl (a n c z)
   .exact .inr ⟨z.1,z.2⟩
 . rcases q with q|q;.exact gx.mp (c2 n (l n (PySem.mem_of_lookup q)))
   .obtain⟨c,e,_⟩:=c3 n (.inr (PySem.mem_of_lookup q));exact⟨c,e⟩
 .refine a n c (c4 n c (λz=>?_) e);have:=ok.cons _ z;rw[q]at this;cases this
 .obtain⟨p,g,j⟩:=c3 n (.inr (PySem.mem_of_lookup q));rw[e]at g;cases g;exact j
section
variable{X:Cx}{pins:List (ce×Obj)}{σ:_L.St}{H:Hp}{s:b_}{scope:iO}{N':List Str}{n:Nat}{fp:List ce}{cl:List (Str×ce)}
theorem Ng{h1:ej}{m:Str->Option bx}{t:Nat}{cs:List (Str×ce)}(ok:gj X scope N' n)(I:Inv X pins σ H s)(G:∀b∈fp,oX X pins H b/\b<s.heap.objs.size)(w:KY X scope s.heap.objs.size h1 cs)(U:h1.Ns s.heap.objs.size m)(j:∀b u,s.heap.get? b=a7 u->h1.get? b=a7 u):Inv (sW X scope N' cs s.heap.objs.size s H fp) [] (σ++cp n none) H {s with heap:=h1,toks:=t}:=by
 have J:∀x,scope.names.lookup x=a7 .free->(ja scope X.env).names.lookup x=a7 .cell\/(ja scope X.env).names.lookup x=a7 .free:=λx h=>by
  have e:=fL (env:=X.env) scope.names x;rw[h]at e;have L:(ja scope X.env).names.lookup x=_:=e;rw[L];simp only[kw];split;.exact .inl rfl
  .exact .inr rfl
 refine⟨⟨I.ok.mod,ok.kind,I.ok.glob,I.ok.blt,dU,λx y c h1 W=>w.inj x y c h1 W,λx z=>?_,λx c h e=>lT (w.own x c (eq_of_beq (show(scope.names.lookup x==a7 gn)=bT from h)) e),I.ok.hd,I.ok.frames,.inl rfl,λb B=>?_,I.bs,fR I.ok.Ii I.sz,λb u e B=>?_,λb B M=>?_,I.stack,I.qQ⟩,rfl,I.bare,Un.kept j,⟨m,U,λi x v Y C Z=>?_⟩,λx c e=>?_,I.hok.fresh (dU),λx c e=>?_,λp hp=>(by cases hp),I.hok.kept j,?_⟩;.--a ab7 name has its cell
   have z:(ja scope X.env).names.lookup x=a7 .cell\/(ja scope X.env).names.lookup x=a7 .free:=z;have e:=fL (env:=X.env) scope.names x;have L:(ja scope X.env).names.lookup x=_:=e;rw[L]at z;refine w.has x ?_;cases q:scope.names.lookup x with|none=>rw[q]at z;simp at z|some k=>
     rw[q]at z;by_cases hk:k=.free;.rw[hk];exact .inl rfl
     . have g:(k==eK)=a_:=by simpa using hk
       simp only[kw,g,k8,gE,if_false,Option.some.injEq]at z;rcases z with rfl|rfl;.exact .inr rfl
       .exact absurd rfl hk
 . obtain⟨f,lt⟩:=G b B;refine⟨ec lt,λx c e=>?_⟩;rcases w.from' x c e with e|e;.exact f.2.2.2.2.1 x c e
   .rintro rfl;exact absurd (pf e.1 lt) (h_ _)
 . obtain⟨f,lt⟩:=G b B;rcases f.2.2.2.1 with h|h;.exact I.ok.u0 b u e h
   .have this:b<X.base.objs.size:=du e;exact absurd (dP this (fR I.ok.Ii h)) (h_ _)
 . obtain⟨f,lt⟩:=G b B;rcases c_.mp (I.uv b M)with h|h;.exact f.2.1 h
   .exact f.2.2.1 h
 .--the names
   have hi:i<σ.length:=by
    by_cases hi:i<σ.length;.exact hi
    .rw[fg (by omega),hU]at C;split at C<;>cases C
   rw[cS hi]at C;obtain⟨N,o⟩:=ok.get (by rw[<-I.len];exact hi) Y Z;have hk:=ok.cap (x,.free) (PySem.mem_of_lookup o) rfl;obtain⟨m0,ac,hl⟩:=I.loc;obtain⟨u,r,l⟩:=hl i x v N C (.inr hk);refine⟨u,r,.inr ⟨J x o,?_⟩⟩;rcases l with⟨g,_⟩|⟨_,c,hc,A⟩;.have g:X.env.scope.names.lookup x=a7 .local:=g;rcases hk with hk|hk<;>(rw[g]at hk;cases hk)
   .obtain⟨c',E⟩:=w.has x (.inl o);have:=w.fre x c' o E;rw[hc]at this;cases this;refine⟨c,E,?_⟩;obtain⟨oc,O,Q⟩:=A;exact⟨oc,j c oc O,Q⟩
 . rcases w.from' x c e with e|e;.obtain⟨v,oc,O,Q⟩:=I.cell x c e;exact⟨v,oc,j c oc O,Q⟩
   .exact⟨_,e.2⟩
 . rcases w.from' x c e with e|e;.exact I.fZ x c e
   .exact I.hok.fresh (lT e.1)
 .show(σ++cp n none).length=N'.length;rw[ei,iP,I.len,ok.len]
theorem yu{prog:da}{w:eg}{A:ek}{R:Result->b_->Prop}{p a iter:dc}{ifs:List dc}{pos:Pos}{it q:bx}(I:Nat->b_->Prop)(t:∀ n s,I n s->cz (cK prog w) A (oD it) (λr b=>match r with|none=>R (.ok .next) b|some v=>cz (cK prog w) A (ln a it v) (λ_ b=>cz (cK prog w) A (kH a env v) (λ_ j=>cz (cK prog w) A (forIn ifs bT λc r=>if r=bT then do let ok<-isTrue c env (er c env);eS (ib ok)else eS (ib r)) (λok g=>if ok=bT then cz (cK prog w) A (er p env) (λx k=>cz (cK prog w) A (call (.builtin "list.append") [q,x]) (λ_ l=>∃m,m<n/\I m l) (m3 (cK prog w) A env λe i=>R (.error e) i) k) (m3 (cK prog w) A env λe i=>R (.error e) i) g else ∃m,m<n/\I m g) (m3 (cK prog w) A env λe i=>R (.error e) i) j) (m3 (cK prog w) A env λe i=>R (.error e) i) b) (m3 (cK prog w) A env λe i=>R (.error e) i) b) (m3 (cK prog w) A env λe i=>R (.error e) i) s)(n:Nat){s:b_}(h:I n s):li (cK prog w) A (.compLoop (.ListComp p [⟨a,iter,ifs,0⟩] scope pos) 0 it q env) R s:=by refine codeAny_loop rfl I (λn s B=>?_) n h;show cz _ A ((compTurn (.ListComp p [⟨a,iter,ifs,0⟩] scope pos) 0 it q env).onRaise (λx=>do nL x env;theTreesLotGoes x)) _ _ s;refine wpAny_noted ?_;rw[compTurn_list];refine bd (mo (bd (d_ (t n s B) (λr b f=>?_) λ_ _ h'=>h')));cases r with|none=>exact cx f|some v=>refine bd (d_ f (λ_ b f=>?_) λ_ _ h'=>h');refine bd (d_ f (λ_ j u=>bd (d_ u (λok g o=>?_) λ_ _ h'=>h')) λ_ _ h'=>h');cases ok with|false=>exact cx ⟨rfl,o⟩|true=>exact bd (bd (d_ o (λx k y=>bd (d_ y (λ_ l z=>cx (cx ⟨rfl,z⟩)) λ_ _ h'=>h')) λ_ _ h'=>h'))
noncomputable def Xd(X:Cx)(ifs:List dc)(t:TT):Prop:=∀(pins:List (ce × Obj))(s:b_)(σ:_L.St)(H:Hp)(Q:Bool->Hp->Prop),Inv X pins σ H s->t σ H Q->cz (cK X.prog X.w) X.A (forIn ifs bT λc r=>if r=bT then do let ok<-isTrue c X.env (er c X.env);eS (ib ok)else eS (ib r)) (TP X pins σ Q) X.xe s
theorem Rr:Xd X [] (λ_ H Q=>Q bT H):=λpins s σ H Q I h=>wpAny_tests_nil ⟨H,I,h⟩
theorem Ot{c:dc}{t:TT}(h:PT X c t):Xd X [c] t:=λpins s σ H Q I q=>wpAny_tests_one (h pins s σ H Q I q)
noncomputable def Sh(J:It)(g:TG)(tt:TT)(te:TE)(D:ce)(Q:Hp->Prop)(W:Nat->Nat->List V->_L.St->Hp->Prop):Prop:=∀ i m ys σ H,W i m ys σ H->H D=a7 (.lst ys)/\((J.stop i H/\Q H)\/(J.go i H/\∀ x e,J.Oo i H x e->g x σ e λa j=>tt a j λb f=>if b=bT then te a f λy h=>h D=a7 (.lst ys)/\ys.length<sizeLine/\∃c,c<m/\W (i+1) c (ys++[y]) a (upd h D (.lst (ys++[y])))else ∃c,c<m/\W (i+1) c ys a f))
theorem vH{E:bx->b_->Prop}{af a iter:dc}{ifs:List dc}{pos:Pos}{it:ce}{tn:Nat->ej->Prop}{J:It}{g:TG}{tt:TT}{te:TE}{Q:ce->Hp->Prop}{RR:bx->ce->Result->b_->Prop}(hc:X.calm=bT)(ok:gj X scope N' n)(I:Inv X pins σ H s)(bn:∀n c,cl.lookup n=a7 c->X.env.cells.lookup n=a7 c)(Dm:∀n,(n,eK)∈scope.names->(cl.lookup n).isSome)(T:Turn X.prog X.w X.K a J fp it tn)(h0:tn 0 s.heap)(hf:∀b∈fp,oX X pins H b)(hg:∀cl C s₀ H₀ ex,PG (sW X scope N' cl C s₀ H₀ ex) a g)(ht:∀cl C s₀ H₀ ex,Xd (sW X scope N' cl C s₀ H₀ ex) ifs tt)(he:∀cl C s₀ H₀ ex,PE (sW X scope N' cl C s₀ H₀ ex) af te)(hw:∀D,H D=none->∃W,(∃m,W 0 m [] (σ++cp n none) (upd H D (.lst [])))/\Sh J g tt te D (Q D) W)(bo:∀D C B l,Q D l->(∃m,B.heap.Ns C m)->oX X pins l C->Inv X pins σ l B->RR (.ref D) C (.ok .next) B):cz (cK X.prog X.w) X.A (newList []) (λav aw=>cz (cK X.prog X.w) X.A (oP scope X.env.globals cl [] X.env.qual none .none (a7 X.env)) (λai ax=>li (cK X.prog X.w) X.A (.compStart (.ListComp af [⟨a,iter,ifs,0⟩] scope pos) 0 (.ref it) av {ai with scope:=ja scope X.env}) (RR av ai.locals) ax) E aw) E s:=by
 refine et (GP ok (λx c e=>?lt) I.ok.inj bn Dm (λcs L am hold bc=>?_));case lt=>obtain⟨v,z⟩:=I.cell x c e;exact dP z.lt (by show _<=(s.heap.push _).objs.size;rw[eu];exact Nat.le_succ _)
 dsimp only at am hold bc ⊢--the new list,tracked
 have I3:Inv X pins σ (upd H s.heap.objs.size (.lst [])) {s with heap:=s.heap.push {cls:=.type "list",data:=.seq ([]:List bx).toArray}}:=I.Xz (t':=s.toks) .nil (uO);generalize ap:({s with heap:=s.heap.push {cls:=.type "list",data:=.seq ([]:List bx).toArray}}:b_)=s3 at I3;have hsz:s3.heap.objs.size=s.heap.objs.size+1:=by rw[<-ap];exact eu _ _
 have T9:s3.heap=s.heap.push {cls:=.type "list",data:=.seq ([]:List bx).toArray}:=by rw[<-ap]
 obtain⟨W,⟨m0,w0⟩,ay⟩:=hw s.heap.objs.size I.fresh;have aE:∀{h':ej},(∀b o,s.heap.get? b=a7 o->h'.get? b=a7 o)->tn 0 h':=λk=>T.keep _ _ _ h0 λb j o e=>k b o e;have ag:∀b∈fp,oX X pins (upd H s.heap.objs.size (.lst [])) b/\b<s3.heap.objs.size:=λb j=>by obtain⟨o,e,_⟩:=T.obj 0 _ h0 b j;have lt:=du e;obtain⟨f1,f2⟩:=hf b j;exact⟨⟨by rw[aA (ec lt)];exact f1,f2⟩,by rw[hsz];exact Nat.lt_succ_of_lt lt⟩
 rw[<-T9]at am hold bc ⊢;have I4:=Ng (t:=s3.toks) ok I3 ag bc am hold;have aI:∀b o,s.heap.get? b=a7 o->L.get? b=a7 o:=λb o e=>hold b o (by rw[T9];exact eG e);generalize O:sW X scope N' cs s3.heap.objs.size s3 (upd H s.heap.objs.size (.lst [])) fp=G at I4;have hA:G.A=X.A:=by rw[<-O];rfl
 have M:G.prog=X.prog:=by rw[<-O];rfl
 have N:G.w=X.w:=by rw[<-O];rfl
 have aS:G.K=X.K:=by rw[<-O];rfl
 have U:G.calm=bT:=by rw[<-O];exact hc
 have bp:G.xe=λ_ _=>False:=by rw[<-O];rfl
 have aT:G.env=compEnvC scope cs s3.heap.objs.size X.env:=by rw[<-O];rfl
 have bq:PG G a g:=by rw[<-O];exact hg _ _ _ _ _
 have br:Xd G ifs tt:=by rw[<-O];exact ht _ _ _ _ _
 have bt:PE G af te:=by rw[<-O];exact he _ _ _ _ _
 have ff:∀{l:Hp}{b:ce},b∈fp->l b=none->oX G [] l b:=λ{l b}j hn=>by
  obtain⟨f,lt⟩:=ag b j;rw[<-O];refine⟨hn,ec lt,λbv=>?_,.inl j,λx c e=>?_,λp hp=>by cases hp⟩
  . rcases c_.mp (I3.uv b bv)with h|h;.exact f.2.1 h
    .exact f.2.2.1 h
  . rcases bc.from' x c e with e|e;.exact f.2.2.2.2.1 x c e
    .rintro rfl;exact absurd (pf e.1 lt) (h_ _)--behind the block
 have fin:∀{σ':_L.St}{l:Hp}{B:b_},Inv G [] σ' l B->Q s.heap.objs.size l->RR (.ref s.heap.objs.size) s3.heap.objs.size (.ok .next) B:=λ{σ' l B}Y q=>by
  rw[<-O]at Y;have hC:l s3.heap.objs.size=none:=Y.free;obtain⟨hh,gg,dd,bP,bS⟩:=B;have bX:bS=s3.os:=Y.os;subst bX;refine bo _ _ _ l q (let⟨m,hm,_⟩:=Y.loc;⟨m,hm⟩) ?_ (I3.call (h':=hh) (g':=gg) (d':=dd) (t':=bP) (ch:=fp) Y.base Y.hok Y.bare λb j=>?_);.exact I3.Ie (dU) hC
  .obtain⟨f,lt⟩:=ag b j;exact⟨f.2.2.2.1,f.2.1,f.2.2.2.2.1,f.2.2.2.2.2⟩
 have ac:li (cK X.prog X.w) X.A (.compLoop (.ListComp af [⟨a,iter,ifs,0⟩] scope pos) 0 (.ref it) (.ref s.heap.objs.size) G.env) (RR (.ref s.heap.objs.size) s3.heap.objs.size) {s3 with heap:=L,toks:=s3.toks}:=by
  refine yu (λk B=>∃i ys σ' l,Inv G [] σ' l B/\tn i B.heap/\(∀b∈fp,l b=none)/\W i k ys σ' l) (λk s5 hI=>?_) m0 ⟨0,[],_,_,I4,aE aI,λb j=>(ag b j).1.1,w0⟩;obtain⟨i,ys,ah,H5,I5,t5,f5,w5⟩:=hI;obtain⟨hD,ar⟩:=ay i k ys ah H5 w5;have YS:∀{Z:bx->b_->Prop},∀(e:bx)(B:b_),G.xe e B->Z e B:=λe B z=>by rw[bp]at z;exact fe z
  rcases ar with⟨stop,q⟩|⟨go,step⟩;.have z:=T.done G M N aS U i [] s5 ah H5 (λ_ _=>False) I5 (λb j=>ff j (f5 b j)) t5 stop;rw[hA]at z;refine d_ z (?_) λ_ _ z=>fe z;rintro r s6⟨hr,I6⟩;subst hr;exact fin I6 q
  . have z:=T.item G M N aS U i [] s5 ah H5 (λ_ _=>False) I5 (λb j=>ff j (f5 b j)) t5 go;rw[hA]at z;refine d_ z (?_) λ_ _ z=>fe z;rintro r s6⟨u,hr,z6⟩;subst hr;refine d_ z6 (?_) λ_ _ z=>fe z;rintro _ s7⟨x,H7,I7,r7,y7,t7,f7⟩;have cb:=I7.pinned (λb j=>ff j (f7 b j)) (T.obj _ _ t7)--what the pins keep
    have back:∀{σ':_L.St}{l:Hp}{B:b_},Inv G ([]++sX fp s7.heap) σ' l B->Inv G [] σ' l B/\tn (i+1) B.heap/\∀b∈fp,l b=none:=λ{σ' l B}Y=>by refine⟨Y.n6,T.keep _ _ _ t7 λb j o e=>(Y.pin (b,o) (eI _ (eI _ (jH j e)))).1,λb j=>?_⟩;obtain⟨o,e,_⟩:=T.obj _ _ t7 b j;exact(Y.pin (b,o) (eI _ (eI _ (jH j e)))).2.1
    have z7:=bq _ s7 ah H7 x u _ cb r7 (step x H7 y7);rw[hA,M,N]at z7;refine d_ z7 (?_) YS;rintro _ s8⟨ae,H8,I8,q8⟩;have z8:=br _ s8 ae H8 _ I8 q8;rw[hA,M,N]at z8;refine d_ z8 (?_) YS;rintro b s9⟨H9,I9,q9⟩;cases b with|false=>rw[if_neg eh]at q9 ⊢;obtain⟨m',hm,w'⟩:=q9;obtain⟨b1,b2,b3⟩:=back I9;exact⟨m',hm,i+1,ys,ae,H9,b1,b2,b3,w'⟩|true=>rw[if_pos rfl]at q9 ⊢;have z9:=bt _ s9 ae H9 _ I9 q9;rw[hA,M,N]at z9;refine d_ z9 (?_) YS;rintro y uM⟨yv,a8,cf,ci,cn,a9,m',hm,w'⟩;have ba:=pP _ uM ae a8 (.ref s.heap.objs.size) [yv] (.ref s.heap.objs.size) [y] (λv bi=>bi=upd a8 s.heap.objs.size (.lst (ys++[yv]))) cf rfl (.cons ci .nil) ⟨_,ys,yv,rfl,rfl,cn,a9,rfl⟩;rw[hA,M,N]at ba;refine d_ ba (?_) YS;rintro _ ZG⟨_,bi,cr,_,cw⟩;subst cw;obtain⟨b1,b2,b3⟩:=back cr;exact⟨m',hm,i+1,ys++[yv],ae,_,b1,b2,b3,w'⟩
 have e3:({s3 with heap:=L,toks:=s3.toks}:b_)={s with heap:=L}:=by rw[<-ap]
 rw[aT,e3]at ac;exact codeAny_compStart_list ac (T.self _ 0 _ _ _ (aE aI) ac)
end
section
variable{X:Cx}{elt target iter:dc}{ifs:List dc}{scope:iO}{pos:Pos}{N':List Str}{n:Nat}{wi:TI}{g:TG}{tt:TT}{te:TE}
noncomputable def v8(n:Nat)(wi:TI)(g:TG)(tt:TT)(te:TE):TE:=λσ H Q=>wi σ H λJ a=>∀D,a D=none->∃W,(∃m,W 0 m [] (σ++cp n none) (upd a D (.lst [])))/\Sh J g tt te D (λb=>Q (.ref D) b) W
theorem nP{a:List (ce×Obj)}{σ:_L.St}{H:Hp}{s:b_}(I:Inv X a σ H s)(ok:gj X scope N' n):∃cl,closureFor scope X.env=eS cl/\(∀n c,cl.lookup n=a7 c->X.env.cells.lookup n=a7 c)/\∀n,(n,eK)∈scope.names->(cl.lookup n).isSome:=De λm b=>I.ok.has m (ok.cap (m,.free) b rfl)
theorem xJ(hc:X.calm=bT)(ok:gj X scope N' n)(hi:PI X target iter wi)(r:∀cl C s₀ H₀ ex,PG (sW X scope N' cl C s₀ H₀ ex) target g)(ht:∀cl C s₀ H₀ ex,Xd (sW X scope N' cl C s₀ H₀ ex) ifs tt)(he:∀cl C s₀ H₀ ex,PE (sW X scope N' cl C s₀ H₀ ex) elt te)(hs:∀x,eN iter X.env x=eS x:=by intro _;rfl):PE X (.ListComp elt [⟨target,iter,ifs,0⟩] scope pos) (v8 n wi g tt te):=by intro a s σ H Q I h;obtain⟨cl,c,i,t⟩:=nP I ok;rw[eval_ListComp];refine p5 (use:=none) rfl hs c ok.kind ok.names (cC (hi a s σ H _ I h) λv s1 h1=>cC h1 λu s2 y=>?_);obtain⟨it,M,N,J,O,rfl,z,T,t0,f2,B⟩:=y;refine vH (Q:=λD j=>Q (.ref D) j) (RR:=λk C=>compPost (cK X.prog X.w) X.A X.xe none (EP X a σ Q) k C) hc ok z i t T t0 f2 r ht he B λD C E j q l f G=>?_;obtain⟨m,l⟩:=l;refine⟨m,l,λh' p=>⟨.ref D,j,?_,rfl,q⟩⟩;exact G.turned (t':=E.toks) (λb o L e=>p.extBut b o L e) f.1 f.2.1 f.2.2.2.1 f.2.2.2.2.1 f.2.2.2.2.2
theorem Ow{i:Nat}{x:Str}{c j:Pos}(hc:X.calm=bT)(U:X.N.Nodup)(r:X.N[i]?=a7 x)(W:Loc X.env.scope x)(ok:gj X scope N' n)(hi:PI X target iter wi)(Y:∀cl C s₀ H₀ ex,PG (sW X scope N' cl C s₀ H₀ ex) target g)(ht:∀cl C s₀ H₀ ex,Xd (sW X scope N' cl C s₀ H₀ ex) ifs tt)(he:∀cl C s₀ H₀ ex,PE (sW X scope N' cl C s₀ H₀ ex) elt te)(t:fy (.ListComp elt [⟨target,iter,ifs,0⟩] scope pos) (a7 (.Name x c)) j.line X.env=eS bT)(hs:∀x,eN iter X.env x=eS x:=by intro _;rfl)(Z:X.fn x=bT\/X.env.scope.names.lookup x=a7 .local:=by first|(left;rfl)|(right;rfl)|assumption):PS X (.Assign [.Name x c] (.ListComp elt [⟨target,iter,ifs,0⟩] scope pos) j) (WW (v8 n wi g tt te) (lg i)):=by
 intro f s σ H D I h;obtain⟨cl,k,u,Dm⟩:=nP I ok;rw[exec_Assign_Name_used _ _ _ _ t];refine bd (mo (bd ?_));show cz _ X.A (do let _<-comprehension (.ListComp elt [⟨target,iter,ifs,0⟩] scope pos) scope X.env _ (newList []) a_ (er iter X.env) (a7 (kH (.Name x c) X.env))) _ _ s;refine bd (d_ (p5 (use:=a7 (kH (.Name x c) X.env)) (Q:=λ_ p=>SP X f D .next p) rfl hs k ok.kind ok.names (cC (hi f s σ H _ I h) λv s1 h1=>cC h1 λac s2 h2=>?_)) (λ_ p hq=>cx (cx hq)) λ_ _ e=>e);obtain⟨it,fp,tn,J,H2,rfl,I2,T,t0,f2,hw⟩:=h2;refine vH (Q:=λDa y=>D.nx (σ.set i (a7 (.ref Da))) y) (RR:=λB C=>compPost (cK X.prog X.w) X.A X.xe (a7 (kH (.Name x c) X.env)) (λ_ p=>SP X f D .next p) B C) hc ok I2 u Dm T t0 f2 Y ht he hw λDa C p y q E l I'=>?_;obtain⟨m,E⟩:=E;show cz _ X.A (kH (.Name x c) X.env (.ref Da)) _ _ _;refine wpAny_assign_Name (vX I' U r W (show RelV (.ref Da) (.ref Da)from rfl) (?_) Z);rintro G L⟨a,sb,ha⟩;have M:C≠a:=by
  rcases ha with rfl|ha;.exact l.2.1
  .exact λz=>l.2.2.2.2.1 x a ha z.symm
 refine⟨m,E.sameBut sb M,λh' O=>⟨_,y,?_,q⟩⟩;exact L.turned (t':=G.toks) (λb o hb e=>O.extBut b o hb e) l.1 l.2.1 l.2.2.2.1 l.2.2.2.2.1 l.2.2.2.2.2
noncomputable def aeI(K:PySem.W.Frag)(c:TE):TI:=λσ H R=>c σ H λx b=>∃a,x=.ref a/\(((∃xs,gF K b a xs)/\R (WQ K a) b)\/((∃xs,mq K b a xs)/\R (Yo K a) b))
theorem wR{u l:dc}{r:TE}(w:PE X l r):PI X u l (aeI X.K r):=by
 intro f s σ H R I h;refine cC (w f s σ H _ I h) ?_;rintro v s1⟨x,t,c,r1,j⟩;obtain⟨a,e,j⟩:=j;subst e;cases r1;rcases j with⟨⟨xs,k⟩,q⟩|⟨⟨xs,k⟩,q⟩
 . obtain⟨i,y,p,hz⟩:=c.list k;refine gy p.isList ?_;refine⟨s1.heap.objs.size,[s1.heap.objs.size],_,_,t,rfl,c.kept (t':=s1.toks) λb o e=>eG e,GR a _,⟨_,cy _ rfl,rfl,rfl⟩,λb m=>?_,q⟩;have e:b=s1.heap.objs.size:=by simpa using m
   subst e;exact c.Ie (dU) (c.hok.fresh (dU))
 . obtain⟨i,y,p,hz⟩:=c.tuple k;refine hE (show s1.heap.IsTuple a i.toArray from p) ?_;refine⟨s1.heap.objs.size,[s1.heap.objs.size],_,_,t,rfl,c.kept (t':=s1.toks) λb o e=>eG e,Bj a _,⟨_,cy _ rfl,rfl,rfl⟩,λb m=>?_,q⟩;have e:b=s1.heap.objs.size:=by simpa using m
   subst e;exact c.Ie (dU) (c.hok.fresh (dU))
end
end _L
namespace _H
open PySem _L Spec PyProof.Rows
variable{v:V}{i m:Nat}{K:PySem.W.Frag}{F H:Hp}{ρ:List Sl}{σ:_L.St}{x:Str}{p':Pos}{is:List Nat}{ds:List D}{s:b_}{A:ek}{u':bx}
structure Walk(K:PySem.W.Frag)(F:Hp)(ρ:List Sl)(σ:_L.St)(H:Hp)(ul:List Sl->List Sl)(J:It)(ds:List D)(F1:Hp)(ρ1:List Sl)(H1:Hp):Prop where
 gs:GS K F1 ρ1 σ H1
 src:∀(n k:Nat)(F':Hp)(ρ':List Sl)(σ':_L.St)(H':Hp),aq K F1 (ρ1++cp n .aM) (σ++cp n none) H1 F' ρ' σ' H'->(∀d,ds[k]?=a7 d->J.go k H'/\∀x oO,J.Oo k H' x oO->∃F'',Ext F' H' F'' oO/\Rep K F'' x d)/\(ds.length<=k->J.stop k H')fin:∀F2 ρ2 σ2 H2,aq K F1 ρ1 σ H1 F2 ρ2 σ2 H2->aq K F ρ σ H F2 (ul ρ2) σ2 H2/\∀v r,di K F2 ρ2 σ2 H2 ρ1 σ H1 v r->di K F2 (ul ρ2) σ2 H2 ρ σ H v r
inductive tIt(K:PySem.W.Frag)(iv:Option Nat)(f:Ev)(σ:_L.St)(H:Hp)(R:It->Hp->Prop):Prop where|mk(F:Hp)(ρ:List Sl)(ds:List D)(ρ1:List Sl)(g:GS K F ρ σ H)(e:srcOf iv f ρ=.ok ds ρ1)(k:∀J F1 H1,Walk K F ρ σ H (aP ρ iv) J ds F1 ρ1 H1->R J H1)
section
variable{K:PySem.W.Frag}{F F1 H H1:Hp}{ρ ρ1:List Sl}{σ:_L.St}{ds:List D}{a:ce}
theorem Ep{xs:List V}{f b:Hp}(g:mq K b a xs)(r:aH K f xs ds)(s:aD f b)(k:Nat):(∀d,ds[k]?=a7 d->(Yo K a).go k b/\∀x j,(Yo K a).Oo k b x j->∃c,Ext f b c j/\Rep K c x d)/\(ds.length<=k->(Yo K a).stop k b):=by refine⟨λd hd=>?_,λh=>⟨xs,g,by rw[r.length];exact h⟩⟩;obtain⟨w,h1,l⟩:=r.get hd;refine⟨⟨xs,w,g,h1⟩,?_⟩;rintro x j⟨e,y⟩;subst e;have:=y xs g;rw[h1]at this;cases this;exact⟨f,.refl s,l⟩
theorem tD{xs:List V}{f b:Hp}(g:gF K b a xs)(r:aH K f xs ds)(s:aD f b)(k:Nat):(∀d,ds[k]?=a7 d->(WQ K a).go k b/\∀x j,(WQ K a).Oo k b x j->∃c,Ext f b c j/\Rep K c x d)/\(ds.length<=k->(WQ K a).stop k b):=by refine⟨λd hd=>?_,λh=>⟨xs,g,by rw[r.length];exact h⟩⟩;obtain⟨w,h1,l⟩:=r.get hd;refine⟨⟨xs,w,g,h1⟩,?_⟩;rintro x j⟨e,y⟩;subst e;have:=y xs g;rw[h1]at this;cases this;exact⟨f,.refl s,l⟩
theorem za{ul:List Sl->List Sl}{d:D}(s:aq K F ρ σ H F1 ρ1 σ H1)(r:Rep K F1 v d)(hi:items d=a7 ds)(fin:∀f b c g,aq K F1 ρ1 σ H1 f b c g->aq K F ρ σ H f (ul b) c g/\∀v r,di K f b c g ρ1 σ H1 v r->di K f (ul b) c g ρ σ H v r):∃a,v=.ref a/\(((∃xs,gF K H1 a xs)/\Walk K F ρ σ H ul (WQ K a) ds F1 ρ1 H1)\/((∃xs,mq K H1 a xs)/\Walk K F ρ σ H ul (Yo K a) ds F1 ρ1 H1)):=by cases d with|tup es=>cases hi;rw[Rep]at r;obtain⟨a,xs,rfl,h1,h⟩:=r;exact⟨a,rfl,.inr ⟨⟨xs,aD.jo s.gs.sub h1⟩,s.gs,λn k l j σ' o e=>Ep (aD.jo e.gs.sub (aD.jo e.bY h1)) (h.mono e.bY) e.gs.sub k,fin⟩⟩|lst es=>cases hi;rw[Rep]at r;obtain⟨a,xs,rfl,h1,h⟩:=r;exact⟨a,rfl,.inl ⟨⟨xs,s.gs.sub.seq h1⟩,s.gs,λn k l j σ' o e=>tD (e.gs.sub.seq (e.bY.seq h1)) (h.mono e.bY) e.gs.sub k,fin⟩⟩|_=>cases hi
theorem vK{ul:List Sl->List Sl}(g:GS K F ρ1 σ H)(e:ρ1[i]?=a7 (.lent ds))(fin:∀f b c h,aq K F ρ1 σ H f b c h->aq K F ρ σ H f (ul b) c h/\∀v r,di K f b c h ρ1 σ H v r->di K f (ul b) c h ρ σ H v r):∃a,σ[i]?=a7 (a7 (.ref a))/\(∃xs,gF K H a xs)/\Walk K F ρ σ H ul (WQ K a) ds F ρ1 H:=by obtain⟨a,xs,h1,p,B,C⟩:=g.mZ i _ ds e rfl;have hi:i<ρ1.length:=(fu e).1;refine⟨a,h1,⟨xs,gF.of p⟩,g,λn k E q σ' G j=>?_,fin⟩;obtain⟨l,t,u,w⟩:=j.lk i _ (by rw[cS hi];exact e) rfl;cases(show t=.lent ds from w);rw[cS (by rw[<-g.len];exact hi),h1]at l;obtain⟨I,ys,o,y,J,z⟩:=j.gs.mZ i _ ds u rfl;rw[l]at o;cases o;exact tD (gF.of y) z j.gs.sub k
end
section
variable{X:Cx}{c:Call}{n:Nat}{e a b d tg:dc}{p pa pb pd:P}{pos:Pos}
theorem nF{t t':TI}(h:PI X tg e t)(i:∀σ H R,t' σ H R->t σ H R):PI X tg e t':=λf s σ H R I q=>h f s σ H R I (i σ H R q)
noncomputable def SI(X:Cx)(c:Call)(tg e:dc)(p:P):Prop:=PI X tg e (tIt X.K (isVar p) (_H.ev c p))
theorem bH(h:SX X c e p):SI X c tg e p:=by unfold SI;cases hv:isVar p with|none=>refine nF (wR h.ev) ?_;rintro σ H R⟨F,ρ,ds,u,g,e,k⟩;obtain⟨r,f,L,t⟩:=aa e;have y:=aF t;clear t;obtain⟨t,B⟩:=y;subst B;refine⟨F,ρ,r,_,g,L,λv U W s C=>?_⟩;obtain⟨l,s2,_,M⟩:=s.dD C;obtain⟨a,E,G⟩:=za (ul:=aP ρ none) s2 M t λY N O Z s3=>⟨s2.trans s3,λv r C=>C.later s2⟩;exact⟨a,E,G.imp (λ⟨z,w⟩=>⟨z,k _ _ _ w⟩) (λ⟨z,w⟩=>⟨z,k _ _ _ w⟩)⟩|some i=>
   refine nF (wR (h.var i hv)) ?_;rintro σ H R⟨F,ρ,ds,u,g,e,k⟩;unfold srcOf at e;dsimp only at e;split at e
   . rename_i b d q;have y:=aF e;clear e;obtain⟨t,B⟩:=y;subst B;obtain⟨v,h1,Q⟩:=g.val i b d q;have fin:∀l f j o,aq X.K F ρ σ H l f j o->aq X.K F ρ σ H l (aP ρ (a7 i) f) j o/\∀v r,di X.K l f j o ρ σ H v r->di X.K l (aP ρ (a7 i) f) j o ρ σ H v r:=λl f j o s=>by unfold aP;dsimp only;rw[q];exact⟨s,λ_ _ z=>z⟩
     obtain⟨a,E,G⟩:=za (ul:=aP ρ (a7 i)) (.refl g) Q t fin;exact⟨v,h1,a,E,G.imp (λ⟨z,w⟩=>⟨z,k _ _ _ w⟩) (λ⟨z,w⟩=>⟨z,k _ _ _ w⟩)⟩
   . rename_i b I q;cases e;have hi:i<ρ.length:=(fu q).1;have fin:∀l f j o,aq X.K F (ρ.set i (.lent ds)) σ H l f j o->aq X.K F ρ σ H l (aP ρ (a7 i) f) j o/\∀v r,di X.K l f j o (ρ.set i (.lent ds)) σ H v r->di X.K l (aP ρ (a7 i) f) j o ρ σ H v r:=λl f j o s=>by unfold aP;dsimp only;rw[q];exact aq.aP g q s
     obtain⟨a,h1,J,w⟩:=vK (ul:=aP ρ (a7 i)) (g.lend q) (cu hi) fin;exact⟨_,h1,a,rfl,.inl ⟨J,k _ _ _ w⟩⟩
   . rename_i I q;cases e;have fin:∀l f j o,aq X.K F ρ σ H l f j o->aq X.K F ρ σ H l (aP ρ (a7 i) f) j o/\∀v r,di X.K l f j o ρ σ H v r->di X.K l (aP ρ (a7 i) f) j o ρ σ H v r:=λl f j o s=>by unfold aP;dsimp only;rw[q];exact⟨s,λ_ _ z=>z⟩
     obtain⟨a,h1,J,w⟩:=vK (ul:=aP ρ (a7 i)) g q fin;exact⟨_,h1,a,rfl,.inl ⟨J,k _ _ _ w⟩⟩
   .cases e
theorem zX{F1 g:Hp}{f:List Sl}(s:aq K F ρ σ H F1 f σ g)(i j:Int):Walk K F ρ σ H (aP ρ none) (Zj i (j-i).toNat) ((dL (j-i).toNat).map λ(k:Nat)=>D.int (i+(k:Int))) F1 f g:=by
 refine⟨s.gs,λn k o q σ' G t=>⟨λd hd=>?_,λh=>?_⟩,λI u w J s3=>⟨s.trans s3,λv r y=>y.later s⟩⟩;.rw[eV]at hd;obtain⟨m,z,B⟩:=map_some hd;obtain⟨h1,l⟩:=fu z;rw[List.getElem_range]at l;subst l;subst B;rw[kb]at h1;refine⟨h1,?_⟩;rintro x L⟨C,E⟩;subst C;subst E;exact⟨o,.refl t.gs.sub,bW _⟩
 .rw[ef,kb]at h;exact h
theorem iW(t:x="range")(u:Gl X x)(w:X.mg x=none)(y:SX X c a pa)(hs:cv [a] X.env=[(a_,er a X.env)]:=by rfl):SI X c tg (.Call (.Name x p') [a] [] pos) (.uZ (.con (.int 0)) pa):=by
 subst t;obtain⟨U,h1,z⟩:=y.cZ;refine nF (wg u w (bj h1 dw hs) hs) ?_;rintro σ H R⟨F,ρ,ds,B,g,e,k⟩;obtain⟨r,C,q,h⟩:=aa e;have l:=aF h;clear h;obtain⟨h,E⟩:=l;subst E;rw[_H.E19]at q;obtain⟨W,G,I,f⟩:=aa q;have l:=aF f;clear f;obtain⟨f,J⟩:=l;subst J;obtain⟨Y,L,M,o⟩:=aa I;cases o;obtain⟨i,f1,f⟩:=cH f;obtain⟨j,f2,f⟩:=cH f;obtain⟨⟨b1,b2,b3,b4⟩,f⟩:=bD f;have f1:i=0:=by cases f1;rfl
 subst f1;subst f;cases h;cases dm f2;refine z g M λv N O s Q=>⟨j,by rw[Q.int],by omega,by omega,?_⟩;have:=zX s 0 j;rw[mP]at this;refine k _ N O ?_;rw[mP];exact this
theorem Pq(y:x="range")(z:Gl X x)(B:X.mg x=none)(C:SX X c a pa)(E:SX X c b pb)(hs:cv [a,b] X.env=[(a_,er a X.env),(a_,er b X.env)]:=by rfl)(h:cv [b] X.env=[(a_,er b X.env)]:=by rfl):SI X c tg (.Call (.Name x p') [a,b] [] pos) (.uZ pa pb):=by subst y;obtain⟨Y,tb,h1,G,I⟩:=C.kJ E;refine nF (Ho z B (bj h1 (bj G dw h) (by rw[hs,h])) hs h) ?_;rintro σ H R⟨F,ρ,ds,J,g,e,k⟩;obtain⟨r,L,o,l⟩:=aa e;have q:=aF l;clear l;obtain⟨l,M⟩:=q;subst M;rw[_H.E19]at o;obtain⟨Z,N,O,f⟩:=aa o;have q:=aF f;clear f;obtain⟨f,Q⟩:=q;subst Q;obtain⟨i,f1,f⟩:=cH f;obtain⟨j,f2,f⟩:=cH f;obtain⟨⟨b1,b2,b3,b4⟩,f⟩:=bD f;subst f;cases l;refine I g O λv u U W s t w=>⟨i,j,?_,by omega,k _ U W (zX s i j)⟩;have o:=dm f1;have l:=dm f2;rw[o]at t;rw[l]at w;rw[t.int,w.int]
end
section
variable{X:Cx}{c:Call}{n:Nat}{e a b d tg iter:dc}{p pa pb pd:P}{pos:Pos}{body:List ey}{ss:List S}
noncomputable def GX(K:PySem.W.Frag)(h:List Sl->D->Option (List Sl))(g:TG):Prop:=∀(x:V)(d:D)(F:Hp)(ρ f:List Sl)(σ:_L.St)(H:Hp)(Q:_L.St->Hp->Prop),GS K F ρ σ H->Rep K F x d->h ρ d=a7 f->(∀σ',aq K F ρ σ H F f σ' H->Q σ' H)->g x σ H Q
theorem xx(i:Nat):GX K (λρ d=>put ρ i (.val a_ d)) (lg i):=λx d F ρ f σ H Q g r h k=>k _ (aq.put (r:=.val d) (.refl g) r h)
theorem aZ:∀(is:List Nat)(gs:IK),(∀(xs:List V)(ds:List D)(F:Hp)(ρ f:List Sl)(σ:_L.St)(H:Hp)(Q:_L.St->Hp->Prop),GS K F ρ σ H->aH K F xs ds->putAll ρ is ds=a7 f->(∀σ',aq K F ρ σ H F f σ' H->Q σ' H)->gs xs σ H Q)->∀i,∀(xs:List V)(ds:List D)(F:Hp)(ρ f:List Sl)(σ:_L.St)(H:Hp)(Q:_L.St->Hp->Prop),GS K F ρ σ H->aH K F xs ds->putAll ρ (i::is) ds=a7 f->(∀σ',aq K F ρ σ H F f σ' H->Q σ' H)->Km (lg i) gs xs σ H Q:=by intro is gs l i xs ds F ρ f σ H Q g r h k;cases ds with|nil=>simp[j5,jN,pq,pL]at h|cons d ds=>obtain⟨v,vs,rfl,h1,o⟩:=r.cL;rw[jN]at h;obtain⟨j,q,t⟩:=cH h;have s1:=aq.put (r:=.val d) (.refl g) h1 q;refine⟨v,vs,rfl,l vs ds F j f _ H _ s1.gs o t λσ' s2=>k σ' (s1.trans s2)⟩
theorem dX:∀(xs:List V)(ds:List D)(F:Hp)(ρ f:List Sl)(σ:_L.St)(H:Hp)(Q:_L.St->Hp->Prop),GS K F ρ σ H->aH K F xs ds->putAll ρ [] ds=a7 f->(∀σ',aq K F ρ σ H F f σ' H->Q σ' H)->Uq xs σ H Q:=by intro xs ds F ρ f σ H Q g r h k;cases ds with|nil=>rw[j5]at h;cases h;exact⟨r.gV,k σ (.refl g)⟩|cons d ds=>simp[j5,jN,pq,pL]at h
theorem mU:∀{is:List Nat}{ds:List D}{ρ f:List Sl},putAll ρ is ds=a7 f->ds.length=is.length|[],[],_,_,_=>rfl|[],_::_,_,_,h=>by simp[j5,jN,pq,pL]at h|_::_,[],_,_,h=>by simp[j5,jN,pq,pL]at h|i::is,d::ds,ρ,f,h=>by rw[jN]at h;obtain⟨g,k,j⟩:=cH h;simp[mU j]
theorem gh{gs:IK}(o:m=is.length)(h:∀(xs:List V)(ds:List D)(F:Hp)(ρ f:List Sl)(σ:_L.St)(H:Hp)(Q:_L.St->Hp->Prop),GS K F ρ σ H->aH K F xs ds->putAll ρ is ds=a7 f->(∀σ',aq K F ρ σ H F f σ' H->Q σ' H)->gs xs σ H Q):GX K (λρ d=>cA ρ is a_ d) (Xi K m gs):=by intro x d F ρ f σ H Q g r j k;replace j:cA ρ is a_ d=a7 f:=j;cases d with|tup ds=>replace j:putAll ρ is ds=a7 f:=j;rw[Rep]at r;obtain⟨a,xs,rfl,h1,l⟩:=r;exact⟨a,xs,rfl,aD.jo g.sub h1,by rw[l.length,mU j,o],h xs _ F ρ f σ H Q g l j k⟩|_=>cases j
theorem iY{g:TG}{one:Bool}(hp:ip (cK X.prog X.w) X.A X.env X.xe)(hc:X.calm=bT)(hi:SI X c tg iter p)(hg:PG X tg g)(Y:GX X.K (λρ d=>cA ρ is one d) g)(hb:SB X c n body ss)(hs:∀x,eN iter X.env x=eS x:=by intro _;rfl):SS X c n (.For tg iter body [] pos) (.gQ p is one ss):=by
 refine cO (Cd hp hc hi hg hb hs) ?_;rintro D σ H⟨F,ρ,fl,q,g0,e,k⟩;rw[_H.X14]at e;obtain⟨ds,l,e1,e⟩:=aa e;obtain⟨ae,C,e2,e⟩:=aa e;cases e;refine⟨F,ρ,ds,l,g0,e1,λJ F1 Z w=>?_⟩;have src:∀(i:Nat)(N:Hp)(q:List Sl)(σ':_L.St)(h:Hp),aq X.K F1 l σ Z N q σ' h->(∀d,ds[i]?=a7 d->J.go i h/\∀x oO,J.Oo i h x oO->∃E,Ext N h E oO/\Rep X.K E x d)/\(ds.length<=i->J.stop i h):=λi N q σ' h s=>w.src 0 i N q σ' h (by simpa using s);refine⟨λi m o O=>∃B f,aq X.K F1 l σ Z B f o O/\m=ds.length-i/\i<=ds.length/\jM is one (fW c n ss) (ds.drop i) f=.ok fl C,⟨_,F1,l,.refl w.gs,rfl,uO,e2⟩,?_⟩;rintro i m o O⟨B,f,Q,rfl,af,j⟩;obtain⟨s1,s2⟩:=src i B f o O Q;by_cases t:i<ds.length
 . right;have hd:ds[i]?=a7 ds[i]:=by simp[t]
   obtain⟨go,step⟩:=s1 _ hd;refine⟨go,λσ' h=>∃m',m'<ds.length-i/\∃B f,aq X.K F1 l σ Z B f σ' h/\m'=ds.length-(i+1)/\i+1<=ds.length/\jM is one (fW c n ss) (ds.drop (i+1)) f=.ok fl C,λσ' h z=>z,λx h y=>?_⟩;obtain⟨F2,ext,rx⟩:=step x h y;have G:=Q.trans (ext.stp Q.gs);rw[gz t,CQ]at j;cases hbd:cA f is one ds[i]with|none=>rw[hbd]at j;cases j|some I=>rw[hbd]at j;obtain⟨L,u,eb,j⟩:=aa j;refine Y x _ F2 f I o h _ G.gs rx hbd λag sb=>?_;have Ua:=G.trans sb;refine⟨F2,I,L,u,Ua.gs,eb,λU M H4 s4=>?_⟩;have W:=Ua.trans s4;cases L with|next=>exact⟨_,by omega,U,u,W,rfl,t,j⟩|cont=>exact⟨_,by omega,U,u,W,rfl,t,j⟩|brk=>cases j;exact k U M H4 (w.fin _ _ _ _ W).1|ret r=>cases j;intro v rr;obtain⟨z1,z2⟩:=w.fin _ _ _ _ W;exact k U M H4 z1 v (z2 v r (rr.later Ua))
 . left;have ac:ds.drop i=[]:=by rw[jW];omega
   rw[ac,Lw]at j;cases j;exact⟨s2 (by omega),k B o O (w.fin _ _ _ _ Q).1⟩
theorem pG(i:Nat):(λ(ρ:List Sl)(d:D)=>cA ρ [i] bT d)=λρ d=>put ρ i (.val a_ d):=by funext ρ d;rfl
theorem xK{f:Pos}(h:ip (cK X.prog X.w) X.A X.env X.xe)(hc:X.calm=bT)(j:X.N.Nodup)(g:X.N[i]?=a7 x)(k:Loc X.env.scope x)(hi:SI X c (.Name x f) iter p)(l:SB X c n body ss)(hs:∀x,eN iter X.env x=eS x:=by intro _;rfl)(o:X.fn x=bT\/X.env.scope.names.lookup x=a7 .local:=by first|(left;rfl)|(right;rfl)|assumption):SS X c n (.For (.Name x f) iter body [] pos) (.gQ p [i] bT ss):=iY h hc hi (aB j g k o) (by rw[pG];exact xx i) l hs
theorem Di(L:ip (cK X.prog X.w) X.A X.env X.xe)(ht:ST X c e p)(M:SB X c n body ss):SS X c n (.While e body [] pos) (.whl p ss):=by refine cO (LK L ht M) ?_;rintro D σ H⟨F,ρ,fl,o,g,e,k⟩;rw[_H.X15]at e;refine⟨λm j C=>∃q f,aq X.K F ρ σ H q f j C/\rY (jV (_H.ev c p)) (fW c n ss) m f=.ok fl o,⟨n,F,ρ,.refl g,e⟩,?_⟩;rintro m j C⟨q,f,E,h⟩;cases m with|zero=>rw[V6]at h;cases h|succ m=>rw[Nr]at h;obtain⟨b,t,O,h⟩:=aa h;refine⟨q,f,b,t,E.gs,O,λF1 Q s1=>?_⟩;have s2:=E.trans s1;cases b with|false=>rw[if_neg eh]at h;cases h;exact k F1 j Q s2|true=>rw[if_pos rfl]at h;obtain⟨u,l,U,h⟩:=aa h;refine(show ∃N:_L.St->Hp->Prop,_/\_ from⟨λσ' G=>∃I,I<m+1/\∃q f,aq X.K F ρ σ H q f σ' G/\rY (jV (_H.ev c p)) (fW c n ss) I f=.ok fl o,λσ' G z=>z,F1,t,u,l,s2.gs,U,λB y J s4=>?_⟩);have s5:=s2.trans s4;cases u with|next=>exact⟨m,by omega,B,l,s5,h⟩|cont=>exact⟨m,by omega,B,l,s5,h⟩|brk=>cases h;exact k B y J s5|ret r=>cases h;exact λv W=>k B y J s5 v (W.later s2)
end
section
variable{X:Cx}{c:Call}{n:Nat}{e elt tg iter:dc}{p ps pe:P}{pos:Pos}{scope:iO}{N':List Str}{ifs:List dc}
theorem Lz{t t':TE}(h:PE X e t)(i:∀σ H Q,σ.length=X.N.length->t' σ H Q->t σ H Q):PE X e t':=λa s σ H Q I q=>h a s σ H Q I (i σ H Q I.len q)
noncomputable def nG(K:PySem.W.Frag)(m:Nat)(is:List Nat)(one:Bool)(g:TG):Prop:=∀(x:V)(d:D)(F:Hp)(ρ a:List Sl)(σ:_L.St)(H:Hp)(Q:_L.St->Hp->Prop),GS K F ρ σ H->Rep K F x d->cA ρ is one d=a7 a->(∀σ',aq K F ρ σ H F a σ' H->σ'.take m=σ.take m->Q σ' H)->g x σ H Q
theorem take_set{b:Type}{l:List b}{a:b}(h:m<=i):(l.set i a).take m=l.take m:=by rw[List.take_set_of_le h]
theorem eU(h:m<=i):nG K m [i] bT (lg i):=λx d F ρ a σ H Q g r b k=>k _ (aq.put (r:=.val d) (.refl g) r b) (take_set h)
noncomputable def Pb(K:PySem.W.Frag)(m:Nat)(is:List Nat)(gs:IK):Prop:=∀(xs:List V)(ds:List D)(F:Hp)(ρ a:List Sl)(σ:_L.St)(H:Hp)(Q:_L.St->Hp->Prop),GS K F ρ σ H->aH K F xs ds->putAll ρ is ds=a7 a->(∀σ',aq K F ρ σ H F a σ' H->σ'.take m=σ.take m->Q σ' H)->gs xs σ H Q
theorem cG{gs:IK}(hi:m<=i)(f:Pb K m is gs):Pb K m (i::is) (Km (lg i) gs):=by intro xs ds F ρ a σ H Q g r h k;cases ds with|nil=>simp[j5,jN,pq,pL]at h|cons d ds=>obtain⟨v,vs,rfl,h1,j⟩:=r.cL;rw[jN]at h;obtain⟨b,l,o⟩:=cH h;have s1:=aq.put (r:=.val d) (.refl g) h1 l;exact⟨v,vs,rfl,f vs ds F b a _ H _ s1.gs j o λσ' s2 z=>k σ' (s1.trans s2) (z.trans (take_set hi))⟩
theorem jD:Pb K m [] Uq:=by intro xs ds F ρ a σ H Q g r h k;cases ds with|nil=>rw[j5]at h;cases h;exact⟨r.gV,k σ (.refl g) rfl⟩|cons d ds=>simp[j5,jN,pq,pL]at h
theorem jA{gs:IK}{l:Nat}(o:l=is.length)(h:Pb K m is gs):nG K m is a_ (Xi K l gs):=by intro x d F ρ b σ H Q g r f k;cases d with|tup ds=>replace f:putAll ρ is ds=a7 b:=f;rw[Rep]at r;obtain⟨a,xs,rfl,h1,j⟩:=r;exact⟨a,xs,rfl,aD.jo g.sub h1,by rw[j.length,mU f,o],h xs _ F ρ b σ H Q g j f k⟩|_=>cases f
noncomputable def SQ(X:Cx)(c:Call)(ifs:List dc)(t:Option P):Prop:=Xd X ifs (Iw X.K (uN c t))
theorem cP:SQ X c [] none:=λa s σ H Q I⟨F,ρ,k,ρ',g,e,q⟩=>by rw[uN]at e;cases e;exact Rr a s σ H Q I (q F H (.refl g))
theorem PB(h:ST X c e p):SQ X c [e] (a7 p):=λa s σ H Q I⟨F,ρ,k,ρ',g,e,q⟩=>by rw[uN]at e;exact Ot h a s σ H Q I ⟨F,ρ,k,ρ',g,e,q⟩
theorem aq.Kh{F1 j:Hp}{f:List Sl}{g:_L.St}{Da:ce}{o:HO}(s:aq K F ρ σ H F1 f g j)(h:H Da=none)(q:F1 Da=none)(ho:¬ Own f g Da):aq K F ρ σ H F1 f g (upd j Da o):=by
 refine⟨⟨λb u e=>?_,s.gs.len,s.gs.val,λi t ds e k=>?_,s.gs.dis⟩,s.bY,s.yK,λb u e n=>?_,s.yL,s.len,s.lk⟩
 . have:b≠Da:=by rintro rfl;rw[q]at e;cases e
   rw[aA this];exact s.gs.sub b u e
 . obtain⟨a,xs,l,r,w,y⟩:=s.gs.own i t ds e k;have:a≠Da:=by rintro rfl;exact ho ⟨i,⟨t,ds,e,k⟩,l⟩
   exact⟨a,xs,l,by rw[aA this];exact r,w,y⟩
 . have:b≠Da:=by rintro rfl;rw[h]at e;cases e
   rw[aA this];exact s.keep b u e n
theorem Al{b r:List Sl}{ul:List Sl->List Sl}{ti:TI}{one:Bool}{u:List Sl->Res Bool}{el:Ev}{g:TG}{Q:VK}{xs:List D}(hm:σ.length=m)(ah:nG K m is one g)(ai:∀R:It->Hp->Prop,(∀J F1 W,Walk K F ρ σ H ul J ds F1 b W->R J W)->ti σ H R)(ar:ds.length<=lim)(e2:turns is one u el ds [] (b++cp n .aM)=.ok xs r)(k:∀v F' H',aq K F ρ σ H F' (ul (r.take b.length)) σ H'->di K F' (ul (r.take b.length)) σ H' ρ σ H v (.own xs)->Q v H'):v8 n ti g (Iw K u) (yI K el) σ H Q:=by
 refine ai _ λJ F1 W w Da O=>?_;have am:b.length=σ.length:=w.gs.len;have gm:=w.gs.more (n:=n) (τ:=cp n none) (by simp);have fD:F1 Da=none:=by cases q:F1 Da with|none=>rfl|some o=>rw[w.gs.sub Da o q]at O;cases O
 have nO:¬ Own (b++cp n .aM) (σ++cp n none) Da:=λ⟨i,⟨t,dt,q1,q2⟩,q3⟩=>by obtain⟨a,ys,z1,z2,_⟩:=gm.own i t dt q1 q2;rw[q3]at z1;cases z1;rw[O]at z2;cases z2
 refine⟨λi mm ys f G=>∃E h l,aq K F1 (b++cp n .aM) (σ++cp n none) W E h f G/\f.take m=σ/\G Da=a7 (.lst ys)/\E Da=none/\¬ Own h f Da/\aH K E ys l/\l.length<=i/\mm=ds.length-i/\i<=ds.length/\turns is one u el (ds.drop i) l h=.ok xs r,⟨_,F1,_,[],(aq.refl gm).Kh O fD nO,by rw[mE (by omega),kB (by omega)],aL,fD,nO,.nil,uO,rfl,uO,e2⟩,?_⟩;rintro i mm ys f G⟨E,h,l,Y,I,Z,hF,hO,rs,av,rfl,aw,j⟩;refine⟨Z,?_⟩--what stays of the new list through a step
 have stay:∀{L U:Hp}{M:List Sl}{B:_L.St},aq K E h f G L M B U->U Da=a7 (.lst ys)/\L Da=none/\¬ Own M B Da:=λ{L U M B}s=>by
  refine⟨s.keep Da _ Z hO,?_,λo=>?_⟩;.cases q:L Da with|none=>rfl|some o=>
      rcases s.yK Da hF (by rw[q];simp)with z|z;.exact absurd z hO
      .exact(Mt Z z).elim
  . rcases s.yL Da o with z|z;.exact hO z
    .rw[Z]at z;cases z
 obtain⟨s1,s2⟩:=w.src n i E h f G Y;by_cases C:i<ds.length
 . right;have hd:ds[i]?=a7 ds[i]:=by simp[C]
   obtain⟨go,step⟩:=s1 _ hd;refine⟨go,λx U y=>?_⟩;obtain⟨L,ext,rx⟩:=step x U y;have t2:=ext.stp Y.gs;rw[gz C,Jm]at j;cases hbd:cA h is one ds[i]with|none=>rw[hbd]at j;cases j|some ac=>rw[hbd]at j;obtain⟨bb,N,eb,j⟩:=aa j;refine ah x _ L h ac f U _ t2.gs rx hbd λB sb ae=>?_;have t3:=t2.trans sb;refine⟨L,ac,bb,N,t3.gs,eb,λF4 H4 s4=>?_⟩;have t4:=t3.trans s4;cases bb with|false=>rw[if_neg eh]at j;obtain⟨y1,y2,y3⟩:=stay t4;exact⟨_,by omega,F4,N,l,Y.trans t4,ae.trans I,y1,y2,y3,rs.mono t4.bY,by omega,rfl,C,j⟩|true=>
       rw[if_pos rfl]at j;obtain⟨re,af,ee,j⟩:=aa j;refine(show yI K el B H4 _ from⟨F4,N,re,af,t4.gs,ee,λv F5 H5 s5 rr=>?_⟩);obtain⟨F6,s6,_,rp⟩:=s5.dD rr;have t6:=t4.trans s6;obtain⟨y1,y2,y3⟩:=stay t6;have ag:ys.length<sizeLine:=by have h1:=rs.length;have h2:lim=sizeLine:=rfl;omega
       exact⟨y1,ag,_,by omega,F6,af,l++[re.d],(Y.trans t6).Kh O y2 y3,ae.trans I,aL,y2,y3,(rs.mono t6.bY).append (.cons rp .nil),by simp;omega,rfl,C,j⟩
 . left;have ap:ds.drop i=[]:=by rw[jW];omega
   rw[ap,Jv]at j;cases j;refine⟨s2 (by omega),?_⟩;obtain⟨l1,l2⟩:=aq.less (m:=b.length) rfl w.gs (by simp) Y;have hst:f.take b.length=σ:=by rw[am,hm];exact I
   rw[hst]at l1;have rr:di K E r f G (b++cp n .aM) (σ++cp n none) W (.ref Da) (.own xs):=⟨Da,ys,rfl,Z,hF,rs,hO,.inr O⟩;have Ub:=l2 _ _ rr;rw[hst]at Ub;obtain⟨z1,z2⟩:=w.fin _ _ _ _ l1;exact k _ E G z1 (z2 _ _ Ub)
theorem Q6{iv:Option Nat}{f:Ev}{one:Bool}{b:List Sl->Res Bool}{w:Ev}{g:TG}{Q:VK}{r:R}{j:List Sl}(z:σ.length=m)(q:nG K m is one g)(B:GS K F ρ σ H)(e:((srcOf iv f ρ).bind λds a=>if ds.length<=lim then(turns is one b w ds [] (a++cp n .aM)).bind λxs l=>Res.ok (R.own xs) (aP ρ iv (l.take a.length))else .stuck)=.ok r j)(k:∀v y t,aq K F ρ σ H y j σ t->di K y j σ t ρ σ H v r->Q v t):v8 n (tIt K iv f) g (Iw K b) (yI K w) σ H Q:=by
 obtain⟨ds,u,C,e⟩:=aa e;split at e;.rename_i o;obtain⟨xs,E,G,e⟩:=aa e;cases e;exact Al z q (λR h=>⟨F,ρ,ds,u,B,C,h⟩) o G k
 .cases e
theorem dB{g:TG}{one:Bool}{t:Option P}(hc:X.calm=bT)(ok:gj X scope N' n)(hi:SI X c tg iter ps)(b:∀cl C s₀ H₀ ex,PG (sW X scope N' cl C s₀ H₀ ex) tg g)(a:nG X.K X.N.length is one g)(ht:∀cl C s₀ H₀ ex,SQ (sW X scope N' cl C s₀ H₀ ex) c ifs t)(he:∀cl C s₀ H₀ ex,SX (sW X scope N' cl C s₀ H₀ ex) c elt pe)(hs:∀x,eN iter X.env x=eS x:=by intro _;rfl):SX X c (.ListComp elt [⟨tg,iter,ifs,0⟩] scope pos) (.comp ps n is one t pe):=by refine⟨Lz (xJ (tt:=Iw X.K (uN c t)) (te:=yI X.K (_H.ev c pe)) hc ok hi b ht (λcl C s₀ H₀ ex=>(he cl C s₀ H₀ ex).ev) hs) ?_,λi h=>by cases h⟩;rintro σ H Q f⟨F,ρ,r,j,l,e,k⟩;rw[_H.E18]at e;exact Q6 f a l e k
end
section
variable{X:Cx}{c:Call}{n:Nat}{e a b d:dc}{p pa pb pd:P}{pos:Pos}{es:List dc}{ps:List P}
noncomputable def tyN:D->String|.non=>"NoneType"|.bl _=>"bool"|.int _=>"int"|.str _=>"str"|.tup _=>"tuple"|.lst _=>"list"|.dI _=>"dict"|.dv _ _=>"dict"
noncomputable def tyS:Ty->String|.none=>"NoneType"|.bool=>"bool"|.int=>"int"|.str=>"str"|.tuple=>"tuple"|.list=>"list"
theorem aby(K:PySem.W.Frag)(t:Ty)(d:D):kitOne K (.type (tyN d)) (.type (tyS t))=a7 (cJ t d):=by cases t<;>cases d<;>rfl
theorem aa5{k:List (ce×Obj)}{x:V}{u:bx}{dt:D}(I:_L.Inv X k σ H s)(sm:aD F H)(g:fH X.K F H x dt)(f:RelV x u):(∃r,KitX X.K u (.type (tyN dt)) r/\r s.heap)/\u≠.builtin "__main__.__loader__#opaque":=by cases dt with|non=>rw[g.non]at f;cases f;exact⟨⟨_,PySem.W.kitx_none,trivial⟩,nofun⟩|bl y=>rw[g.bl]at f;cases f;exact⟨⟨_,PySem.W.kitx_bool,trivial⟩,nofun⟩|int i=>rw[g.int]at f;obtain⟨t,rfl⟩:=f;exact⟨⟨_,PySem.W.kitx_int,trivial⟩,nofun⟩|str y=>rw[g.str]at f;obtain⟨t,rfl⟩:=f;exact⟨⟨_,PySem.W.kitx_str,trivial⟩,nofun⟩|tup ds=>obtain⟨q,xs,rfl,h,_⟩:=g.tup sm;cases f;obtain⟨l,_,⟨o,h1,j,_⟩,_⟩:=I.tuple h;exact⟨⟨_,PySem.W.kitx_tuple,⟨o,h1,j⟩⟩,nofun⟩|lst ds=>obtain⟨q,xs,rfl,h,_⟩:=g.lst sm;cases f;obtain⟨l,_,w,_⟩:=I.list h;obtain⟨o,h1,j,_⟩:=w.isList;exact⟨⟨_,PySem.W.kitx_list,⟨o,h1,j⟩⟩,nofun⟩|dI m=>obtain⟨q,_,rfl,h⟩:=g.dI sm;cases f;obtain⟨o,h1,j⟩:=M4 I h;exact⟨⟨_,kitx_dict,⟨o,h1,j⟩⟩,nofun⟩|dv ks ds=>obtain⟨q,_,vs,rfl,h,_⟩:=g.dv sm;cases f;obtain⟨o,h1,j⟩:=Nb I h;exact⟨⟨_,kitx_dict,⟨o,h1,j⟩⟩,nofun⟩
theorem Vr(t:Ty):dY X (.builtin "isinstance") (λxs H Q=>∃x F dt,xs=[x,.ty (tyS t)]/\aD F H/\fH X.K F H x dt/\Q (.bl (cJ t dt)) H):=by rintro g s σ H xs o Q I r⟨x,F,dt,h,sm,j,q⟩;subst h;obtain⟨u,k,rfl,l,rt⟩:=r.two;cases(show k=gJ (tyS t)from rt);obtain⟨⟨w,Z,hz⟩,f⟩:=aa5 I sm j l;exact kia_one Z I.O4 hz (aby _ t dt) f λtk=>⟨.bl _,H,I.tok tk,rfl,q⟩
theorem tV:eP "isinstance"=a7 (.builtin "isinstance"):=by decide+kernel
theorem ni{y:Str}{p2:Pos}(t:Ty)(u:x="isinstance")(w:Gl X x)(z:X.mg x=none)(B:SX X c a pa)(f:Gl X y)(j:X.mg y=none)(C:eP y=a7 (.type (tyS t)))(l:y≠"__name__":=by decide)(o:(y==("__debug__":Str))=a_:=by decide)(hs:cv [a,.Name y p2] X.env=(a_,er a X.env)::cv [.Name y p2] X.env:=by rfl):SX X c (.Call (.Name x p') [a,.Name y p2] [] pos) (.inst [t] pa):=by subst u;obtain⟨N,h1,E⟩:=B.cZ;refine⟨dN (dq (Vr t) w z tV (bj h1 (bj (FQ (v:=.ty (tyS t)) f j C rfl l o) dw) hs) (he:=hs)) ?_,λi h=>by cases h⟩;rintro σ H Q⟨F,ρ,r,G,g,e,k⟩;rw[_H.E17]at e;obtain⟨dt,I,J,e⟩:=aa e;cases e;refine E g J λv q L s M=>⟨v,q,dt,rfl,s.gs.sub,M,k _ q L s ?_⟩;show Rep X.K q _ _;rw[l8,List.any_nil,Bool.or_false];exact iT _
inductive rBn(K:PySem.W.Frag)(f:List D->Option R)(xs:List V)(H:Hp)(Q:VK):Prop where|mk(F:Hp)(ds:List D)(r:R)(sm:aD F H)(rs:aH K F xs ds)(he:f ds=a7 r)(k:∀v F' H',Ext F H F' H'->cM K F' H' H v r->Q v H')
theorem SJ{E:dc}{f:List D->Option R}{q:P}(o:∀{t},PA X es t->PE X E (tCB (rBn X.K f) t))(u:SA X c es ps)(y:∀ρ,_H.ev c q ρ=(evs c ps ρ).bind λds ρ=>lift (f ds) ρ)(z:isVar q=none):SX X c E q:=by refine⟨dN (o u.1) ?_,λi h=>by rw[z]at h;cases h⟩;rintro σ H Q⟨F,ρ,r,B,g,e,k⟩;rw[y]at e;obtain⟨ds,l,C,j⟩:=aa e;have G:=aF j;clear j;obtain⟨j,I⟩:=G;subst I;exact⟨F,ρ,ds,l,g,C,λvs J U s L=>⟨J,ds,r,s.gs.sub,L,j,λw M N x O=>k w M N (s.trans (x.stp s.gs)) (.later s (O.uo s.gs))⟩⟩
theorem SN{xs:List V}{i j:Int}(h:aH K F xs [.int i,.int j]):xs=[.int i,.int j]:=by obtain⟨v,r,rfl,h1,g⟩:=h.cL;obtain⟨u,l,rfl,f,k⟩:=g.cL;rw[Rep]at h1 f;rw[h1,f,k.gV]
theorem inv2{f:Blt}{g:Int->Int->Int}{r:R}(h0:blt f []=none)(h1:∀a,blt f [a]=none)(o:∀a b c l,blt f (a::b::c::l)=none)(q:∀a b,iC a=a_->blt f [a,b]=none)(t:∀i b,iC b=a_->blt f [.int i,b]=none)(hi:∀i j,blt f [.int i,.int j]=a7 (.val (.int (g i j))))(he:blt f ds=a7 r):∃i j,ds=[.int i,.int j]/\r=.val (.int (g i j)):=by
 rcases ds with _|⟨a,_|⟨b,_|⟨c,l⟩⟩⟩;.rw[h0]at he;cases he
 .rw[h1]at he;cases he
 . by_cases h:iC a=bT
   . obtain⟨i,rfl⟩:∃i,a=.int i:=by cases a<;>first|exact⟨_,rfl⟩|cases h
     by_cases k:iC b=bT
     . obtain⟨j,rfl⟩:∃j,b=.int j:=by cases b<;>first|exact⟨_,rfl⟩|cases k
       rw[hi]at he;cases he;exact⟨i,j,rfl,rfl⟩
     .rw[t i b (by simpa using k)]at he;cases he
   .rw[q a b (by simpa using h)]at he;cases he
 .rw[o]at he;cases he
theorem V9(hc:X.calm=bT):dY X (.builtin "min") (rBn X.K (blt .min2)):=by rintro f s σ H xs o Q I r⟨F,ds,t,sm,q,he,k⟩;obtain⟨i,j,rfl,rfl⟩:=inv2 (g:=λi j=>if j<i then j else i) rfl (λa=>by cases a<;>rfl) (λa b c l=>by cases a<;>first|rfl|(cases b<;>rfl)) (λa b h=>by cases a<;>first|rfl|cases h) (λi b h=>by cases b<;>first|rfl|cases h) (λ_ _=>rfl) he;rw[SN q]at r;exact G7 hc f s σ H _ o Q I r ⟨_,_,rfl,cM.dC sm (bW _) k⟩
theorem W7(hc:X.calm=bT):dY X (.builtin "max") (rBn X.K (blt .max2)):=by rintro f s σ H xs o Q I r⟨F,ds,t,sm,q,he,k⟩;obtain⟨i,j,rfl,rfl⟩:=inv2 (g:=λi j=>if i<j then j else i) rfl (λa=>by cases a<;>rfl) (λa b c l=>by cases a<;>first|rfl|(cases b<;>rfl)) (λa b h=>by cases a<;>first|rfl|cases h) (λi b h=>by cases b<;>first|rfl|cases h) (λ_ _=>rfl) he;rw[SN q]at r;exact Hg hc f s σ H _ o Q I r ⟨_,_,rfl,cM.dC sm (bW _) k⟩
theorem boot_min:eP "min"=a7 (.builtin "min"):=by decide+kernel
theorem boot_max:eP "max"=a7 (.builtin "max"):=by decide+kernel
theorem jQ(f:x="min")(hc:X.calm=bT)(g:Gl X x)(j:X.mg x=none)(k:SA X c [a,b] [pa,pb])(hs:cv [a,b] X.env=(a_,er a X.env)::cv [b] X.env:=by rfl)(hpl:(gI pos (cv [b] X.env)).any (·.1)=a_:=by rfl):SX X c (.Call (.Name x p') [a,b] [] pos) (.blt .min2 [pa,pb]):=by subst f;exact SJ (λh=>dq (V9 hc) g j boot_min h (he:=hs) (hpl:=hpl)) k (λρ=>rfl) rfl
theorem wB(f:x="max")(hc:X.calm=bT)(g:Gl X x)(j:X.mg x=none)(k:SA X c [a,b] [pa,pb])(hs:cv [a,b] X.env=(a_,er a X.env)::cv [b] X.env:=by rfl)(hpl:(gI pos (cv [b] X.env)).any (·.1)=a_:=by rfl):SX X c (.Call (.Name x p') [a,b] [] pos) (.blt .max2 [pa,pb]):=by subst f;exact SJ (λh=>dq (W7 hc) g j boot_max h (he:=hs) (hpl:=hpl)) k (λρ=>rfl) rfl
end
section
variable{X:Cx}{c:Call}{n:Nat}{e a b d:dc}{p pa pb pd:P}{pos:Pos}{es:List dc}{ps:List P}
theorem wN(g:GS K F ρ σ H)(h:Cp ρ i=a7 ds):∃a xs,σ[i]?=a7 (a7 (V.ref a))/\gF K H a xs:=by
 unfold Cp at h;split at h;.rename_i q;cases h;obtain⟨v,h1,f⟩:=g.pk q;obtain⟨a,xs,rfl,j,_⟩:=f.lst g.sub;exact⟨a,xs,h1,j⟩
 .cases h
theorem nR{k:Nat}{h f:Pos}(G:X.N[k]?=a7 x)(I:uQ X.env.scope x)(hi:SX X c b pb)(he:SX X c e p)(J:∀ v,kH (.Subscript (.Name x h) b f) X.env v=(do
  let ov<-kc [v] (er (.Name x h) X.env)let iv<-kc [v,ov] (er b X.env)qE f
  kc [v,ov,iv] (ot ov iv v)release [v,ov,iv] []):=by intro _;rfl)(hs:kF [.Subscript (.Name x h) b f] e pos.line X.env=eS a_:=by rfl)(L:kG [.Subscript (.Name x h) b f] e X.env=eS none:=by rfl)(h1:(i_ [.Subscript (.Name x h) b f] X.env).map (·.2)=[kH (.Subscript (.Name x h) b f) X.env]:=by rfl)(hd:(x==("__debug__":Str))=a_:=by decide)(t:(x==("__classdict__":Str))=a_:=by decide):SS X c n (.Assign [.Subscript (.Name x h) b f] e pos) (.Ao k pb p):=by
 obtain⟨ti,u,w⟩:=hi.cZ;refine cO (My he.ev (Ut (dZ G I hd t) u set_list J) hs L h1) ?_;rintro D σ H⟨F,ρ,fl,M,g,e,kk⟩;rw[_H.X9]at e;obtain⟨r,y,O,e⟩:=aa e;obtain⟨x0,B,l,e⟩:=aa e;have Q:=aF l;clear l;obtain⟨l,U⟩:=Q;subst U;obtain⟨dk,W,Y,e⟩:=aa e;refine⟨F,ρ,r,y,g,O,λv F1 H1 s1 Z=>?_⟩;obtain⟨F2,s2,_,rp⟩:=s1.dD Z;obtain⟨o,ho,_⟩:=s2.gs.pk l;refine⟨o,ho,w s2.gs Y λvi F3 H3 s3 pi=>?_⟩;split at e
 . rename_i bb ds z q;split at e;.rename_i j hj;cases e;obtain⟨ad,xs,C,q2,q3,E⟩:=s3.gs.mZ k _ ds q rfl;rw[ho]at C;cases C;refine⟨ad,xs,z,j,rfl,pi.int,q2,by rw[E.length];exact hj,?_⟩;exact kk F3 σ _ ((s2.trans s3).trans (s3.gs.mut q ho (E.set (rp.mono s3.bY) j)))
   .cases e
 .cases e
theorem dH{k:Nat}{l f cpos:Pos}(E:X.N[k]?=a7 x)(G:uQ X.env.scope x)(he:SX X c e p)(h:(f.endLine==cpos.line)=bT:=by rfl)(hs:cv [e] X.env=(a_,er e X.env)::cv [] X.env:=by rfl)(j:iA (.Name x l) "append" X.env (er (.Name x l) X.env)=er (.Name x l) X.env:=by rfl)(o:((gI cpos (cv [e] X.env)).all (λx=>!x.1)&&(o3 cpos (l6 [] X.env)).all (λx=>x.1.isSome)&&decide ([e].length+([]:List kC).length+(if([]:List kC).isEmpty then 0 else 1)<30))=bT:=by rfl)(u:fy (.Call (.Attribute (.Name x l) "append" f) [e] [] cpos) none pos.line X.env=eS a_:=by rfl)(hd:(x==("__debug__":Str))=a_:=by decide)(w:(x==("__classdict__":Str))=a_:=by decide):SS X c n (.Expr (.Call (.Attribute (.Name x l) "append" f) [e] [] cpos) pos) (.app k p):=by
 refine cO (wQ (KQ plainAttrs_list PySem.F.slot_list_append PySem.F.type_list_append pP (dZ E G hd w) (bj he.ev dw hs) j o h hs) u) ?_;rintro D σ H⟨F,ρ,fl,I,g,e,kk⟩;rw[_H.X10]at e;obtain⟨d0,J,t,e⟩:=aa e;have L:=aF t;clear t;obtain⟨t,M⟩:=L;subst M;obtain⟨r,y,O,e⟩:=aa e;obtain⟨a,xs,h1,Q⟩:=wN g t;refine⟨.ref a,h1,.inl ⟨rfl,xs,Q⟩,F,ρ,r,y,g,O,λv F1 H1 s1 U=>?_⟩;obtain⟨W,s2,_,Y⟩:=s1.dD U;split at e
 . rename_i bb ds q;split at e;.rename_i z;cases e;obtain⟨ad,ys,B,Z,q3,C⟩:=s2.gs.mZ k _ ds q rfl;rw[h1]at B;cases B;exact⟨_,ys,v,rfl,rfl,Z,by rw[C.length];exact z,kk W σ _ (s2.trans (s2.gs.mut q h1 (C.append (.cons Y .nil))))⟩
   .cases e
 .cases e
theorem VJ{j:Nat}{y:Str}{l o pt:Pos}{kt k2 XR}(hc:X.calm=bT)(C:X.N.Nodup)(hi:X.N[i]?=a7 x)(E:X.N[j]?=a7 y)(q:i≠j)(G:X.env.scope.names.lookup x=a7 .local)(I:X.env.scope.names.lookup y=a7 .local)(J:SX X c a pa)(L:SX X c b pb)(M:kG [.Tuple [.Name x l,.Name y o] kt pt] (.Tuple [a,b] k2 XR) X.env=eS (a7 [x,y]):=by rfl)(hs:kF [.Tuple [.Name x l,.Name y o] kt pt] (.Tuple [a,b] k2 XR) pos.line X.env=eS a_:=by rfl)(h1:cv [a,b] X.env=(a_,er a X.env)::cv [b] X.env:=by rfl)(O:cv [b] X.env=(a_,er b X.env)::cv [] X.env:=by rfl):SS X c n (.Assign [.Tuple [.Name x l,.Name y o] kt pt] (.Tuple [a,b] k2 XR) pos) (.par i j pa pb):=by refine cO (_L.Vd hc C hi E q G I (bj J.ev (bj L.ev dw O) h1) M hs) ?_;rintro D σ H⟨F,ρ,fl,Q,g,e,k⟩;rw[_H.X7]at e;obtain⟨r,f,U,e⟩:=aa e;obtain⟨B,t,W,e⟩:=aa e;obtain⟨Y,Z,h,e⟩:=aa e;cases e;have zz:=aF h;clear h;obtain⟨h,e4⟩:=zz;obtain⟨ac,e5,e6⟩:=cH h;refine⟨F,ρ,r,f,g,U,λv F1 H1 s1 rr=>?_⟩;obtain⟨F2,s2,_,rp⟩:=s1.dD rr;refine⟨F2,f,B,t,s2.gs,W,λu F3 H3 s3 w=>?_⟩;obtain⟨F4,s4,_,z⟩:=s3.dD w;refine⟨v,u,rfl,?_⟩;have t4:=s2.trans s4;have t5:=t4.put (r:=.val r.d) (v:=v) (rp.mono s4.bY) e5;exact k F4 _ H3 (t5.put (r:=.val B.d) (v:=u) z e6)
theorem Li{bs:List Bool}(h:ds.mapM Gb=a7 bs):ds=bs.map D.bl:=by induction ds generalizing bs with|nil=>simp at h;subst h;rfl|cons d ds f=>rw[List.mapM_cons]at h;cases hd:Gb d with|none=>rw[hd]at h;cases h|some k=>rw[hd]at h;cases hr:ds.mapM Gb with|none=>rw[hr]at h;cases h|some r=>rw[hr]at h;cases h;rw[de,<-f hr,sE hd]
theorem Gs{K:PySem.W.Frag}{F:Hp}:∀{bs:List Bool}{xs:List V},aH K F xs (bs.map D.bl)->xs=bs.map V.bl|[],_,h=>h.gV|k::bs,_,h=>by obtain⟨v,r,rfl,h1,f⟩:=h.cL;rw[Rep]at h1;rw[h1,Gs f];rfl
theorem Dz:∀{bs:List Bool}{f:List bx},Vals (bs.map V.bl) f->f=bs.map jp|[],_,h=>h.zero|k::bs,_,.cons r t=>by rw[de,<-Dz t,show _=_ from r]
theorem Qp{id:String}{f:List Bool->Bool}(hc:X.calm=bT)(rule:∀{x:bx}{Q:bx->b_->Prop}{s:b_},cz (cK X.prog X.w) X.A.in1 (pyIter x) (λit g=>∃ I E t n P St y,it=.ref I/\Walks X.prog X.w X.A.in1 I E t n P St/\St 0 g.heap/\TruthOf X.prog X.w X.A.in1 P y/\∀h' tk,(∀b o,b∉t->g.heap.get? b=a7 o->h'.get? b=a7 o)->Q (.bool (f ((dL n).map y))) {g with heap:=h',toks:=tk}) X.xe s->cz (cK X.prog X.w) X.A (call (.builtin id) [x]) Q X.xe s):dY X (.builtin id) (λxs H Q=>∃p ys bs,xs=[.ref p]/\gF X.K H p ys/\ys=bs.map V.bl/\Q (.bl (f bs)) H):=by
 rintro B s σ H xs us Q I r⟨p,ys,bs,G,J,L,k⟩;subst G;subst L;obtain⟨u,rfl,M⟩:=r.one;cases M;obtain⟨N,O,l,hz⟩:=I.list J;have h:=Dz O;subst h;refine rule (gy l.isList ?_);have q:p≠s.heap.objs.size:=by obtain⟨o,h1,_⟩:=l.isList;exact ec (du h1)
 refine⟨s.heap.objs.size,_,_,_,_,_,λi=>bs.getD i a_,rfl,Walks.list (prog:=X.prog) (w:=X.w) (A:=X.A.in1) (show X.A.in1.handled=none from I.ok.hd hc) s.heap.objs.size p q (bs.map jp).toArray,⟨⟨_,cy _ rfl,rfl,rfl⟩,?_⟩,?_,λh' tk kp=>?_⟩;.obtain⟨o,h1,C⟩:=l.isList;exact⟨o,eG h1,C⟩
 . intro i v s' Q' E' j U;have W:v=.bool (bs.getD i a_):=by
    have j:(bs.map jp)[i]?=a7 v:=by simpa using j
    rw[eV]at j;obtain⟨k',Y,Z⟩:=map_some j;rw[<-Z,fm,Y];rfl
   subst W;exact ia U
 . have e:f ((dL (bs.map jp).toArray.size).map λi=>bs.getD i a_)=f bs:=by
    congr 1;apply oa;.simp
    .intro i h1 C;simp at h1;simp[h1]
   rw[e];exact⟨.bl _,H,I.kept (λb o z=>kp b o (by simp;exact ec (du z)) (eG z)),rfl,k⟩
theorem aaM(hc:X.calm=bT):dY X (.builtin "all") (QM X.K λx=>blt .all [x]):=by rintro g s σ H xs q Q I r⟨x,t,F,d,u,sm,w,he,k⟩;obtain⟨bs,y,he⟩:=map_some (show((BL d).bind λds=>ds.mapM Gb).map _=a7 u from he);subst he;obtain⟨ds,j,B⟩:=cH y;have C:=Li B;cases d with|lst es=>cases j;obtain⟨p,ys,rfl,E,l⟩:=w.lst sm;rw[C]at l;refine Qp (f:=λbs=>bs.all id) hc (λh=>call_all_walk (d_ h (λit o⟨I,fp,wr,n,P,Sx,tr,h1,h2,h3,h4,h5⟩=>⟨I,fp,wr,n,P,Sx,tr,h1,h2,h3,h4,λh' tk kp=>?_⟩) λ_ _ z=>z)) g s σ H xs q Q I r ⟨p,ys,bs,t,E,Gs l,cM.dC sm (iT _) k⟩;have z:=h5 h' tk kp;rw[List.all_map]at z;exact z|_=>cases j
theorem boot_all:eP "all"=a7 (.builtin "all"):=by decide+kernel
theorem CZ(f:x="all")(hc:X.calm=bT)(g:Gl X x)(j:X.mg x=none)(k:SX X c a pa)(hs:cv [a] X.env=(a_,er a X.env)::cv [] X.env:=by rfl):SX X c (.Call (.Name x p') [a] [] pos) (.blt .all [pa]):=by subst f;exact qp (λh=>dq (aaM hc) g j boot_all h (he:=hs)) k (λρ=>rfl) rfl hs
end
section
variable{K:PySem.W.Frag}
theorem lr:∀{xs ys:List D},xs.length≠ys.length->lY xs ys=a_|[],[],h=>absurd rfl h|[],_::_,_=>by simp[mJ,jy,tU,su]|_::_,[],_=>by simp[mJ,jy,tU,su]|x::xs,y::ys,h=>by rw[jy,lr (xs:=xs) (ys:=ys) (by simpa using h),jx]
theorem iw:∀{xs ys:List D},xs.length=ys.length->lY xs ys=(dL xs.length).all λj=>mG (xs.getD j .non) (ys.getD j .non)|[],[],_=>by rw[mJ];rfl|[],_::_,h=>by simp at h|_::_,[],h=>by simp at h|x::xs,y::ys,h=>by rw[jy,iw (xs:=xs) (ys:=ys) (by simpa using h),dV,List.range_succ_eq_map,r8,List.all_map];rfl
mutual
theorem zV:∀d:D,mG d d=bT|.non=>rfl|.bl _=>by exact beq_self_eq_true _|.int _=>by exact beq_self_eq_true _|.str _=>by exact beq_self_eq_true _|.tup ds=>by exact lN ds|.lst ds=>by exact lN ds|.dI _=>by exact decide_eq_true rfl|.dv ks ds=>by show(decide (ks=ks)&&lY ds ds)=bT;rw[lN ds];simp
theorem lN:∀ds:List D,lY ds ds=bT|[]=>by rw[mJ]|d::ds=>by rw[jy,zV d,lN ds];rfl
end
theorem gM{d e:D}(b:flat d=bT)(h1:Rep K F v d)(a:Rep K F v e):d=e:=by cases d with
 |tup _=>cases b|lst _=>cases b|dI _=>cases b|dv _ _=>cases b|non=>rw[Rep]at h1;subst h1;cases e with|non=>rfl|tup _=>rw[Rep]at a;obtain⟨_,_,q,_⟩:=a;cases q|lst _=>rw[Rep]at a;obtain⟨_,_,q,_⟩:=a;cases q|dI _=>rw[Rep]at a;obtain⟨_,_,q,_⟩:=a;cases q|dv _ _=>rw[Rep]at a;obtain⟨_,_,_,q,_⟩:=a;cases q|_=>rw[Rep]at a;cases a
 |bl k=>rw[Rep]at h1;subst h1;cases e with|bl _=>rw[Rep]at a;cases a;rfl|tup _=>rw[Rep]at a;obtain⟨_,_,q,_⟩:=a;cases q|lst _=>rw[Rep]at a;obtain⟨_,_,q,_⟩:=a;cases q|dI _=>rw[Rep]at a;obtain⟨_,_,q,_⟩:=a;cases q|dv _ _=>rw[Rep]at a;obtain⟨_,_,_,q,_⟩:=a;cases q|_=>rw[Rep]at a;cases a
 |int k=>rw[Rep]at h1;subst h1;cases e with|int _=>rw[Rep]at a;cases a;rfl|tup _=>rw[Rep]at a;obtain⟨_,_,q,_⟩:=a;cases q|lst _=>rw[Rep]at a;obtain⟨_,_,q,_⟩:=a;cases q|dI _=>rw[Rep]at a;obtain⟨_,_,q,_⟩:=a;cases q|dv _ _=>rw[Rep]at a;obtain⟨_,_,_,q,_⟩:=a;cases q|_=>rw[Rep]at a;cases a
 |str k=>rw[Rep]at h1;subst h1;cases e with|str _=>rw[Rep]at a;cases a;rfl|tup _=>rw[Rep]at a;obtain⟨_,_,q,_⟩:=a;cases q|lst _=>rw[Rep]at a;obtain⟨_,_,q,_⟩:=a;cases q|dI _=>rw[Rep]at a;obtain⟨_,_,q,_⟩:=a;cases q|dv _ _=>rw[Rep]at a;obtain⟨_,_,_,q,_⟩:=a;cases q|_=>rw[Rep]at a;cases a
theorem Ru{X:Cx}{u:List (ce×Obj)}(I:_L.Inv X u σ H s)(sm:aD F H):∀n:Nat,(∀d:D,jZ n d=bT->∀(v:V)(e:D),Rep X.K F v d->Rep X.K F v e->d=e):=by
 have N:∀{a:ce}{xs ys:List V},mq X.K F a xs->gF X.K F a ys->False:=λ{a xs ys}h1 b=>by obtain⟨_,_,⟨o,g,j,_⟩,_⟩:=I.tuple (aD.jo sm h1);obtain⟨_,_,w,_⟩:=I.list (sm.seq b);obtain⟨C,c,f,_⟩:=w.isList;rw[g]at c;cases c;rw[j]at f;exact absurd f (by decide)
 have dd:∀{a:ce}{kvs:Dc},Rep X.K F (.ref a) (.dI kvs)->∃o,s.heap.get? a=a7 o/\o.cls=.type "dict":=λ{a kvs}h=>by rw[Rep]at h;obtain⟨y,_,q,E⟩:=h;cases q;exact M4 I (sm _ _ E)
 have O:∀{a:ce}{xs:List V}{kvs:Dc},mq X.K F a xs->Rep X.K F (.ref a) (.dI kvs)->False:=λ{a xs kvs}h1 b=>by obtain⟨_,_,⟨o,g,j,_⟩,_⟩:=I.tuple (aD.jo sm h1);obtain⟨C,c,f⟩:=dd b;rw[g]at c;cases c;rw[j]at f;exact absurd f (by decide)
 have ld:∀{a:ce}{xs:List V}{kvs:Dc},gF X.K F a xs->Rep X.K F (.ref a) (.dI kvs)->False:=λ{a xs kvs}h1 b=>by obtain⟨_,_,w,_⟩:=I.list (sm.seq h1);obtain⟨o,g,j,_⟩:=w.isList;obtain⟨C,c,f⟩:=dd b;rw[g]at c;cases c;rw[j]at f;exact absurd f (by decide)
 have z:∀{a:ce}{ks:List Int}{es:List D},Rep X.K F (.ref a) (.dv ks es)->∃o,s.heap.get? a=a7 o/\o.cls=.type "dict":=λ{a ks es}h=>by rw[Rep]at h;obtain⟨y,_,_,q,E,_⟩:=h;cases q;exact Nb I (sm _ _ E)
 have G:∀{a:ce}{xs:List V}{ks:List Int}{es:List D},mq X.K F a xs->Rep X.K F (.ref a) (.dv ks es)->False:=λ{a xs ks es}h1 b=>by obtain⟨_,_,⟨o,g,j,_⟩,_⟩:=I.tuple (aD.jo sm h1);obtain⟨C,c,f⟩:=z b;rw[g]at c;cases c;rw[j]at f;exact absurd f (by decide)
 have J:∀{a:ce}{xs:List V}{ks:List Int}{es:List D},gF X.K F a xs->Rep X.K F (.ref a) (.dv ks es)->False:=λ{a xs ks es}h1 b=>by obtain⟨_,_,w,_⟩:=I.list (sm.seq h1);obtain⟨o,g,j,_⟩:=w.isList;obtain⟨C,c,f⟩:=z b;rw[g]at c;cases c;rw[j]at f;exact absurd f (by decide)
 intro n;induction n with
 |zero=>intro d hd v e h1 b;cases d with|tup _=>simp[bJ,bG,bM,bI,bK,bL]at hd|lst _=>simp[bJ,bG,bM,bI,bK,bL]at hd|dI _=>simp[bJ,bG,bM,bI,bK,bL]at hd|dv _ _=>simp[bJ,bG,bM,bI,bK,bL]at hd|non=>exact gM rfl h1 b|bl k=>exact gM rfl h1 b|int k=>exact gM rfl h1 b|str k=>exact gM rfl h1 b
 |succ n Q=>
   have all:∀{xs:List V}{ds es:List D},ds.all (jZ n)=bT->aH X.K F xs ds->aH X.K F xs es->ds=es:=λ{xs ds}=>by induction ds generalizing xs with|nil=>intro es _ h1 b;rw[h1.gV]at b;have:=b.length;exact(ft this.symm).symm|cons d ds L=>intro es p h1 b;rw[r8,fk]at p;obtain⟨v,r,rfl,g,j⟩:=h1.cL;cases es with|nil=>cases b.gV|cons e es=>obtain⟨W,Y,U,c,f⟩:=b.cL;cases U;rw[Q d p.1 v e g c,L p.2 j f]
   intro d hd v e h1 b;cases d with
   |dI _=>simp[bJ,bG,bM,bI,bK,bL]at hd|dv _ _=>simp[bJ,bG,bM,bI,bK,bL]at hd|tup ds=>
     have p:ds.all (jZ n)=bT:=by simpa[bJ,bG,bM,bI,bK,bL]using hd
     rw[Rep]at h1;obtain⟨a,xs,rfl,l,M⟩:=h1;cases e with|tup es=>rw[Rep]at b;obtain⟨y,ys,q,t,B⟩:=b;cases q;have:=I.o8 (aD.jo sm l) (aD.jo sm t);subst this;rw[all p M B]|lst es=>rw[Rep]at b;obtain⟨y,ys,q,t,B⟩:=b;cases q;exact(N l t).elim|dI _=>exact(O l b).elim|dv _ _=>exact(G l b).elim|_=>rw[Rep]at b;cases b
   |lst ds=>
     have p:ds.all (jZ n)=bT:=by simpa[bJ,bG,bM,bI,bK,bL]using hd
     rw[Rep]at h1;obtain⟨a,xs,rfl,l,M⟩:=h1;cases e with|lst es=>rw[Rep]at b;obtain⟨y,ys,q,t,B⟩:=b;cases q;have:=I.uD (sm.seq l) (sm.seq t);subst this;rw[all p M B]|tup es=>rw[Rep]at b;obtain⟨y,ys,q,t,B⟩:=b;cases q;exact(N t l).elim|dI _=>exact(ld l b).elim|dv _ _=>exact(J l b).elim|_=>rw[Rep]at b;cases b
   |non=>exact gM rfl h1 b|bl k=>exact gM rfl h1 b|int k=>exact gM rfl h1 b|str k=>exact gM rfl h1 b
theorem Gj{d e:D}{u:V}{c:bx}(hd:flat d=bT)(he:flat e=bT)(h1:Rep K F v d)(a:Rep K F u e)(r1:RelV v c)(b:RelV u u'):io A s c u' (mG d e):=by cases d with
 |tup _=>cases hd|lst _=>cases hd|dI _=>cases hd|dv _ _=>cases hd|non=>rw[Rep]at h1;subst h1;cases(show c=.none from r1);cases e with|tup _=>cases he|lst _=>cases he|dI _=>cases he|dv _ _=>cases he|non=>rw[Rep]at a;subst a;cases(show u'=.none from b);exact SeqAt.EqAt.same _|bl _=>rw[Rep]at a;subst a;cases(show u'=.bool _ from b);exact SeqAt.EqAt.none_bool _|int _=>rw[Rep]at a;subst a;obtain⟨t,rfl⟩:=b;exact SeqAt.EqAt.none_int _ _|str _=>rw[Rep]at a;subst a;obtain⟨t,rfl⟩:=b;exact SeqAt.EqAt.none_str _ _
 |bl _=>rw[Rep]at h1;subst h1;cases(show c=.bool _ from r1);cases e with|tup _=>cases he|lst _=>cases he|dI _=>cases he|dv _ _=>cases he|non=>rw[Rep]at a;subst a;cases(show u'=.none from b);exact SeqAt.EqAt.bool_none _|bl _=>rw[Rep]at a;subst a;cases(show u'=.bool _ from b);exact SeqAt.EqAt.bool_bool _ _|int _=>rw[Rep]at a;subst a;obtain⟨t,rfl⟩:=b;exact SeqAt.EqAt.bool_int _ _ _|str _=>rw[Rep]at a;subst a;obtain⟨t,rfl⟩:=b;exact SeqAt.EqAt.bool_str _ _ _
 |int _=>rw[Rep]at h1;subst h1;obtain⟨t0,rfl⟩:=r1;cases e with|tup _=>cases he|lst _=>cases he|dI _=>cases he|dv _ _=>cases he|non=>rw[Rep]at a;subst a;cases(show u'=.none from b);exact SeqAt.EqAt.int_none _ _|bl _=>rw[Rep]at a;subst a;cases(show u'=.bool _ from b);exact SeqAt.EqAt.int_bool _ _ _|int _=>rw[Rep]at a;subst a;obtain⟨t,rfl⟩:=b;exact SeqAt.EqAt.int_int _ _ _ _|str _=>rw[Rep]at a;subst a;obtain⟨t,rfl⟩:=b;exact int_str _ _ _ _
 |str _=>rw[Rep]at h1;subst h1;obtain⟨t0,rfl⟩:=r1;cases e with|tup _=>cases he|lst _=>cases he|dI _=>cases he|dv _ _=>cases he|non=>rw[Rep]at a;subst a;cases(show u'=.none from b);exact SeqAt.EqAt.str_none _ _|bl _=>rw[Rep]at a;subst a;cases(show u'=.bool _ from b);exact SeqAt.EqAt.str_bool _ _ _|int _=>rw[Rep]at a;subst a;obtain⟨t,rfl⟩:=b;exact str_int _ _ _ _|str _=>rw[Rep]at a;subst a;obtain⟨t,rfl⟩:=b;exact SeqAt.EqAt.str_str _ _ _ _
theorem nD{e:D}{u:V}{a:ce}{g:Array bx}(ht:s.heap.IsTuple a g)(b:A.units<fT)(he:flat e=bT)(c:Rep K F u e)(f:RelV u u'):io A s (.ref a) u' (mG (.tup ds) e)/\io A s u' (.ref a) (mG e (.tup ds)):=by cases e with|tup _=>cases he|lst _=>cases he|dI _=>cases he|dv _ _=>cases he|non=>rw[Rep]at c;subst c;cases(show u'=.none from f);exact⟨SeqAt.EqAt.tuple_none ht b,SeqAt.EqAt.none_tuple ht b⟩|bl _=>rw[Rep]at c;subst c;cases(show u'=.bool _ from f);exact⟨SeqAt.EqAt.tuple_bool _ ht b,SeqAt.EqAt.bool_tuple _ ht b⟩|int _=>rw[Rep]at c;subst c;obtain⟨t,rfl⟩:=f;exact⟨SeqAt.EqAt.tuple_int _ _ ht b,SeqAt.EqAt.int_tuple _ _ ht b⟩|str _=>rw[Rep]at c;subst c;obtain⟨t,rfl⟩:=f;exact⟨SeqAt.EqAt.tuple_str _ _ ht b,SeqAt.EqAt.str_tuple _ _ ht b⟩
theorem oK{e:D}{u:V}{a:ce}{g:Array bx}(ht:s.heap.IsList a g)(b:A.units<fT)(he:flat e=bT)(c:Rep K F u e)(f:RelV u u'):io A s (.ref a) u' (mG (.lst ds) e)/\io A s u' (.ref a) (mG e (.lst ds)):=by cases e with|tup _=>cases he|lst _=>cases he|dI _=>cases he|dv _ _=>cases he|non=>rw[Rep]at c;subst c;cases(show u'=.none from f);exact⟨SeqAt.EqAt.list_none ht b,SeqAt.EqAt.none_list ht b⟩|bl _=>rw[Rep]at c;subst c;cases(show u'=.bool _ from f);exact⟨SeqAt.EqAt.list_bool _ ht b,SeqAt.EqAt.bool_list _ ht b⟩|int _=>rw[Rep]at c;subst c;obtain⟨t,rfl⟩:=f;exact⟨SeqAt.EqAt.list_int _ _ ht b,SeqAt.EqAt.int_list _ _ ht b⟩|str _=>rw[Rep]at c;subst c;obtain⟨t,rfl⟩:=f;exact⟨SeqAt.EqAt.list_str _ _ ht b,SeqAt.EqAt.str_list _ _ ht b⟩
theorem zr{n:Nat}{d:D}(h:jZ n d=bT)(h0:n=0):flat d=bT:=by subst h0;cases d<;>first|rfl|simp[bJ,bG,bM,bI,bK,bL]at h
theorem af9{X:Cx}{C:List (ce×Obj)}(I:_L.Inv X C σ H s)(sm:aD F H):∀(n:Nat)(A:ek),A.units+n<fT->∀(d e:D),jZ n d=bT->jZ n e=bT->∀(v u:V)(E u':bx),Rep X.K F v d->Rep X.K F u e->RelV v E->RelV u u'->io A s E u' (mG d e):=by intro n;induction n with|zero=>intro A W d e hd he v u E u' h1 f r1 g;exact Gj (zr hd rfl) (zr he rfl) h1 f r1 g|succ n Y=>
   intro A W d e hd he v u E u' h1 f r1 g;have c:A.units<fT:=by omega
   have L:A.in1.units+n<fT:=by show A.units+1+n<fT;omega--items by place
   have G:∀{xs ys:List V}{q ws:List bx}{ds es:List D}{j:Nat}(k1:j<q.toArray.size)(k2:j<ws.toArray.size),ds.all (jZ n)=bT->es.all (jZ n)=bT->Vals xs q->Vals ys ws->aH X.K F xs ds->aH X.K F ys es->io A.in1 s q.toArray[j] ws.toArray[j] (mG (ds.getD j .non) (es.getD j .non)):=λ{xs ys q ws ds es j}k1 k2 Z a2 B h p1 p2=>by
    have k1:j<q.length:=by simpa using k1
    have k2:j<ws.length:=by simpa using k2
    have r:j<ds.length:=by rw[<-p1.length,B.length];exact k1
    have l2:j<es.length:=by rw[<-p2.length,h.length];exact k2
    obtain⟨x,g1,g2⟩:=p1.get (show ds[j]?=a7 ds[j]by simp[r]);obtain⟨y,g3,g4⟩:=p2.get (show es[j]?=a7 es[j]by simp[l2]);obtain⟨Q,g5,g6⟩:=B.get g1;obtain⟨U,g7,g8⟩:=h.get g3;have e1:q.toArray[j]=Q:=by have:=(fu g5).2;simpa using this
    have e2:ws.toArray[j]=U:=by have:=(fu g7).2;simpa using this
    have e3:ds.getD j .non=ds[j]:=by simp[jv,r]
    have e4:es.getD j .non=es[j]:=by simp[jv,l2]
    rw[e1,e2,e3,e4];exact Y A.in1 L _ _ (fw.mp Z _ (l7 r)) (fw.mp a2 _ (l7 l2)) x y Q U g2 g4 g6 g8--the same object
   have same:∀{a:ce},v=.ref a->u=.ref a->io A s E u' (mG d e):=λ{a}q1 q2=>by subst q1;subst q2;have:=Ru I sm (n+1) d hd _ e h1 f;subst this;rw[zV];cases r1;cases g;exact SeqAt.EqAt.same _
   cases d with
   |dI _=>simp[bJ,bG,bM,bI,bK,bL]at hd|dv _ _=>simp[bJ,bG,bM,bI,bK,bL]at hd|tup ds=>
     have M:ds.all (jZ n)=bT:=by simpa[bJ,bG,bM,bI,bK,bL]using hd
     have k:=h1;rw[Rep]at k;obtain⟨a,xs,rfl,N,J⟩:=k;cases r1;obtain⟨q,B,p1,_⟩:=I.tuple (aD.jo sm N)
     cases e with|dI _=>simp[bJ,bG,bM,bI,bK,bL]at he|dv _ _=>simp[bJ,bG,bM,bI,bK,bL]at he|tup es=>
       have O:es.all (jZ n)=bT:=by simpa[bJ,bG,bM,bI,bK,bL]using he
       have l:=f;rw[Rep]at l;obtain⟨b,ys,rfl,o,t⟩:=l;by_cases p:a=b;.subst p;exact same rfl rfl
       . cases g;obtain⟨ws,h,p2,_⟩:=I.tuple (aD.jo sm o);refine .of_refs p ?_;have z:=SeqAt.RcAt.tuples (A:=A) (e:=λj=>mG (ds.getD j .non) (es.getD j .non)) p1 p2 c λj k1 k2=>G k1 k2 M O B h J t;have r:q.toArray.size=ds.length:=by rw[cE,<-B.length,J.length]
         have l2:ws.toArray.size=es.length:=by rw[cE,<-h.length,t.length]
         rw[r,l2]at z;have e0:mG (.tup ds) (.tup es)=((dL (min ds.length es.length)).all (λj=>mG (ds.getD j .non) (es.getD j .non))&&ds.length==es.length):=by
          rw[pqt];by_cases w:ds.length=es.length;.rw[iw w,w];simp
          . rw[lr w];have:(ds.length==es.length)=a_:=by simpa using w
            rw[this,jx]
         rw[e0];exact z|lst es=>rw[Rep]at f;obtain⟨b,ys,rfl,o,t⟩:=f;cases g;obtain⟨ws,h,p2,_⟩:=I.list (sm.seq o);exact SeqAt.EqAt.tuple_list p1 p2.isList c|non=>exact(nD p1 c rfl f g).1|bl _=>exact(nD p1 c rfl f g).1|int _=>exact(nD p1 c rfl f g).1|str _=>exact(nD p1 c rfl f g).1
   |lst ds=>
     have M:ds.all (jZ n)=bT:=by simpa[bJ,bG,bM,bI,bK,bL]using hd
     have k:=h1;rw[Rep]at k
     obtain⟨a,xs,rfl,N,J⟩:=k;cases r1;obtain⟨q,B,p1,_⟩:=I.list (sm.seq N);cases e with|dI _=>simp[bJ,bG,bM,bI,bK,bL]at he|dv _ _=>simp[bJ,bG,bM,bI,bK,bL]at he|lst es=>
       have O:es.all (jZ n)=bT:=by simpa[bJ,bG,bM,bI,bK,bL]using he
       have l:=f;rw[Rep]at l;obtain⟨b,ys,rfl,o,t⟩:=l;by_cases p:a=b;.subst p;exact same rfl rfl
       . cases g;obtain⟨ws,h,p2,_⟩:=I.list (sm.seq o);refine .of_refs p ?_;have r:q.toArray.size=ds.length:=by rw[cE,<-B.length,J.length]
         have l2:ws.toArray.size=es.length:=by rw[cE,<-h.length,t.length]
         rw[pql];by_cases w:ds.length=es.length;.have z:=SeqAt.RcAt.lists (A:=A) (e:=λj=>mG (ds.getD j .non) (es.getD j .non)) p1.isList p2.isList (by rw[r,l2,w]) c λj k1 k2=>G k1 k2 M O B h J t;rw[r]at z;rw[iw w];exact z
         .rw[lr w];exact lists_lengths p1.isList p2.isList (by rw[r,l2];simpa using w) c|tup es=>rw[Rep]at f;obtain⟨b,ys,rfl,o,t⟩:=f;cases g;obtain⟨ws,h,p2,_⟩:=I.tuple (aD.jo sm o);exact SeqAt.EqAt.list_tuple p1.isList p2 c|non=>exact(oK p1.isList c rfl f g).1|bl _=>exact(oK p1.isList c rfl f g).1|int _=>exact(oK p1.isList c rfl f g).1|str _=>exact(oK p1.isList c rfl f g).1
   |non|bl _|int _|str _=>cases e with|dI _=>simp[bJ,bG,bM,bI,bK,bL]at he|dv _ _=>simp[bJ,bG,bM,bI,bK,bL]at he|tup es=>rw[Rep]at f;obtain⟨b,ys,rfl,o,t⟩:=f;cases g;obtain⟨ws,h,p2,_⟩:=I.tuple (aD.jo sm o);exact(nD p2 c rfl h1 r1).2|lst es=>rw[Rep]at f;obtain⟨b,ys,rfl,o,t⟩:=f;cases g;obtain⟨ws,h,p2,_⟩:=I.list (sm.seq o);exact(oK p2.isList c rfl h1 r1).2|_=>exact Gj rfl rfl h1 f r1 g
end
section
variable{X:Cx}{pins:List (ce×Obj)}{σ:_L.St}{H F:Hp}{s:b_}{A:ek}
noncomputable abbrev RC(A:ek)(s:b_)(v u:bx)(k:Bool):Prop:=SeqAt.RcAt A s v u k/\SeqAt.RcNeAt A s v u (!k)
inductive Top(X:Cx)(F H:Hp)(s:b_):bx->D->Prop where|non:Top X F H s .none .non|bl(b:Bool):Top X F H s (.bool b) (.bl b)|int(i:Int)(t:Tok):Top X F H s (.int i t) (.int i)|str(x:Str)(t:Tok):Top X F H s (.str x t) (.str x)|tup{a:ce}{us:List bx}{xs:List V}{ds:List D}(ht:s.heap.IsTuple a us.toArray)(hv:Vals xs us)(hr:aH X.K F xs ds):Top X F H s (.ref a) (.tup ds)|lst{a:ce}{us:List bx}{xs:List V}{ds:List D}(ht:s.heap.IsList a us.toArray)(hv:Vals xs us)(hr:aH X.K F xs ds):Top X F H s (.ref a) (.lst ds)
theorem xq(I:_L.Inv X pins σ H s)(sm:aD F H){f:bx}{d:D}(hd:jZ 8 d=bT)(h:fH X.K F H v d)(r:RelV v f):Top X F H s f d:=by cases d with|dI _=>simp[bJ,bG,bM,bI,bK,bL]at hd|dv _ _=>simp[bJ,bG,bM,bI,bK,bL]at hd|non=>rw[h.non]at r;cases r;exact .non|bl b=>rw[h.bl]at r;cases r;exact .bl b|int i=>rw[h.int]at r;obtain⟨t,rfl⟩:=r;exact .int i t|str x=>rw[h.str]at r;obtain⟨t,rfl⟩:=r;exact .str x t|tup ds=>obtain⟨a,xs,rfl,h1,c,_⟩:=h.tup sm;cases r;obtain⟨g,e,p1,_⟩:=I.tuple h1;exact .tup p1 e c|lst ds=>obtain⟨a,xs,rfl,h1,c⟩:=h.lst sm;cases r;obtain⟨g,e,p1,_⟩:=I.list h1;exact .lst p1.isList e c
theorem aaR(I:_L.Inv X pins σ H s)(sm:aD F H){n:Nat}(hu:A.units+(n+1)<fT){d e:D}(hd:jZ (n+1) d=bT)(he:jZ (n+1) e=bT){E:bx}(h1:Top X F H s E d)(r:Top X F H s u' e):RC A s E u' (mG d e):=by
 have c:A.units<fT:=by omega
 have C:A.in1.units+n<fT:=by show A.units+1+n<fT;omega
 have p:∀{xs ys:List V}{o ws:List bx}{ds es:List D}{j:Nat}(k1:j<o.toArray.size)(k2:j<ws.toArray.size),ds.all (jZ n)=bT->es.all (jZ n)=bT->Vals xs o->Vals ys ws->aH X.K F xs ds->aH X.K F ys es->io A.in1 s o.toArray[j] ws.toArray[j] (mG (ds.getD j .non) (es.getD j .non)):=λ{xs ys o ws ds es j}k1 k2 N O G J p1 p2=>by
  have k1:j<o.length:=by simpa using k1
  have k2:j<ws.length:=by simpa using k2
  have k:j<ds.length:=by rw[<-p1.length,G.length];exact k1
  have l2:j<es.length:=by rw[<-p2.length,J.length];exact k2
  obtain⟨x,Q,U⟩:=p1.get (show ds[j]?=a7 ds[j]by simp[k]);obtain⟨y,W,Y⟩:=p2.get (show es[j]?=a7 es[j]by simp[l2]);obtain⟨L,Z,g6⟩:=G.get Q;obtain⟨M,g7,g8⟩:=J.get W;have e1:o.toArray[j]=L:=by have:=(fu Z).2;simpa using this
  have e2:ws.toArray[j]=M:=by have:=(fu g7).2;simpa using this
  have e3:ds.getD j .non=ds[j]:=by simp[jv,k]
  have e4:es.getD j .non=es[j]:=by simp[jv,l2]
  rw[e1,e2,e3,e4];exact af9 I sm n A.in1 C _ _ (fw.mp N _ (l7 k)) (fw.mp O _ (l7 l2)) x y L M U Y g6 g8
 cases h1 with
 |non=>cases r with|non=>exact⟨SeqAt.RcAt.none_none,SeqAt.RcNeAt.none_none⟩|bl b=>exact⟨SeqAt.RcAt.none_bool _,SeqAt.RcNeAt.none_bool _⟩|int i t=>exact⟨SeqAt.RcAt.none_int _ _,none_int _ _⟩|str i t=>exact⟨SeqAt.RcAt.none_str _ _,none_str _ _⟩|tup ht _ _=>exact⟨SeqAt.RcAt.none_tuple ht c,SeqAt.RcNeAt.none_tuple ht c⟩|lst ht _ _=>exact⟨SeqAt.RcAt.none_list ht c,SeqAt.RcNeAt.none_list ht c⟩
 |bl b0=>cases r with|non=>exact⟨SeqAt.RcAt.bool_none _,SeqAt.RcNeAt.bool_none _⟩|bl b=>exact⟨SeqAt.RcAt.bool_bool _ _,SeqAt.RcNeAt.bool_bool _ _⟩|int i t=>exact⟨SeqAt.RcAt.bool_int _ _ _,bool_int _ _ _⟩|str i t=>exact⟨SeqAt.RcAt.bool_str _ _ _,bool_str _ _ _⟩|tup ht _ _=>exact⟨SeqAt.RcAt.bool_tuple _ ht c,SeqAt.RcNeAt.bool_tuple _ ht c⟩|lst ht _ _=>exact⟨SeqAt.RcAt.bool_list _ ht c,SeqAt.RcNeAt.bool_list _ ht c⟩
 |int i0 t0=>cases r with|non=>exact⟨SeqAt.RcAt.int_none _ _,int_none _ _⟩|bl b=>exact⟨SeqAt.RcAt.int_bool _ _ _,int_bool _ _ _⟩|int i t=>exact⟨SeqAt.RcAt.int_int _ _ _ _,int_int _ _ _ _⟩|str i t=>exact⟨SeqAt.RcAt.int_str _ _ _ _,SeqAt.RcNeAt.int_str _ _ _ _⟩|tup ht _ _=>exact⟨SeqAt.RcAt.int_tuple _ _ ht c,SeqAt.RcNeAt.int_tuple _ _ ht c⟩|lst ht _ _=>exact⟨SeqAt.RcAt.int_list _ _ ht c,int_list _ _ ht c⟩
 |str i0 t0=>cases r with|non=>exact⟨SeqAt.RcAt.str_none _ _,str_none _ _⟩|bl b=>exact⟨SeqAt.RcAt.str_bool _ _ _,str_bool _ _ _⟩|int i t=>exact⟨SeqAt.RcAt.str_int _ _ _ _,SeqAt.RcNeAt.str_int _ _ _ _⟩|str i t=>exact⟨SeqAt.RcAt.str_str _ _ _ _,str_str _ _ _ _⟩|tup ht _ _=>exact⟨SeqAt.RcAt.str_tuple _ _ ht c,SeqAt.RcNeAt.str_tuple _ _ ht c⟩|lst ht _ _=>exact⟨SeqAt.RcAt.str_list _ _ ht c,str_list _ _ ht c⟩
 |@tup a o xs ds ht q hr=>
   have u:ds.all (jZ n)=bT:=by simpa[bJ,bG,bM,bI,bK,bL]using hd
   cases r with|non=>exact⟨SeqAt.RcAt.tuple_none ht c,SeqAt.RcNeAt.tuple_none ht c⟩|bl b=>exact⟨SeqAt.RcAt.tuple_bool _ ht c,SeqAt.RcNeAt.tuple_bool _ ht c⟩|int i t=>exact⟨SeqAt.RcAt.tuple_int _ _ ht c,SeqAt.RcNeAt.tuple_int _ _ ht c⟩|str i t=>exact⟨SeqAt.RcAt.tuple_str _ _ ht c,SeqAt.RcNeAt.tuple_str _ _ ht c⟩|lst h _ _=>exact⟨SeqAt.RcAt.tuple_list ht h c,SeqAt.RcNeAt.tuple_list ht h c⟩|@tup b ws ys es h f g=>
     have w:es.all (jZ n)=bT:=by simpa[bJ,bG,bM,bI,bK,bL]using he
     have k:o.toArray.size=ds.length:=by rw[cE,<-q.length,hr.length]
     have l2:ws.toArray.size=es.length:=by rw[cE,<-f.length,g.length]
     have z:=SeqAt.RcAt.tuples (A:=A) (e:=λj=>mG (ds.getD j .non) (es.getD j .non)) ht h c λj k1 k2=>p k1 k2 u w q f hr g;have B:=SeqAt.RcNeAt.tuples (A:=A) (e:=λj=>mG (ds.getD j .non) (es.getD j .non)) ht h c λj k1 k2=>p k1 k2 u w q f hr g;rw[k,l2]at z B;have e0:mG (.tup ds) (.tup es)=((dL (min ds.length es.length)).all (λj=>mG (ds.getD j .non) (es.getD j .non))&&ds.length==es.length):=by
      rw[pqt];by_cases l:ds.length=es.length;.rw[iw l,l];simp
      . rw[lr l];have:(ds.length==es.length)=a_:=by simpa using l
        rw[this,jx]
     rw[e0];exact⟨z,B⟩
 |@lst a o xs ds ht q hr=>
   have u:ds.all (jZ n)=bT:=by simpa[bJ,bG,bM,bI,bK,bL]using hd
   cases r with|non=>exact⟨SeqAt.RcAt.list_none ht c,SeqAt.RcNeAt.list_none ht c⟩|bl b=>exact⟨SeqAt.RcAt.list_bool _ ht c,SeqAt.RcNeAt.list_bool _ ht c⟩|int i t=>exact⟨SeqAt.RcAt.list_int _ _ ht c,list_int _ _ ht c⟩|str i t=>exact⟨SeqAt.RcAt.list_str _ _ ht c,list_str _ _ ht c⟩|tup h _ _=>exact⟨SeqAt.RcAt.list_tuple ht h c,SeqAt.RcNeAt.list_tuple ht h c⟩|@lst b ws ys es h f g=>
     have w:es.all (jZ n)=bT:=by simpa[bJ,bG,bM,bI,bK,bL]using he
     have k:o.toArray.size=ds.length:=by rw[cE,<-q.length,hr.length]
     have l2:ws.toArray.size=es.length:=by rw[cE,<-f.length,g.length]
     rw[pql];by_cases l:ds.length=es.length;.have z:=SeqAt.RcAt.lists (A:=A) (e:=λj=>mG (ds.getD j .non) (es.getD j .non)) ht h (by rw[k,l2,l]) c λj k1 k2=>p k1 k2 u w q f hr g;have B:=SeqAt.RcNeAt.lists (A:=A) (e:=λj=>mG (ds.getD j .non) (es.getD j .non)) ht h (by rw[k,l2,l]) c λj k1 k2=>p k1 k2 u w q f hr g;rw[k]at z B;rw[iw l];exact⟨z,B⟩
     .rw[lr l];exact⟨lists_lengths ht h (by rw[k,l2];simpa using l) c,SeqAt.RcNeAt.lists_lengths ht h (by rw[k,l2];simpa using l) c⟩
theorem Bk(b:X.A.units+8<fT):jw X (eR .Eq) (rD X.K (CP .eq)):=by rintro pins s σ H x y v u Q I c f⟨F,d,e,r,sm,g,h,he,k⟩;obtain⟨t,a,j⟩:=map_some (show(JV d e).map _=a7 r from he);subst j;unfold JV at a;obtain⟨hd,a⟩:=bD a;rw[fk]at hd;subst a;exact(aaR I sm (n:=7) b hd.1 hd.2 (xq I sm hd.1 g c) (xq I sm hd.2 h f)).1 _ _ _ _ ⟨.bl _,H,I,rfl,cM.dC sm (iT _) k⟩
theorem uq(b:X.A.units+8<fT):jw X (eR .NotEq) (rD X.K (CP .ne)):=by rintro pins s σ H x y v u Q I c f⟨F,d,e,r,sm,g,h,he,k⟩;obtain⟨t,a,j⟩:=map_some (show(Ju d e).map _=a7 r from he);subst j;unfold Ju at a;obtain⟨hd,a⟩:=bD a;rw[fk]at hd;subst a;exact(aaR I sm (n:=7) b hd.1 hd.2 (xq I sm hd.1 g c) (xq I sm hd.2 h f)).2 _ _ _ _ ⟨.bl _,H,I,rfl,cM.dC sm (iT _) k⟩
end
section
variable{Pg:da}{w:eg}{K:PySem.W.Frag}{mg:Str->Option bx}{base:ej}
theorem aaT{qual:Str}{st:ey}{f:ce}{fd:gX}{N ps:List Str}{k n:Nat}{c:Call}{d:Fd}(B:jf K x qual st f fd)(S:aN N ps (au st))(h1:d.np=ps.length)(p:d.nn=N.length)(C:∀(cdv:bx)(A:ek)(outer:List Env)(s:b_)(H:Hp)(E:XK),jc k (A.deeper (kq qual (au st) s.heap.objs.size f cdv))->SB (lX J9 Pg w K mg base N qual (au st) f cdv A outer s H E).nox c n (eY st) d.body):jq Pg w K mg base J9 (k+1) f fd ps (Rg K ps.length (λargs=>enter c n d args)):=by
 refine B.ok S (λvs H Q E h=>h.1) λcdv A outer s H vs Q E hr h=>?_;obtain⟨t,F,args,r,l,g,e,q⟩:=h;refine⟨_,C cdv A outer s H E hr,?_⟩;replace e:enter c n d args=.ok r l:=e;unfold enter at e;split at e
 . rename_i hc;obtain⟨c1,c2⟩:=hc;have G:=g.more (n:=d.nn-d.np) (τ:=cp (N.length-vs.length) none) (by simp[h1,p,t]);have o:args.length=d.np:=c1;have go:∀{fl:Fl}{a:List Sl},fW c n d.body (args++cp (d.nn-d.np) .aM)=.ok fl a->(∀j σ' b,aq K F (args++cp (d.nn-d.np) .aM) (start N vs) H j a σ' b->(match fl with|.next=>Q .non b|.brk=>False|.cont=>False|.ret r=>∀v,di K j a σ' b (args++cp (d.nn-d.np) .aM) (start N vs) H v r->Q v b))->tEx K (fW c n d.body) {nx:=λ_ b=>Q .non b,rt:=Q} (start N vs) H:=λ{fl a}z k=>⟨F,_,fl,a,G,z,λj σ' b s=>by have:=k j σ' b s;cases fl<;>exact this⟩;split at e;.rename_i a z;cases e;refine go z λj σ' b s=>?_;obtain⟨u,y⟩:=aq.less (m:=d.np) o.symm g (by simp[h1,p,t]) s;exact q .non j _ b u (show Rep K j _ _ from W2)
   .rename_i J a z;cases e;refine go z λj σ' b s v I=>?_;obtain⟨u,y⟩:=aq.less (m:=d.np) o.symm g (by simp[h1,p,t]) s;exact q v j _ b u (y v r I)
   .split at e<;>cases e
 .cases e
structure bu(Pg:da)(w:eg)(K:PySem.W.Frag)(mg:Str->Option bx)(base:ej)(k:Nat)(c:Call)(i:Nat)(x:Str)(np:Nat):Prop where ex:∃fa fd qs,jq Pg w K mg base J9 k fa fd qs (Rg K qs.length (c i))/\mg x=a7 (.ref fa)/\keepIn K (.ref fa)=bT/\Binds K fd qs []/\qs.length=np
end
section
variable{X:Cx}{c:Call}{n k:Nat}{e a b:dc}{es:List dc}{p pa pb:P}{ps:List P}{pos:Pos}
theorem sv(i:Nat)(g:X.N[i]?=a7 x:=by rfl)(h:uQ X.env.scope x:=by first|exact eB rfl|exact eC (eB rfl)|exact eC (eC rfl))(hd:(x==("__debug__":Str))=a_:=by rfl)(f:(x==("__classdict__":Str))=a_:=by rfl):SX X c (.Name x pos) (.var i):=Vs g h hd f
theorem fc{np:Nat}(C:bu X.prog X.w X.K X.mg X.base k c i x np)(hr:jc k X.A)(h:SG X c (e::es) ps)(j:Gl X x:=by rfl)(l:(e::es).length=np:=by rfl)(f:(x==("__debug__":Str))=a_:=by rfl)(he:cv (e::es) X.env=(a_,er e X.env)::cv es X.env:=by rfl)(hpl:(gI pos (cv es X.env)).any (·.1)=a_:=by rfl)(g:ps.length=(e::es).length:=by rfl):SX X c (.Call (.Name x p') (e::es) [] pos) (.call i ps):=by obtain⟨u,fd,y,h1,o,q,r,t⟩:=C.ex;exact Ql h1 hr j o q r h (l.trans t.symm) f he hpl g
noncomputable def TV(names outer:List (Str×ku))(N N':List Str)(n:Nat):Bool:=(names.all λy=>names.lookup y.1==a7 y.2)&&(names.all λy=>y.2!=.local||names.lookup y.1==a7 .local)&&(names.all λy=>y.2!=.free||outer.lookup y.1==a7 .cell||outer.lookup y.1==a7 .free)&&N'.length==N.length+n&&((N.zip N').all λp=>(p.1==p.2&&names.lookup p.2==a7 .free)||(names.lookup p.2!=a7 .local&&names.lookup p.2!=a7 .cell&&names.lookup p.2!=a7 .free))
theorem zL{scope:iO}{N':List Str}(g:scope.kind=.function)(h:TV scope.names X.env.scope.names X.N N' n=bT):gj X scope N' n:=by
 unfold TV at h;simp only[fk]at h;obtain⟨⟨⟨⟨h1,j⟩,l⟩,o⟩,q⟩:=h;refine⟨g,λy f=>eq_of_beq (fw.mp h1 y f),λy f e=>?_,λy f e=>?_,by simpa using o,q⟩;.have:=fw.mp j y f;rw[e]at this;simpa using this
 . have:=fw.mp l y f;rw[e]at this;simp only[mx]at this;rcases this with(z|z)|z;.cases z
   .exact .inl (eq_of_beq z)
   .exact .inr (eq_of_beq z)
theorem bz(h:jc k A):A.units+8<fT:=by have:=h.un;omega
end
end _H
namespace PySem
section
variable{prog:da}{w:eg}{A:ek}{E:bx->b_->Prop}{s:b_}
theorem oF{it l:ce}{i:Nat}{items:Array bx}{x:bx}{Q:bx->b_->Prop}(a:s.heap.IsTupleIter it l i)(e:s.heap.IsTuple l items)(f:items[i]?=a7 x)(g:∀h',h'.IsTupleIter it l (i+1)->rf it s.heap h'->Q x {s with heap:=h'}):cz (cK prog w) A (lP (.ref it)) Q E s:=by obtain⟨o,ho,hc,hd⟩:=id a;obtain⟨h,b,_,nl,c⟩:=e;unfold lP;refine bd (fx (name:=iK "__next__") a.typeIs F.slot_tuple_iterator_next (gS F.slot_tuple_iterator_next a.typeIs F.entry_tuple_iterator_next ?_ (F.args_tuple_iterator_next_1 _)));show cz _ _ (qf (.ref it) 0>>=_) _ _ s;refine bd (eL ho hd (x:=.ref l) rfl ?_);show cz _ _ (if(dr l==dE)=bT then _ else _) _ _ s;rw[if_neg (show ¬((dr l==dE)=bT)from eh)];show cz _ _ (qf (.ref it) 1>>=_) _ _ s;refine bd (eL ho hd (x:=.int i 0) rfl ?_);show cz _ _ (seqItems? (.ref l)>>=_) _ _ s;refine bd (gN b c ?_);simp only[ml,f];refine bd (i3 ho hd (by simp) (cx ⟨x,rfl,cx (g _ ?_ (ny ..))⟩));exact⟨_,ii _ ho (kT (j_ hd _)),(Obj.cls_mapFields ..).trans hc,by rw[j_ hd];simp[i4]⟩
theorem pR{it l:ce}{i:Nat}{items:Array bx}{Q:bx->b_->Prop}(g:A.handled=none)(b:s.heap.IsTupleIter it l i)(h:s.heap.IsTuple l items)(j:items[i]?=none)(k:∀h' e,Heap.ExtBut it s.heap h'->(∃o,h'.get? e=a7 o/\o.cls=.type "StopIteration")->E (.ref e) {s with heap:=h'}):cz (cK prog w) A (lP (.ref it)) Q E s:=by
 obtain⟨o,ho,hc,hd⟩:=id b;obtain⟨n,c,_,nl,f⟩:=h;unfold lP;refine bd (fx (name:=iK "__next__") b.typeIs F.slot_tuple_iterator_next (gS F.slot_tuple_iterator_next b.typeIs F.entry_tuple_iterator_next ?_ (F.args_tuple_iterator_next_1 _)));show cz _ _ (qf (.ref it) 0>>=_) _ _ s;refine bd (eL ho hd (x:=.ref l) rfl ?_);show cz _ _ (if(dr l==dE)=bT then _ else _) _ _ s;rw[if_neg (show ¬((dr l==dE)=bT)from eh)];show cz _ _ (qf (.ref it) 1>>=_) _ _ s;refine bd (eL ho hd (x:=.int i 0) rfl ?_);show cz _ _ (seqItems? (.ref l)>>=_) _ _ s;refine bd (gN c f ?_);simp only[ml,j];refine bd (ko (bd (i3 ho hd (by simp) ?_)));show cz _ _ (newExc (.type "StopIteration") []>>=_) _ _ _;refine bd ?_;simp only[newExc,newTuple];refine bd (et ?_ (by size_fits));refine bd (m:=firstArgMember _ _) (wpAny_of_eq (a:=dE) (by first|rfl|(simp only[firstArgMember];rfl)) ?_);refine et ?_ (by size_fits);simp only[raiseNew];refine bd (wpAny_handled ?_);first|rw[show A.in1.handled=none from g]|rw[g]
 refine bd (cx (wpAny_throw ?_));exact k _ _ (((ny ..).extBut.push _).push _) ⟨_,cy _ rfl,rfl⟩
end
end PySem
namespace _L
open PySem Spec PyProof.Rows
section
variable{X:Cx}{pins:List (ce×Obj)}{σ:_L.St}{H:Hp}{s:b_}
theorem Inv.Xx{ch:List ce}{h':ej}{o:HO}{t':Nat}(I:Inv X pins σ H s)(k:∀b u,b∉ch->s.heap.get? b=a7 u->h'.get? b=a7 u)(j:∀b∈ch,∃u,h'.get? b=a7 u)(g:∀b∈ch,oX X pins H b)(new:bA X.prog X.w (upd H s.heap.objs.size o) h' s.heap.objs.size o):Inv X pins σ (upd H s.heap.objs.size o) {s with heap:=h',toks:=t'}:=by
 have fr:H s.heap.objs.size=none:=I.hok.fresh (dU);have i:∀b u,H b=a7 u->b∉ch:=λb u e a=>by rw[(g b a).1]at e;cases e
 have h:∀b u,H b=a7 u->upd H s.heap.objs.size o b=a7 u:=λb u e=>by
  have:b≠s.heap.objs.size:=by rintro rfl;rw[fr]at e;cases e
  rw[aA this];exact e
 refine I.call (g':=s.gens) (d':=s.drawn) (ch:=ch) ⟨λb u e n _ f=>k b u f e,λb u e n _ f=>⟨u.slots,k b u f e⟩,λb u e n f=>?_,λb u e f=>⟨u,k b u f e⟩,λb xs e=>h b _ e,λb l u e=>h b _ e,λb ps e=>⟨#[],by rw[h b _ e];simp⟩⟩ ?_ I.bare λb a=>⟨(g b a).2.2.2.1,(g b a).2.1,(g b a).2.2.2.2.1,(g b a).2.2.2.2.2⟩;.have:b≠s.heap.objs.size:=ec (du e);rw[aA this];exact n
 . intro b u e;by_cases a:b=s.heap.objs.size;.subst a;rw[aL]at e;cases e;exact new
   . rw[aA a]at e;refine(I.hok b u e).stay (λc v hc q=>k c v ?_ q) (λc q=>h c _ q) λc xs q=>h c _ q;rcases hc with rfl|hc;.exact i _ _ e
     .exact i _ _ hc
end
end _L
namespace _H
open PySem _L Spec PyProof.Rows
section
variable{K:PySem.W.Frag}{F F1 H H1:Hp}{ρ ρ1:List Sl}{σ:_L.St}{ds:List D}{a:ce}
theorem JK{c e:Hp}{T:ce}{v w:V}{d1 d2:D}(sm:aD c e)(g:e T=none)(r1:Rep K c v d1)(h:Rep K c w d2):∃b,Ext c e b (upd e T (.tup [v,w]))/\Rep K b (.ref T) (.tup [d1,d2]):=CG (Q:=λv f=>∃b,Ext c e b f/\Rep K b v (.tup [d1,d2])) sm (.cons r1 (.cons h .nil)) g λv b f x i=>⟨b,x,i⟩
end
end _H
namespace PySem
structure Nx(prog:da)(w:eg)(A:ek)(it src:ce)(Sx:Nat->ej->Prop)(get:Nat->Option bx):Prop where
 obj:∀k h,Sx k h->∃o,h.get? it=a7 o/\∀v,o.data≠.cell v
 keep:∀k h h',Sx k h->(∀o,h.get? it=a7 o->h'.get? it=a7 o)->(∀o,h.get? src=a7 o->h'.get? src=a7 o)->Sx k h'
 item:∀k(s:b_)(Q:bx->b_->Prop)(E:bx->b_->Prop)x,Sx k s.heap->get k=a7 x->(∀h',Sx (k+1) h'->rf it s.heap h'->Q x {s with heap:=h'})->cz (cK prog w) A (lP (.ref it)) Q E s
 fin:∀k(s:b_)(Q:bx->b_->Prop)(E:bx->b_->Prop),Sx k s.heap->get k=none->(∀h' e,Heap.ExtBut it s.heap h'->(∃o,h'.get? e=a7 o/\o.cls=.type "StopIteration")->E (.ref e) {s with heap:=h'})->cz (cK prog w) A (lP (.ref it)) Q E s
variable{Q:bx->b_->Prop}{l1 l2:ce}{xs ys:Array bx}
section
variable{prog:da}{w:eg}{A:ek}{E:bx->b_->Prop}{s:b_}
theorem Nx.list(g:A.handled=none)(it l:ce)(c:l≠it)(items:Array bx):Nx prog w A it l (λk h=>h.IsListIter it l k/\h.IsList l items) (λk=>items[k]?)where obj:=λk h st=>let⟨o,h1,_,h3⟩:=st.1;⟨o,h1,λv z=>by rw[h3]at z;cases z⟩;keep:=λk h h' st a b=>⟨(let⟨o,ho,r⟩:=st.1;⟨o,a o ho,r⟩),(let⟨o,ho,r⟩:=st.2;⟨o,b o ho,r⟩)⟩;item:=λk s Q E x st e i=>wpAny_nextOf_list_item st.1 st.2 e λh' f hs=>i h' ⟨f,(let⟨o,ho,r⟩:=st.2;⟨o,hs.extBut l o c ho,r⟩)⟩ hs;fin:=λk s Q E st e j=>wpAny_nextOf_list_end g st.1 st.2 e j
theorem Nx.tuple(g:A.handled=none)(it l:ce)(c:l≠it)(items:Array bx):Nx prog w A it l (λk h=>h.IsTupleIter it l k/\h.IsTuple l items) (λk=>items[k]?)where obj:=λk h st=>let⟨o,h1,_,h3⟩:=st.1;⟨o,h1,λv z=>by rw[h3]at z;cases z⟩;keep:=λk h h' st a b=>⟨(let⟨o,ho,r⟩:=st.1;⟨o,a o ho,r⟩),(let⟨o,ho,r⟩:=st.2;⟨o,b o ho,r⟩)⟩;item:=λk s Q E x st e i=>oF st.1 st.2 e λh' f hs=>i h' ⟨f,(let⟨o,ho,r⟩:=st.2;⟨o,hs.extBut l o c ho,r⟩)⟩ hs;fin:=λk s Q E st e j=>pR g st.1 st.2 e j
variable{z TI TO i1 i2 l1 l2:ce}{k:Nat}{S1 S2:Nat->ej->Prop}{g1 g2:Nat->Option bx}{a b:bx}
theorem Hw{x y:bx}(D:l9 z TI TO i1 i2 l1 l2)(t:Nx prog w A i1 l1 S1 g1)(u:Nx prog w A i2 l2 S2 g2)(hz:i8 s.heap z TI TO .none)(G:fi s.heap TI (.ref i1) (.ref i2))(H:fi s.heap TO a b)(h1:S1 k s.heap)(W:S2 k s.heap)(X:g1 k=a7 x)(Y:g2 k=a7 y)(Z:∀ h',i8 h' z TI TO (i4 s.heap.objs.size)->fi h' TO x y->S1 (k+1) h'->S2 (k+1) h'->fi h' s.heap.objs.size x y->h'.objs.size=s.heap.objs.size+1->(∀c o,c≠z->c≠TO->c≠i1->c≠i2->s.heap.get? c=a7 o->h'.get? c=a7 o)->Q (.ref s.heap.objs.size) {s with heap:=h'}):cz (cK prog w) A (iE.«zip.__next__» ⟨[.ref z],[]⟩) (λfin s'=>∃v,fin=.done (.ret v)/\Q v s') E s:=by
 show cz _ _ (qf (.ref z) 2>>=_) _ _ _;refine bd (eL hz rfl (x:=.bool a_) rfl ?_);show cz _ _ (qf (.ref z) 3>>=_) _ _ _;refine bd (eL hz rfl (x:=.ref TI) rfl (bd (gN G rfl ?_)));show cz _ _ (kQ (.ref z)>>=_) _ _ _;refine bd ?_;unfold kQ;refine bd (eL hz rfl (x:=.none) rfl (cx ?_));simp only[if_true];refine bd (ko (bd (eL hz rfl (x:=.ref TO) rfl (bd (g_ hz (by simp) λt1 I g=>?_)))));have I:i8 t1 z TI TO .ellipsis:=I;refine bd ?_;simp only[List.zipIdx_cons,List.zipIdx_nil,forIn_cons,forIn_nil];refine bd (bd (mr ?_));show cz _ _ (lP (.ref i1)>>=_) _ _ _;have q1:S1 k t1:=t.keep _ _ _ h1 (λo e=>g.extBut _ _ D.i1z e) λo e=>g.extBut _ _ D.l1z e;refine bd (t.item k _ _ _ x q1 X λt2 q2 m=>cx ?_);have p2:fi t2 TO a b:=m.extBut _ _ D.TOi1 (g.extBut _ _ D.TOz H);refine bd (gN p2 rfl (bd (lI p2 λL p3 h=>?_)));have p3:fi L TO x b:=p3;refine bd (rk (cx (bd (bd (mr ?_)))));show cz _ _ (lP (.ref i2)>>=_) _ _ _;have w3:S2 k L:=u.keep _ _ _ W (λo e=>h.extBut _ _ D.TOi2.symm (m.extBut _ _ D.i12.symm (g.extBut _ _ D.i2z e))) λo e=>h.extBut _ _ D.l2TO (m.extBut _ _ D.l2i1 (g.extBut _ _ D.l2z e));refine bd (u.item k _ _ _ y w3 Y λt4 w4 n=>cx ?_);have M:fi t4 TO x b:=n.extBut _ _ D.TOi2 p3;refine bd (gN M rfl (bd (lI M λf B i=>?_)));have B:fi f TO x y:=B;refine bd (rk (cx (cx (bd (gN B rfl (bd (wpAny_newTuple ?_)))))));have hsz:f.objs.size=s.heap.objs.size:=by rw[i.1,n.1,h.1,m.1,g.1]
 have N:i8 f z TI TO .ellipsis:=i.extBut _ _ D.TOz.symm (n.extBut _ _ D.i2z.symm (h.extBut _ _ D.TOz.symm (m.extBut _ _ D.i1z.symm I)));have kp:∀c o,c≠z->c≠TO->c≠i1->c≠i2->s.heap.get? c=a7 o->f.get? c=a7 o:=λc o c1 c2 c3 c4 e=>i.extBut _ _ c2 (n.extBut _ _ c4 (h.extBut _ _ c2 (m.extBut _ _ c3 (g.extBut _ _ c1 e))));have q5:S1 (k+1) f:=t.keep _ _ _ q2 (λo e=>i.extBut _ _ D.TOi1.symm (n.extBut _ _ D.i12 (h.extBut _ _ D.TOi1.symm e))) λo e=>i.extBut _ _ D.l1TO (n.extBut _ _ D.l1i2 (h.extBut _ _ D.l1TO e));have w5:S2 (k+1) f:=u.keep _ _ _ w4 (λo e=>i.extBut _ _ D.TOi2.symm e) λo e=>i.extBut _ _ D.l2TO e;have q:z<f.objs.size:=du N;show cz _ _ (ownedTupleHandOut (.ref z) (.ref f.objs.size)>>=_) _ _ _;refine bd ?_;unfold ownedTupleHandOut;have z6:i8 (f.push {cls:=.type "tuple",data:=.seq #[x,y]}) z TI TO .ellipsis:=eG N;refine bd (g_ z6 (by simp) λt7 J j=>?_);have J:i8 t7 z TI TO (i4 f.objs.size):=J;refine g_ J (by simp) λr C l=>?_;have C:i8 r z TI TO (i4 f.objs.size):=C;have p:∀c o,c≠z->f.get? c=a7 o->r.get? c=a7 o:=λc o c1 e=>l.extBut _ _ c1 (j.extBut _ _ c1 (eG e));have O:fi r f.objs.size x y:=l.extBut _ _ (oQ q) (j.extBut _ _ (oQ q) (cy _ rfl));have U:r.objs.size=f.objs.size+1:=by rw[l.1,j.1,eu]
 rw[hsz]at C O U;refine cx ⟨_,rfl,?_⟩;show Q (.ref f.objs.size) _;rw[hsz];exact Z r C (p _ _ D.TOz B) (t.keep _ _ _ q5 (λo e=>p _ o D.i1z e) λo e=>p _ o D.l1z e) (u.keep _ _ _ w5 (λo e=>p _ o D.i2z e) λo e=>p _ o D.l2z e) O U λc o c1 c2 c3 c4 e=>p c o c1 (kp c o c1 c2 c3 c4 e)
theorem Kg{Q:Fin->b_->Prop}(D:l9 z TI TO i1 i2 l1 l2)(q:Nx prog w A i1 l1 S1 g1)(y:Nx prog w A i2 l2 S2 g2)(hz:i8 s.heap z TI TO .none)(r:fi s.heap TI (.ref i1) (.ref i2))(t:fi s.heap TO a b)(h1:S1 k s.heap)(L:S2 k s.heap)(n:g1 k=none\/g2 k=none)(B:∀h' e,(∀c o,c≠z->c≠TO->c≠i1->c≠i2->s.heap.get? c=a7 o->h'.get? c=a7 o)->(∃o,h'.get? e=a7 o/\o.cls=.type "StopIteration")->E (.ref e) {s with heap:=h'}):cz (cK prog w) A (iE.«zip.__next__» ⟨[.ref z],[]⟩) Q E s:=by
 show cz _ _ (qf (.ref z) 2>>=_) _ _ _;refine bd (eL hz rfl (x:=.bool a_) rfl ?_);show cz _ _ (qf (.ref z) 3>>=_) _ _ _;refine bd (eL hz rfl (x:=.ref TI) rfl (bd (gN r rfl ?_)));show cz _ _ (kQ (.ref z)>>=_) _ _ _;refine bd ?_;unfold kQ;refine bd (eL hz rfl (x:=.none) rfl (cx ?_));simp only[if_true];refine bd (ko (bd (eL hz rfl (x:=.ref TO) rfl (bd (g_ hz (by simp) λt1 p j=>?_)))));have p:i8 t1 z TI TO .ellipsis:=p;refine bd ?_;simp only[List.zipIdx_cons,List.zipIdx_nil,forIn_cons,forIn_nil];refine bd (bd (mr ?_));show cz _ _ (lP (.ref i1)>>=_) _ _ _
 have C:S1 k t1:=q.keep _ _ _ h1 (λo e=>j.extBut _ _ D.i1z e) λo e=>j.extBut _ _ D.l1z e;cases hx:g1 k with|none=>
   refine bd (q.fin k _ _ _ C hx λt2 e i he=>?_);obtain⟨u,f,g⟩:=he;have G:i8 t2 z TI TO .ellipsis:=i _ _ D.i1z.symm p;have l:e≠z:=λx=>by subst x;rw[G]at f;cases f;simp at g
   exact g_ G (by simp) λv _ m=>B v e (λc o c1 _ c3 _ x=>m.extBut _ _ c1 (i _ _ c3 (j.extBut _ _ c1 x))) ⟨u,m.extBut _ _ l f,g⟩|some x=>
   have M:g2 k=none:=by rcases n with h|h;rw[hx]at h;cases h;exact h
   refine bd (q.item k _ _ _ x C hx λt2 W i=>cx ?_);have p2:fi t2 TO a b:=i.extBut _ _ D.TOi1 (j.extBut _ _ D.TOz t);refine bd (gN p2 rfl (bd (lI p2 λv p3 m=>?_)));refine bd (rk (cx (bd (bd (mr ?_)))));show cz _ _ (lP (.ref i2)>>=_) _ _ _;have N:S2 k v:=y.keep _ _ _ L (λo e=>m.extBut _ _ D.TOi2.symm (i.extBut _ _ D.i12.symm (j.extBut _ _ D.i2z e))) λo e=>m.extBut _ _ D.l2TO (i.extBut _ _ D.l2i1 (j.extBut _ _ D.l2z e));refine bd (y.fin k _ _ _ N M λO e H he=>?_);obtain⟨u,f,g⟩:=he;have I:i8 O z TI TO .ellipsis:=H _ _ D.i2z.symm (m.extBut _ _ D.TOz.symm (i.extBut _ _ D.i1z.symm p));have l:e≠z:=λx=>by subst x;rw[I]at f;cases f;simp at g
   exact g_ I (by simp) λU _ J=>B U e (λc o c1 c2 c3 c4 x=>J.extBut _ _ c1 (H _ _ c4 (m.extBut _ _ c2 (i.extBut _ _ c3 (j.extBut _ _ c1 x))))) ⟨u,J.extBut _ _ l f,g⟩
theorem pF{x y:bx}{Q:Option bx->b_->Prop}(D:l9 z TI TO i1 i2 l1 l2)(h:Nx prog w A.in1 i1 l1 S1 g1)(i:Nx prog w A.in1 i2 l2 S2 g2)(hz:i8 s.heap z TI TO .none)(e:fi s.heap TI (.ref i1) (.ref i2))(f:fi s.heap TO a b)(h1:S1 k s.heap)(j:S2 k s.heap)(l:g1 k=a7 x)(m:g2 k=a7 y)(n:∀ h',i8 h' z TI TO (i4 s.heap.objs.size)->fi h' TO x y->S1 (k+1) h'->S2 (k+1) h'->fi h' s.heap.objs.size x y->h'.objs.size=s.heap.objs.size+1->(∀c o,c≠z->c≠TO->c≠i1->c≠i2->s.heap.get? c=a7 o->h'.get? c=a7 o)->Q (a7 (.ref s.heap.objs.size)) {s with heap:=h'}):cz (cK prog w) A (oD (.ref z)) Q E s:=by have g:s.TypeIs (.ref z) "zip":=⟨_,hz,rfl⟩;unfold oD;exact bd (kD (fx (name:=iK "__next__") g F.slot_zip_next (gS F.slot_zip_next g F.entry_zip_next (Hw D h i hz e f h1 j l m λh' p q r t u v B=>cx (n h' p q r t u v B)) (F.args_zip_next_1 _))))
theorem qN{Q:Option bx->b_->Prop}(D:l9 z TI TO i1 i2 l1 l2)(j:Nx prog w A.in1 i1 l1 S1 g1)(l:Nx prog w A.in1 i2 l2 S2 g2)(hz:i8 s.heap z TI TO .none)(g:fi s.heap TI (.ref i1) (.ref i2))(h:fi s.heap TO a b)(h1:S1 k s.heap)(m:S2 k s.heap)(f:g1 k=none\/g2 k=none)(n:∀h',(∀c o,c≠z->c≠TO->c≠i1->c≠i2->s.heap.get? c=a7 o->h'.get? c=a7 o)->Q none {s with heap:=h'}):cz (cK prog w) A (oD (.ref z)) Q E s:=by have i:s.TypeIs (.ref z) "zip":=⟨_,hz,rfl⟩;unfold oD;refine bd (kD (fx (name:=iK "__next__") i F.slot_zip_next (gS F.slot_zip_next i F.entry_zip_next (Kg D j l hz g h h1 m f λh' e p he=>?_) (F.args_zip_next_1 _))));obtain⟨o,ho,hc⟩:=he;exact bd (wpAny_isInstance (T:="StopIteration") (b:=bT) ⟨o,ho,hc⟩ isSubtype_stop (cx (n _ p)))
end
theorem qC(l1 l2:ce)(xs ys:Array bx):ol (iE.«zip.__new__» ⟨[.type "zip",.ref l1,.ref l2],[]⟩) (λ_ R s=>s.heap.IsList l1 xs/\s.heap.IsList l2 ys/\R (.ok (.ret (.ref (s.heap.objs.size+4)))) {s with heap:=((((s.heap.push {cls:=.type "list_iterator",data:=.fields #[.ref l1,.int 0 0]}).push {cls:=.type "list_iterator",data:=.fields #[.ref l2,.int 0 0]}).push {cls:=.type "tuple",data:=.seq #[.ref s.heap.objs.size,.ref (s.heap.objs.size+1)]}).push {cls:=.type "tuple",data:=.seq #[.none,.none]}).push {cls:=.type "zip",data:=.fields #[.none,.bool a_,.bool a_,.ref (s.heap.objs.size+2),.ref (s.heap.objs.size+3)]}}):=.of_wp λprog w A R s h=>by obtain⟨f,g,d,tk,os⟩:=s;obtain⟨a,b,h⟩:=h;have i:=sub_zip;have c:IsList (im ⟨f,g,d,tk,os⟩) l1 xs:=a;have e:IsList (im ⟨f.push {cls:=.type "list_iterator",data:=.fields #[.ref l1,.int 0 0]},g,d,tk,os⟩) l2 ys:=Heap.IsList.push b _;wp_walk using gy c,gy e;simp only[eu]at*;exact⟨_,rfl,h⟩
section
variable{prog:da}{w:eg}{A:ek}{E:bx->b_->Prop}{s:b_}
theorem Bg(g:s.heap.IsList l1 xs)(i:s.heap.IsList l2 ys)(h:∀ h',i8 h' (s.heap.objs.size+4) (s.heap.objs.size+2) (s.heap.objs.size+3) .none->fi h' (s.heap.objs.size+2) (.ref s.heap.objs.size) (.ref (s.heap.objs.size+1))->fi h' (s.heap.objs.size+3) .none .none->h'.IsListIter s.heap.objs.size l1 0->h'.IsListIter (s.heap.objs.size+1) l2 0->(∀c o,s.heap.get? c=a7 o->h'.get? c=a7 o)->Q (.ref (s.heap.objs.size+4)) {s with heap:=h'}):cz (cK prog w) A (call (.type "zip") [.ref l1,.ref l2]) Q E s:=by
 refine ll F.called_zip (by decide) (F.typeCall_zip_2 _ _) (F.newCall_zip_2 _ _) (λobj=>F.args_object_init_3 obj _ _) F.entry_zip_new (qC l1 l2 xs ys) ⟨g,i,?_⟩;generalize j:s.heap.push {cls:=.type "list_iterator",data:=.fields #[.ref l1,.int 0 0]}=t1;have p:t1.objs.size=s.heap.objs.size+1:=by rw[<-j,eu]
 have v:t1.get? s.heap.objs.size=a7 {cls:=.type "list_iterator",data:=.fields #[.ref l1,.int 0 0]}:=by rw[<-j];exact cy _ rfl
 have k1:∀c o,s.heap.get? c=a7 o->t1.get? c=a7 o:=λc o e=>by rw[<-j];exact eG e
 generalize k:t1.push {cls:=.type "list_iterator",data:=.fields #[.ref l2,.int 0 0]}=t2;have q:t2.objs.size=s.heap.objs.size+2:=by rw[<-k,eu,p]
 have x:t2.get? (s.heap.objs.size+1)=a7 {cls:=.type "list_iterator",data:=.fields #[.ref l2,.int 0 0]}:=by rw[<-p,<-k];exact cy _ rfl
 have k2:∀c o,t1.get? c=a7 o->t2.get? c=a7 o:=λc o e=>by rw[<-k];exact eG e
 generalize l:t2.push {cls:=.type "tuple",data:=.seq #[.ref s.heap.objs.size,.ref (s.heap.objs.size+1)]}=a;have r:a.objs.size=s.heap.objs.size+3:=by rw[<-l,eu,q]
 have y:a.get? (s.heap.objs.size+2)=a7 {cls:=.type "tuple",data:=.seq #[.ref s.heap.objs.size,.ref (s.heap.objs.size+1)]}:=by rw[<-q,<-l];exact cy _ rfl
 have k3:∀c o,t2.get? c=a7 o->a.get? c=a7 o:=λc o e=>by rw[<-l];exact eG e
 generalize m:a.push {cls:=.type "tuple",data:=.seq #[.none,.none]}=b;have z:b.objs.size=s.heap.objs.size+4:=by rw[<-m,eu,r]
 have B:b.get? (s.heap.objs.size+3)=a7 {cls:=.type "tuple",data:=.seq #[.none,.none]}:=by rw[<-r,<-m];exact cy _ rfl
 have f:∀c o,a.get? c=a7 o->b.get? c=a7 o:=λc o e=>by rw[<-m];exact eG e
 generalize t:b.push {cls:=.type "zip",data:=.fields #[.none,.bool a_,.bool a_,.ref (s.heap.objs.size+2),.ref (s.heap.objs.size+3)]}=n;have u:n.get? (s.heap.objs.size+4)=a7 {cls:=.type "zip",data:=.fields #[.none,.bool a_,.bool a_,.ref (s.heap.objs.size+2),.ref (s.heap.objs.size+3)]}:=by rw[<-z,<-t];exact cy _ rfl
 have k5:∀c o,b.get? c=a7 o->n.get? c=a7 o:=λc o e=>by rw[<-t];exact eG e
 exact⟨⟨_,u,rfl⟩,h n u (k5 _ _ (f _ _ y)) (k5 _ _ B) ⟨_,k5 _ _ (f _ _ (k3 _ _ (k2 _ _ v))),rfl,rfl⟩ ⟨_,k5 _ _ (f _ _ (k3 _ _ x)),rfl,rfl⟩ λc o e=>k5 _ _ (f _ _ (k3 _ _ (k2 _ _ (k1 _ _ e))))⟩
end
theorem qH(l1 l2:ce)(xs ys:Array bx):ol (iE.«zip.__new__» ⟨[.type "zip",.ref l1,.ref l2],[]⟩) (λ_ R s=>s.heap.IsList l1 xs/\s.heap.IsTuple l2 ys/\R (.ok (.ret (.ref (s.heap.objs.size+4)))) {s with heap:=((((s.heap.push {cls:=.type "list_iterator",data:=.fields #[.ref l1,.int 0 0]}).push {cls:=.type "tuple_iterator",data:=.fields #[.ref l2,.int 0 0]}).push {cls:=.type "tuple",data:=.seq #[.ref s.heap.objs.size,.ref (s.heap.objs.size+1)]}).push {cls:=.type "tuple",data:=.seq #[.none,.none]}).push {cls:=.type "zip",data:=.fields #[.none,.bool a_,.bool a_,.ref (s.heap.objs.size+2),.ref (s.heap.objs.size+3)]}}):=.of_wp λprog w A R s h=>by obtain⟨f,g,d,tk,os⟩:=s;obtain⟨a,b,h⟩:=h;have i:=sub_zip;have c:IsList (im ⟨f,g,d,tk,os⟩) l1 xs:=a;have e:IsTuple (im ⟨f.push {cls:=.type "list_iterator",data:=.fields #[.ref l1,.int 0 0]},g,d,tk,os⟩) l2 ys:=Heap.IsTuple.push b _;wp_walk using gy c,hE e;simp only[eu]at*;exact⟨_,rfl,h⟩
section
variable{prog:da}{w:eg}{A:ek}{E:bx->b_->Prop}{s:b_}
theorem BZ(g:s.heap.IsList l1 xs)(i:s.heap.IsTuple l2 ys)(h:∀ h',i8 h' (s.heap.objs.size+4) (s.heap.objs.size+2) (s.heap.objs.size+3) .none->fi h' (s.heap.objs.size+2) (.ref s.heap.objs.size) (.ref (s.heap.objs.size+1))->fi h' (s.heap.objs.size+3) .none .none->h'.IsListIter s.heap.objs.size l1 0->h'.IsTupleIter (s.heap.objs.size+1) l2 0->(∀c o,s.heap.get? c=a7 o->h'.get? c=a7 o)->Q (.ref (s.heap.objs.size+4)) {s with heap:=h'}):cz (cK prog w) A (call (.type "zip") [.ref l1,.ref l2]) Q E s:=by
 refine ll F.called_zip (by decide) (F.typeCall_zip_2 _ _) (F.newCall_zip_2 _ _) (λobj=>F.args_object_init_3 obj _ _) F.entry_zip_new (qH l1 l2 xs ys) ⟨g,i,?_⟩;generalize j:s.heap.push {cls:=.type "list_iterator",data:=.fields #[.ref l1,.int 0 0]}=t1;have p:t1.objs.size=s.heap.objs.size+1:=by rw[<-j,eu]
 have v:t1.get? s.heap.objs.size=a7 {cls:=.type "list_iterator",data:=.fields #[.ref l1,.int 0 0]}:=by rw[<-j];exact cy _ rfl
 have k1:∀c o,s.heap.get? c=a7 o->t1.get? c=a7 o:=λc o e=>by rw[<-j];exact eG e
 generalize k:t1.push {cls:=.type "tuple_iterator",data:=.fields #[.ref l2,.int 0 0]}=t2;have q:t2.objs.size=s.heap.objs.size+2:=by rw[<-k,eu,p]
 have x:t2.get? (s.heap.objs.size+1)=a7 {cls:=.type "tuple_iterator",data:=.fields #[.ref l2,.int 0 0]}:=by rw[<-p,<-k];exact cy _ rfl
 have k2:∀c o,t1.get? c=a7 o->t2.get? c=a7 o:=λc o e=>by rw[<-k];exact eG e
 generalize l:t2.push {cls:=.type "tuple",data:=.seq #[.ref s.heap.objs.size,.ref (s.heap.objs.size+1)]}=a;have r:a.objs.size=s.heap.objs.size+3:=by rw[<-l,eu,q]
 have y:a.get? (s.heap.objs.size+2)=a7 {cls:=.type "tuple",data:=.seq #[.ref s.heap.objs.size,.ref (s.heap.objs.size+1)]}:=by rw[<-q,<-l];exact cy _ rfl
 have k3:∀c o,t2.get? c=a7 o->a.get? c=a7 o:=λc o e=>by rw[<-l];exact eG e
 generalize m:a.push {cls:=.type "tuple",data:=.seq #[.none,.none]}=b;have z:b.objs.size=s.heap.objs.size+4:=by rw[<-m,eu,r]
 have B:b.get? (s.heap.objs.size+3)=a7 {cls:=.type "tuple",data:=.seq #[.none,.none]}:=by rw[<-r,<-m];exact cy _ rfl
 have f:∀c o,a.get? c=a7 o->b.get? c=a7 o:=λc o e=>by rw[<-m];exact eG e
 generalize t:b.push {cls:=.type "zip",data:=.fields #[.none,.bool a_,.bool a_,.ref (s.heap.objs.size+2),.ref (s.heap.objs.size+3)]}=n;have u:n.get? (s.heap.objs.size+4)=a7 {cls:=.type "zip",data:=.fields #[.none,.bool a_,.bool a_,.ref (s.heap.objs.size+2),.ref (s.heap.objs.size+3)]}:=by rw[<-z,<-t];exact cy _ rfl
 have k5:∀c o,b.get? c=a7 o->n.get? c=a7 o:=λc o e=>by rw[<-t];exact eG e
 exact⟨⟨_,u,rfl⟩,h n u (k5 _ _ (f _ _ y)) (k5 _ _ B) ⟨_,k5 _ _ (f _ _ (k3 _ _ (k2 _ _ v))),rfl,rfl⟩ ⟨_,k5 _ _ (f _ _ (k3 _ _ x)),rfl,rfl⟩ λc o e=>k5 _ _ (f _ _ (k3 _ _ (k2 _ _ (k1 _ _ e))))⟩
end
theorem qJ(l1 l2:ce)(xs ys:Array bx):ol (iE.«zip.__new__» ⟨[.type "zip",.ref l1,.ref l2],[]⟩) (λ_ R s=>s.heap.IsTuple l1 xs/\s.heap.IsList l2 ys/\R (.ok (.ret (.ref (s.heap.objs.size+4)))) {s with heap:=((((s.heap.push {cls:=.type "tuple_iterator",data:=.fields #[.ref l1,.int 0 0]}).push {cls:=.type "list_iterator",data:=.fields #[.ref l2,.int 0 0]}).push {cls:=.type "tuple",data:=.seq #[.ref s.heap.objs.size,.ref (s.heap.objs.size+1)]}).push {cls:=.type "tuple",data:=.seq #[.none,.none]}).push {cls:=.type "zip",data:=.fields #[.none,.bool a_,.bool a_,.ref (s.heap.objs.size+2),.ref (s.heap.objs.size+3)]}}):=.of_wp λprog w A R s h=>by obtain⟨f,g,d,tk,os⟩:=s;obtain⟨a,b,h⟩:=h;have i:=sub_zip;have c:IsTuple (im ⟨f,g,d,tk,os⟩) l1 xs:=a;have e:IsList (im ⟨f.push {cls:=.type "tuple_iterator",data:=.fields #[.ref l1,.int 0 0]},g,d,tk,os⟩) l2 ys:=Heap.IsList.push b _;wp_walk using hE c,gy e;simp only[eu]at*;exact⟨_,rfl,h⟩
section
variable{prog:da}{w:eg}{A:ek}{E:bx->b_->Prop}{s:b_}
theorem BR(g:s.heap.IsTuple l1 xs)(i:s.heap.IsList l2 ys)(h:∀ h',i8 h' (s.heap.objs.size+4) (s.heap.objs.size+2) (s.heap.objs.size+3) .none->fi h' (s.heap.objs.size+2) (.ref s.heap.objs.size) (.ref (s.heap.objs.size+1))->fi h' (s.heap.objs.size+3) .none .none->h'.IsTupleIter s.heap.objs.size l1 0->h'.IsListIter (s.heap.objs.size+1) l2 0->(∀c o,s.heap.get? c=a7 o->h'.get? c=a7 o)->Q (.ref (s.heap.objs.size+4)) {s with heap:=h'}):cz (cK prog w) A (call (.type "zip") [.ref l1,.ref l2]) Q E s:=by
 refine ll F.called_zip (by decide) (F.typeCall_zip_2 _ _) (F.newCall_zip_2 _ _) (λobj=>F.args_object_init_3 obj _ _) F.entry_zip_new (qJ l1 l2 xs ys) ⟨g,i,?_⟩;generalize j:s.heap.push {cls:=.type "tuple_iterator",data:=.fields #[.ref l1,.int 0 0]}=t1;have p:t1.objs.size=s.heap.objs.size+1:=by rw[<-j,eu]
 have v:t1.get? s.heap.objs.size=a7 {cls:=.type "tuple_iterator",data:=.fields #[.ref l1,.int 0 0]}:=by rw[<-j];exact cy _ rfl
 have k1:∀c o,s.heap.get? c=a7 o->t1.get? c=a7 o:=λc o e=>by rw[<-j];exact eG e
 generalize k:t1.push {cls:=.type "list_iterator",data:=.fields #[.ref l2,.int 0 0]}=t2;have q:t2.objs.size=s.heap.objs.size+2:=by rw[<-k,eu,p]
 have x:t2.get? (s.heap.objs.size+1)=a7 {cls:=.type "list_iterator",data:=.fields #[.ref l2,.int 0 0]}:=by rw[<-p,<-k];exact cy _ rfl
 have k2:∀c o,t1.get? c=a7 o->t2.get? c=a7 o:=λc o e=>by rw[<-k];exact eG e
 generalize l:t2.push {cls:=.type "tuple",data:=.seq #[.ref s.heap.objs.size,.ref (s.heap.objs.size+1)]}=a;have r:a.objs.size=s.heap.objs.size+3:=by rw[<-l,eu,q]
 have y:a.get? (s.heap.objs.size+2)=a7 {cls:=.type "tuple",data:=.seq #[.ref s.heap.objs.size,.ref (s.heap.objs.size+1)]}:=by rw[<-q,<-l];exact cy _ rfl
 have k3:∀c o,t2.get? c=a7 o->a.get? c=a7 o:=λc o e=>by rw[<-l];exact eG e
 generalize m:a.push {cls:=.type "tuple",data:=.seq #[.none,.none]}=b;have z:b.objs.size=s.heap.objs.size+4:=by rw[<-m,eu,r]
 have B:b.get? (s.heap.objs.size+3)=a7 {cls:=.type "tuple",data:=.seq #[.none,.none]}:=by rw[<-r,<-m];exact cy _ rfl
 have f:∀c o,a.get? c=a7 o->b.get? c=a7 o:=λc o e=>by rw[<-m];exact eG e
 generalize t:b.push {cls:=.type "zip",data:=.fields #[.none,.bool a_,.bool a_,.ref (s.heap.objs.size+2),.ref (s.heap.objs.size+3)]}=n;have u:n.get? (s.heap.objs.size+4)=a7 {cls:=.type "zip",data:=.fields #[.none,.bool a_,.bool a_,.ref (s.heap.objs.size+2),.ref (s.heap.objs.size+3)]}:=by rw[<-z,<-t];exact cy _ rfl
 have k5:∀c o,b.get? c=a7 o->n.get? c=a7 o:=λc o e=>by rw[<-t];exact eG e
 exact⟨⟨_,u,rfl⟩,h n u (k5 _ _ (f _ _ y)) (k5 _ _ B) ⟨_,k5 _ _ (f _ _ (k3 _ _ (k2 _ _ v))),rfl,rfl⟩ ⟨_,k5 _ _ (f _ _ (k3 _ _ x)),rfl,rfl⟩ λc o e=>k5 _ _ (f _ _ (k3 _ _ (k2 _ _ (k1 _ _ e))))⟩
end
theorem qM(l1 l2:ce)(xs ys:Array bx):ol (iE.«zip.__new__» ⟨[.type "zip",.ref l1,.ref l2],[]⟩) (λ_ R s=>s.heap.IsTuple l1 xs/\s.heap.IsTuple l2 ys/\R (.ok (.ret (.ref (s.heap.objs.size+4)))) {s with heap:=((((s.heap.push {cls:=.type "tuple_iterator",data:=.fields #[.ref l1,.int 0 0]}).push {cls:=.type "tuple_iterator",data:=.fields #[.ref l2,.int 0 0]}).push {cls:=.type "tuple",data:=.seq #[.ref s.heap.objs.size,.ref (s.heap.objs.size+1)]}).push {cls:=.type "tuple",data:=.seq #[.none,.none]}).push {cls:=.type "zip",data:=.fields #[.none,.bool a_,.bool a_,.ref (s.heap.objs.size+2),.ref (s.heap.objs.size+3)]}}):=.of_wp λprog w A R s h=>by obtain⟨f,g,d,tk,os⟩:=s;obtain⟨a,b,h⟩:=h;have i:=sub_zip;have c:IsTuple (im ⟨f,g,d,tk,os⟩) l1 xs:=a;have e:IsTuple (im ⟨f.push {cls:=.type "tuple_iterator",data:=.fields #[.ref l1,.int 0 0]},g,d,tk,os⟩) l2 ys:=Heap.IsTuple.push b _;wp_walk using hE c,hE e;simp only[eu]at*;exact⟨_,rfl,h⟩
section
variable{prog:da}{w:eg}{A:ek}{E:bx->b_->Prop}{s:b_}
theorem Br(g:s.heap.IsTuple l1 xs)(i:s.heap.IsTuple l2 ys)(h:∀ h',i8 h' (s.heap.objs.size+4) (s.heap.objs.size+2) (s.heap.objs.size+3) .none->fi h' (s.heap.objs.size+2) (.ref s.heap.objs.size) (.ref (s.heap.objs.size+1))->fi h' (s.heap.objs.size+3) .none .none->h'.IsTupleIter s.heap.objs.size l1 0->h'.IsTupleIter (s.heap.objs.size+1) l2 0->(∀c o,s.heap.get? c=a7 o->h'.get? c=a7 o)->Q (.ref (s.heap.objs.size+4)) {s with heap:=h'}):cz (cK prog w) A (call (.type "zip") [.ref l1,.ref l2]) Q E s:=by
 refine ll F.called_zip (by decide) (F.typeCall_zip_2 _ _) (F.newCall_zip_2 _ _) (λobj=>F.args_object_init_3 obj _ _) F.entry_zip_new (qM l1 l2 xs ys) ⟨g,i,?_⟩;generalize j:s.heap.push {cls:=.type "tuple_iterator",data:=.fields #[.ref l1,.int 0 0]}=t1;have p:t1.objs.size=s.heap.objs.size+1:=by rw[<-j,eu]
 have v:t1.get? s.heap.objs.size=a7 {cls:=.type "tuple_iterator",data:=.fields #[.ref l1,.int 0 0]}:=by rw[<-j];exact cy _ rfl
 have k1:∀c o,s.heap.get? c=a7 o->t1.get? c=a7 o:=λc o e=>by rw[<-j];exact eG e
 generalize k:t1.push {cls:=.type "tuple_iterator",data:=.fields #[.ref l2,.int 0 0]}=t2;have q:t2.objs.size=s.heap.objs.size+2:=by rw[<-k,eu,p]
 have x:t2.get? (s.heap.objs.size+1)=a7 {cls:=.type "tuple_iterator",data:=.fields #[.ref l2,.int 0 0]}:=by rw[<-p,<-k];exact cy _ rfl
 have k2:∀c o,t1.get? c=a7 o->t2.get? c=a7 o:=λc o e=>by rw[<-k];exact eG e
 generalize l:t2.push {cls:=.type "tuple",data:=.seq #[.ref s.heap.objs.size,.ref (s.heap.objs.size+1)]}=a;have r:a.objs.size=s.heap.objs.size+3:=by rw[<-l,eu,q]
 have y:a.get? (s.heap.objs.size+2)=a7 {cls:=.type "tuple",data:=.seq #[.ref s.heap.objs.size,.ref (s.heap.objs.size+1)]}:=by rw[<-q,<-l];exact cy _ rfl
 have k3:∀c o,t2.get? c=a7 o->a.get? c=a7 o:=λc o e=>by rw[<-l];exact eG e
 generalize m:a.push {cls:=.type "tuple",data:=.seq #[.none,.none]}=b;have z:b.objs.size=s.heap.objs.size+4:=by rw[<-m,eu,r]
 have B:b.get? (s.heap.objs.size+3)=a7 {cls:=.type "tuple",data:=.seq #[.none,.none]}:=by rw[<-r,<-m];exact cy _ rfl
 have f:∀c o,a.get? c=a7 o->b.get? c=a7 o:=λc o e=>by rw[<-m];exact eG e
 generalize t:b.push {cls:=.type "zip",data:=.fields #[.none,.bool a_,.bool a_,.ref (s.heap.objs.size+2),.ref (s.heap.objs.size+3)]}=n;have u:n.get? (s.heap.objs.size+4)=a7 {cls:=.type "zip",data:=.fields #[.none,.bool a_,.bool a_,.ref (s.heap.objs.size+2),.ref (s.heap.objs.size+3)]}:=by rw[<-z,<-t];exact cy _ rfl
 have k5:∀c o,b.get? c=a7 o->n.get? c=a7 o:=λc o e=>by rw[<-t];exact eG e
 exact⟨⟨_,u,rfl⟩,h n u (k5 _ _ (f _ _ y)) (k5 _ _ B) ⟨_,k5 _ _ (f _ _ (k3 _ _ (k2 _ _ v))),rfl,rfl⟩ ⟨_,k5 _ _ (f _ _ (k3 _ _ x)),rfl,rfl⟩ λc o e=>k5 _ _ (f _ _ (k3 _ _ (k2 _ _ (k1 _ _ e))))⟩
end
end PySem
namespace _L
open PySem Spec PyProof.Rows
variable{t:Bool}{a:ce}
noncomputable def Sq(t:Bool)(K:PySem.W.Frag)(H:Hp)(a:ce)(xs:List V):Prop:=if t then mq K H a xs else gF K H a xs
noncomputable def Zr(t:Bool)(h:ej)(a:ce)(xs:Array bx):Prop:=if t then h.IsTuple a xs else h.IsList a xs
noncomputable def Ir(t:Bool)(h:ej)(i a:ce)(k:Nat):Prop:=if t then h.IsTupleIter i a k else h.IsListIter i a k
section
variable{X:Cx}{pins:List (ce×Obj)}{σ:_L.St}{H:Hp}{s:b_}
theorem Inv.sq{xs:List V}(I:Inv X pins σ H s)(h:Sq t X.K H a xs):∃b:List bx,Vals xs b/\Zr t s.heap a b.toArray:=by cases t with|true=>obtain⟨b,c,e,_⟩:=I.tuple h;exact⟨b,c,e⟩|false=>obtain⟨b,c,e,_⟩:=I.list h;exact⟨b,c,e.isList⟩
theorem Inv.Jg{xs ys:List V}(I:Inv X pins σ H s)(h:Sq t X.K H a xs)(h':Sq t X.K H a ys):xs=ys:=by cases t with|true=>exact I.o8 h h'|false=>exact I.uD h h'
theorem Zr.lt{h:ej}{xs:Array bx}(q:Zr t h a xs):a<h.objs.size:=by cases t with|true=>obtain⟨o,e,_⟩:=id q;exact du e|false=>obtain⟨o,e,_⟩:=id q;exact du e
theorem Ir.obj{h:ej}{i:ce}{k:Nat}(q:Ir t h i a k):∃o,h.get? i=a7 o/\∀v,o.data≠.cell v:=by cases t with|true=>obtain⟨o,b,e,c⟩:=id q;exact⟨o,b,λv z=>by rw[c]at z;cases z⟩|false=>obtain⟨o,b,e,c⟩:=id q;exact⟨o,b,λv z=>by rw[c]at z;cases z⟩
theorem Ir.keep{h h':ej}{i:ce}{k:Nat}(q:Ir t h i a k)(e:∀o,h.get? i=a7 o->h'.get? i=a7 o):Ir t h' i a k:=by cases t with|true=>obtain⟨o,b,r⟩:=id q;exact⟨o,e o b,r⟩|false=>obtain⟨o,b,r⟩:=id q;exact⟨o,e o b,r⟩
theorem Pa(t:Bool){prog:da}{w:eg}{A:ek}(c:A.handled=none)(it l:ce)(b:l≠it)(items:Array bx):Nx prog w A it l (λk h=>Ir t h it l k/\Zr t h l items) (λk=>items[k]?):=by cases t with|true=>exact Nx.tuple c it l b items|false=>exact Nx.list c it l b items
theorem Inv.Jz{ch:List ce}{h':ej}(I:Inv X pins σ H s)(k:∀b u,b∉ch->s.heap.get? b=a7 u->h'.get? b=a7 u)(h:∀b∈ch,oX X pins H b):Inv X pins σ H {s with heap:=h'}:=by
 have i:∀b u,H b=a7 u->b∉ch:=λb u e f=>by rw[(h b f).1]at e;cases e
 refine I.call (g':=s.gens) (d':=s.drawn) (t':=s.toks) (ch:=ch) ⟨λb u e n _ g=>k b u g e,λb u e n _ g=>⟨u.slots,k b u g e⟩,λb u e n g=>n,λb u e g=>⟨u,k b u g e⟩,λb xs e=>e,λb j u e=>e,λb ps e=>⟨#[],by rw[e];simp⟩⟩ ?_ I.bare λb f=>⟨(h b f).2.2.2.1,(h b f).2.1,(h b f).2.2.2.2.1,(h b f).2.2.2.2.2⟩;intro b u e;refine(I.hok b u e).stay (λc v hc q=>k c v ?_ q) (λc q=>q) λc xs q=>q;rcases hc with rfl|hc;.exact i _ _ e
 .exact i _ _ hc
end
noncomputable def Itz(t1 t2:Bool)(K:PySem.W.Frag)(a b:ce):It:=⟨λi H=>∃ xs ys x y,Sq t1 K H a xs/\Sq t2 K H b ys/\xs[i]?=a7 x/\ys[i]?=a7 y,λi H x c=>∃T v w,H T=none/\x=.ref T/\c=upd H T (.tup [v,w])/\(∀xs,Sq t1 K H a xs->xs[i]?=a7 v)/\∀ys,Sq t2 K H b ys->ys[i]?=a7 w,λi H=>∃xs ys,Sq t1 K H a xs/\Sq t2 K H b ys/\(xs.length<=i\/ys.length<=i)⟩
theorem M3{P:da}{w:eg}{K:PySem.W.Frag}{L:List dc}{x1}{tp:Pos}(t1 t2:Bool){z TI TO f g J l2:ce}(D:l9 z TI TO f g J l2):Turn P w K (.Tuple L x1 tp) (Itz t1 t2 K J l2) [z,TI,TO,f,g] z (λi h=>i8 h z TI TO .none/\fi h TI (.ref f) (.ref g)/\(∃a b,fi h TO a b)/\Ir t1 h f J i/\Ir t2 h g l2 i)where
 mem:=by simp
 obj:=λi h st b c=>by
  obtain⟨h1,m,⟨u,v,r⟩,B,C⟩:=st;simp only[c_,g9,or_false]at c;rcases c with rfl|rfl|rfl|rfl|rfl;.exact⟨_,h1,λv z=>by cases z⟩
  .exact⟨_,m,λv z=>by cases z⟩
  .exact⟨_,r,λv z=>by cases z⟩
  .exact B.obj
  .exact C.obj
 keep:=λi h h' st k=>by obtain⟨h1,m,⟨u,v,r⟩,B,C⟩:=st;exact⟨k z (by simp) _ h1,k TI (by simp) _ m,⟨u,v,k TO (by simp) _ r⟩,B.keep (k f (by simp)),C.keep (k g (by simp))⟩
 item:=λX hP hw hK hc i M s σ H E I Z st go=>by
  subst hP hw hK;obtain⟨h1,m,⟨u,v,r⟩,B,C⟩:=st;obtain⟨xs,ys,x,y,n,p,hx,hy⟩:=go;obtain⟨RG,G,ZR⟩:=I.sq n;obtain⟨j,Yd,T7⟩:=I.sq p;obtain⟨ux,ac,ae⟩:=G.get hx;obtain⟨uy,af,ag⟩:=Yd.get hy;have N:X.A.in1.handled=none:=I.ok.hd hc;refine pF D (Pa t1 N f J D.l1i1 RG.toArray) (Pa t2 N g l2 D.l2i2 j.toArray) h1 m r (k:=i) ⟨B,ZR⟩ ⟨C,T7⟩ (x:=ux) (y:=uy) (by simpa using ac) (by simpa using af) λh' z1 p1 s1 s2 pT hsz kp=>?_;refine⟨_,rfl,wpAny_letOwnedTupleGo_zip z1 λl z2 O=>?_⟩;have U:∀b∈[z,TI,TO,f,g],b≠s.heap.objs.size:=λb c=>by
   simp only[c_,g9,or_false]at c;rcases c with rfl|rfl|rfl|rfl|rfl;.exact ec (du h1)
   .exact ec (du m)
   .exact ec (du r)
   .exact ec (du B.obj.choose_spec.1)
   .exact ec (du C.obj.choose_spec.1)
  have Y:∀b o,b∉[z,TO,f,g]->s.heap.get? b=a7 o->l.get? b=a7 o:=λb o c q=>by simp only[c_,g9,or_false,not_or]at c;exact O.extBut b o c.1 (kp b o c.1 c.2.1 c.2.2.1 c.2.2.2 q)
  have ah:fi l s.heap.objs.size ux uy:=O.extBut _ _ (U z (by simp)).symm pT;have p2:fi l TO ux uy:=O.extBut _ _ D.TOz p1;have j1:Ir t1 l f J (i+1):=s1.1.keep λo e=>O.extBut _ _ D.i1z e;have j2:Ir t2 l g l2 (i+1):=s2.1.keep λo e=>O.extBut _ _ D.i2z e;refine⟨.ref s.heap.objs.size,upd H s.heap.objs.size (.tup [x,y]),?_,rfl,⟨_,x,y,I.fresh,rfl,rfl,λzs hz=>?_,λzs hz=>?_⟩,⟨z2,Y TI _ ?_ m,⟨_,_,p2⟩,j1,j2⟩,λb c=>?_⟩
  . refine I.Xx (ch:=[z,TO,f,g]) (t':=s.toks) Y (λb c=>?_) (λb c=>Z b ?_) ⟨(by show 2<=sizeLine;decide),[ux,uy],.cons ae (.cons ag .nil),⟨_,ah,rfl,_,rfl⟩⟩
    . simp only[c_,g9,or_false]at c;rcases c with rfl|rfl|rfl|rfl;.exact⟨_,z2⟩
      .exact⟨_,p2⟩
      .exact⟨_,j1.obj.choose_spec.1⟩
      .exact⟨_,j2.obj.choose_spec.1⟩
    .simp only[c_,g9,or_false]at c ⊢;rcases c with h|h|h|h<;>simp[h]
  .rw[I.Jg hz n];exact hx
  .rw[I.Jg hz p];exact hy
  .simp[D.TIz,D.TITO,D.TIi1,D.TIi2]
  .rw[aA (U b c)];exact(Z b c).1
 done:=λX hP hw hK hc i M s σ H E I Z st stop=>by
  subst hP hw hK;obtain⟨h1,m,⟨u,v,r⟩,B,C⟩:=st;obtain⟨xs,ys,n,p,hx⟩:=stop;obtain⟨RG,G,ZR⟩:=I.sq n;obtain⟨j,Yd,T7⟩:=I.sq p;have N:X.A.in1.handled=none:=I.ok.hd hc;refine qN D (Pa t1 N f J D.l1i1 RG.toArray) (Pa t2 N g l2 D.l2i2 j.toArray) h1 m r (k:=i) ⟨B,ZR⟩ ⟨C,T7⟩ ?_ λh' kp=>⟨rfl,?_⟩
  . rcases hx with hx|hx;.left;rw[G.length]at hx;simpa using hx
    .right;rw[Yd.length]at hx;simpa using hx
  .exact I.Jz (ch:=[z,TO,f,g]) (λb u c q=>by simp only[c_,g9,or_false,not_or]at c;exact kp b u c.1 c.2.1 c.2.2.1 c.2.2.2 q) λb c=>Z b (by simp only[c_,g9,or_false]at c ⊢;rcases c with h|h|h|h<;>simp[h])
 self:=λA i s Q E st q=>wpAny_pyIter_zip st.1 q
section
variable{X:Cx}{elts:List dc}{x1:Nat}{tp:Pos}
theorem Ib{prog:da}{w:eg}{A:ek}{E:bx->b_->Prop}{s:b_}(t1 t2:Bool){f l2:ce}{xs ys:Array bx}{Q:bx->b_->Prop}(b:Zr t1 s.heap f xs)(e:Zr t2 s.heap l2 ys)(h:∀ h',i8 h' (s.heap.objs.size+4) (s.heap.objs.size+2) (s.heap.objs.size+3) .none->fi h' (s.heap.objs.size+2) (.ref s.heap.objs.size) (.ref (s.heap.objs.size+1))->fi h' (s.heap.objs.size+3) .none .none->Ir t1 h' s.heap.objs.size f 0->Ir t2 h' (s.heap.objs.size+1) l2 0->(∀c o,s.heap.get? c=a7 o->h'.get? c=a7 o)->Q (.ref (s.heap.objs.size+4)) {s with heap:=h'}):cz (cK prog w) A (call (.type "zip") [.ref f,.ref l2]) Q E s:=by
 cases t1<;>cases t2;.exact Bg b e h
 .exact BZ b e h
 .exact BR b e h
 .exact Br b e h
theorem Vq{n l m:Nat}(h1:l<n)(b:m<n):l9 (n+4) (n+2) (n+3) n (n+1) l m:=by constructor<;>exact λh=>absurd (show(_:Nat)=_ from h) (by omega)
noncomputable def afT(K:PySem.W.Frag)(R:It->Hp->Prop)(vs:List V)(c:Hp):Prop:=∃t1 t2 a b,vs=[.ref a,.ref b]/\(∃xs,Sq t1 K c a xs)/\(∃ys,Sq t2 K c b ys)/\R (Itz t1 t2 K a b) c
noncomputable def afs(K:PySem.W.Frag)(b:TA):TI:=λσ H R=>b σ H (afT K R)
theorem boot_zip:eP "zip"=a7 (.type "zip"):=by decide+kernel
theorem KD{a b:dc}{k:TA}{p pos:Pos}(w:Gl X "zip")(x:X.mg "zip"=none)(y:PA X [a,b] k)(hs:cv [a,b] X.env=[(a_,er a X.env),(a_,er b X.env)]:=by rfl)(c:cv [b] X.env=[(a_,er b X.env)]:=by rfl):PI X (.Tuple elts x1 tp) (.Call (.Name "zip" p) [a,b] [] pos) (afs X.K k):=by
 intro e s σ H R I h;refine Call_ (kE I w x boot_zip (eW (cC (y pos e s σ H _ I h) ?_) (by rw[hs,c]) (by rw[c];rfl)));rintro O s1⟨vs,z,f,r1,A⟩;obtain⟨t1,t2,B,l2,rfl,⟨xs,i⟩,⟨ys,j⟩,q⟩:=A;obtain⟨u,v,rfl,C,E⟩:=r1.two;cases C;cases E;obtain⟨Q,G,l⟩:=f.sq i;obtain⟨m,U,n⟩:=f.sq j;have b1:=l.lt;have b2:=n.lt;refine Ib t1 t2 l n λh' o J L M N kp=>?_;have D:l9 (s1.heap.objs.size+4) (s1.heap.objs.size+2) (s1.heap.objs.size+3) s1.heap.objs.size (s1.heap.objs.size+1) B l2:=Vq b1 b2;refine wpAny_pyIter_zip o ⟨_,_,_,_,z,rfl,f.kept (t':=s1.toks) kp,M3 t1 t2 D,⟨o,J,⟨_,_,L⟩,M,N⟩,λb r=>?_,q⟩;have g:s1.heap.objs.size<=b:=by simp only[c_,g9,or_false]at r;rcases r with rfl|rfl|rfl|rfl|rfl<;>first|exact Nat.le_add_right _ _|exact dU
 exact f.Ie g (f.hok.fresh g)
end
end _L
namespace _H
open PySem _L Spec PyProof.Rows
variable{x:Str}
section
variable{K:PySem.W.Frag}{F F1 H H1:Hp}{ρ ρ1:List Sl}{σ:_L.St}{ds es:List D}{a b:ce}
theorem aD.sq{t:Bool}{xs:List V}(e:aD F H)(h:Sq t K F a xs):Sq t K H a xs:=by cases t with|true=>exact aD.jo e h|false=>exact e.seq h
theorem rB{t1 t2:Bool}{xs ys:List V}{j c:Hp}(e:Sq t1 K c a xs)(f:Sq t2 K c b ys)(r1:aH K j xs ds)(n:aH K j ys es)(s:aD j c)(k:Nat):(∀d,((ds.zip es).map λp=>D.tup [p.1,p.2])[k]?=a7 d->(Itz t1 t2 K a b).go k c/\∀x l,(Itz t1 t2 K a b).Oo k c x l->∃g,Ext j c g l/\Rep K g x d)/\(((ds.zip es).map λp=>D.tup [p.1,p.2]).length<=k->(Itz t1 t2 K a b).stop k c):=by refine⟨λd hd=>?_,λh=>⟨xs,ys,e,f,by rw[r1.length,n.length];rw[ef,length_zip]at h;omega⟩⟩;rw[eV]at hd;obtain⟨⟨d0,d1⟩,o,q⟩:=map_some hd;subst q;obtain⟨f1,f2⟩:=n3.mp o;obtain⟨w,h1,r⟩:=r1.get f1;obtain⟨t,i,m⟩:=n.get f2;refine⟨⟨xs,ys,w,t,e,f,h1,i⟩,?_⟩;rintro x l⟨T,v,C,u,z,A,y,B⟩;subst z;subst A;have:=y xs e;rw[h1]at this;cases this;have:=B ys f;rw[i]at this;cases this;exact JK s u r m
theorem ye{v:V}{d:D}{ds:List D}(h:Rep K F v d)(e:items d=a7 ds):∃t a xs,v=.ref a/\Sq t K F a xs/\aH K F xs ds:=by cases d with|tup es=>cases e;rw[Rep]at h;obtain⟨a,xs,rfl,h1,c⟩:=h;exact⟨bT,a,xs,rfl,h1,c⟩|lst es=>cases e;rw[Rep]at h;obtain⟨a,xs,rfl,h1,c⟩:=h;exact⟨a_,a,xs,rfl,h1,c⟩|_=>cases e
end
section
variable{X:Cx}{c:Call}{e a b:dc}{pa pb:P}{pos:Pos}{elts:List dc}{x1:Nat}{tp:Pos}
theorem Wi{p':Pos}(w:x="zip")(y:Gl X x)(z:X.mg x=none)(A:SX X c a pa)(B:SX X c b pb)(hs:cv [a,b] X.env=[(a_,er a X.env),(a_,er b X.env)]:=by rfl)(f:cv [b] X.env=[(a_,er b X.env)]:=by rfl):SI X c (.Tuple elts x1 tp) (.Call (.Name x p') [a,b] [] pos) (.zip pa pb):=by subst w;refine nF (KD y z (rE A (rE B aK f) (by rw[hs,f])).1 hs f) ?_;rintro σ H R⟨F,ρ,ds,C,g,e,k⟩;obtain⟨r,E,p,l⟩:=aa e;have o:=aF l;clear l;obtain⟨l,G⟩:=o;subst G;rw[_H.E20]at p;obtain⟨x0,j,I,J⟩:=aa p;obtain⟨L,M,N,m⟩:=aa J;have o:=aF m;clear m;obtain⟨m,O⟩:=o;subst O;obtain⟨us,f1,Q⟩:=cH m;obtain⟨ws,f2,f3⟩:=map_some Q;subst f3;cases l;refine⟨F,ρ,[x0.d,L.d],_,g,by rw[yj,I];show(evs c [pb] j).bind _=_;rw[yj,N];rfl,λvs U W s h=>?_⟩;obtain⟨v,r',rfl,Y,h⟩:=h.cL;obtain⟨u,Z,rfl,ru,h⟩:=h.cL;rw[h.gV];obtain⟨t1,a1,xs,rfl,q,r1⟩:=ye Y f1;obtain⟨t2,a2,ys,rfl,t,r2⟩:=ye ru f2;exact⟨t1,t2,a1,a2,rfl,⟨xs,aD.sq s.gs.sub q⟩,⟨ys,aD.sq s.gs.sub t⟩,k _ _ _ ⟨s.gs,λn k U ac σ' W i=>rB (aD.sq i.gs.sub (aD.sq i.bY q)) (aD.sq i.gs.sub (aD.sq i.bY t)) (r1.mono i.bY) (r2.mono i.bY) i.gs.sub k,λF3 j ae H3 s3=>⟨s.trans s3,λv r h=>h.later s⟩⟩⟩
end
structure cg(K:PySem.W.Frag)(x:Str)(st:ey):Prop where ex:∃f fd,PySem.W.nsIn K cN x=a7 (a7 (.ref f))/\jf K x x st f fd
section
variable{Pg:da}{w:eg}{K:PySem.W.Frag}{mg:Str->Option bx}{base h:ej}
theorem V8{st:ey}{f:ce}{oc:bx}{od g:Option ce}{b:Array (Option bx)}{kV e i cdv ct:bx}(a:PySem.W.nsIn K cN x=a7 (a7 (.ref f)))(l:K.lookup f=a7 ⟨oc,od,.func (PySem.W.fnOf x x (gW st) (eY st) (au st) .none kV e i g cdv ct),b⟩)(c:PySem.W.codeIn K cdv x=bT)(k:keepIn K (.ref f)=bT):cg K x st:=⟨_,_,a,WR l c k⟩
theorem cQ{Γ:Tab}{wl i np:Nat}{st:ey}{ps:List Str}(X:K.In h)(G:h.Ns cN mg)(D:cg K x st)(j:ps.length=np)(k:∀(kV g l:bx)(m:Option ce)(cdv ct:bx)(c:List bx),c.length=ps.length->nq (PySem.W.fnOf x x (gW st) (eY st) (au st) .none kV g l m cdv ct) ⟨c,[]⟩=eS (ps.zip c)):bu Pg w K mg base 0 (run Γ wl 0) i x np:=by obtain⟨f,fd,a,F⟩:=D.ex;exact⟨f,fd,ps,⟨λvs H Q E s=>s.1,λA outer s H args c vs Q E hr e b v sp=>by obtain⟨_,F,as,r,n,_,z,_⟩:=sp;cases z⟩,mg_of X G a,F.kp,F.binds k,j⟩
theorem cT{Γ:Tab}{wl n i np:Nat}{st:ey}{ps:List Str}{d:Fd}(X:K.In h)(G:h.Ns cN mg)(D:cg K x st)(j:ps.length=np)(b:Γ i=a7 d)(k:∀(kV c l:bx)(m:Option ce)(cdv ct:bx)(g:List bx),g.length=ps.length->nq (PySem.W.fnOf x x (gW st) (eY st) (au st) .none kV c l m cdv ct) ⟨g,[]⟩=eS (ps.zip g))(ok:∀f fd,jf K x x st f fd->jq Pg w K mg base J9 (n+1) f fd ps (Rg K np (λargs=>enter (run Γ wl n) wl d args))):bu Pg w K mg base (n+1) (run Γ wl (n+1)) i x np:=by
 obtain⟨f,fd,a,F⟩:=D.ex;refine⟨f,fd,ps,?_,mg_of X G a,F.kp,F.binds k,j⟩;have e:run Γ wl (n+1) i=λargs=>enter (run Γ wl n) wl d args:=by funext args;show(match Γ i with|some d=>enter (run Γ wl n) wl d args|none=>.stuck)=_;rw[b]
 rw[e,j];exact ok f fd F
theorem vq{F:Hp}:∀ns:List Int,aH K F (ns.map V.int) (ns.map D.int)|[]=>.nil|n::ns=>.cons (bW n) (vq ns)
theorem Hb{H:Hp}{a:ce}{ns:List Int}{g:List Sl->Res R}{as:List Sl}(l:gF K H a (ns.map V.int))(hr:g [.val a_ (.lst (ns.map D.int))]=.ok (.val (.bl bT)) as):Rg K 1 g [.ref a] H (λv _=>v=.bl bT) λ_ _ _=>False:=by
 refine⟨rfl,H,_,_,as,⟨.refl _,rfl,λi b d e=>?_,λi s m e k=>?_,λi j c h=>?_⟩,hr,λv n σ' o s f=>?_⟩;.match i,e with|0,e=>cases e;refine⟨.ref a,rfl,?_⟩;rw[Rep];exact⟨a,_,rfl,l,vq ns⟩|i+1,e=>simp at e
 .match i,e with|0,e=>cases e;cases k|i+1,e=>simp at e
 .obtain⟨⟨s,m,e,k⟩,_⟩:=h;match i,e with|0,e=>cases e;cases k|i+1,e=>simp at e
 .have f:Rep K n v (.bl bT):=f;rw[Rep]at f;exact f
end
end _H
namespace _H
open PySem
variable{n:Nat}{c:Call}{ρ:List Sl}{is:List Nat}{ds:List D}
noncomputable def Res.sat{b:Type}(Q:b->List Sl->Prop)(x:Res b):Prop:=match x with|.ok a ρ=>Q a ρ|.exc _ _=>False|.stuck=>False
section
variable{α β:Type}{Q Q':α->List Sl->Prop}
@[simp]theorem Vt{a:α}{ρ:List Sl}:(Res.ok a ρ).sat Q=Q a ρ:=rfl
@[simp]theorem ado{k:Nat}{ρ:List Sl}:(Res.exc k ρ:Res α).sat Q=False:=rfl
@[simp]theorem ZF:(Res.stuck:Res α).sat Q=False:=rfl
theorem cF{x:Res β}{f:β->List Sl->Res α}:(x.bind f).sat Q=x.sat λa ρ=>(f a ρ).sat Q:=by cases x<;>rfl
@[simp]theorem ada{p:Prop}[Decidable p]{x y:Res α}:(if p then x else y).sat Q=((p->x.sat Q)/\(¬ p->y.sat Q)):=by by_cases h:p<;>simp[h]
@[simp]theorem Oj{a:α}{ρ:List Sl}:(lift (a7 a) ρ).sat Q=Q a ρ:=rfl
@[simp]theorem Ol{ρ:List Sl}:(lift (none:Option α) ρ).sat Q=False:=rfl
@[simp]theorem Pu{p:Prop}[Decidable p]{a:α}{ρ:List Sl}:(lift (if p then a7 a else none) ρ).sat Q=(p/\Q a ρ):=by by_cases h:p<;>simp[h]
theorem Res.sat.imp{x:Res α}(h:x.sat Q)(k:∀a ρ,Q a ρ->Q' a ρ):x.sat Q':=by cases x with|ok a ρ=>exact k a ρ h|exc _ _=>exact h|stuck=>exact h
theorem sat_iff{x:Res α}:x.sat Q↔∃a ρ,x=.ok a ρ/\Q a ρ:=by cases x with|ok a ρ=>exact⟨λh=>⟨a,ρ,rfl,h⟩,λ⟨_,_,e,h⟩=>by cases e;exact h⟩|exc _ _=>exact⟨λh=>h.elim,λ⟨_,_,e,_⟩=>by cases e⟩|stuck=>exact⟨λh=>h.elim,λ⟨_,_,e,_⟩=>by cases e⟩
end
noncomputable def fr:Sl->Bool|.aM=>bT|.val b _=>!b|.own b _=>!b|.lent _=>a_|.gZ _=>a_|.cY _=>a_|.hold _=>a_
@[simp]theorem af5:fr .aM=bT:=rfl
@[simp]theorem afK{b:Bool}{d:D}:fr (.val b d)=!b:=rfl
@[simp]theorem aeq{b:Bool}{d:List D}:fr (.own b d)=!b:=rfl
@[simp]theorem acM{d:List D}:fr (.lent d)=a_:=rfl
theorem VD(ρ:List Sl)(i:Nat)(s:Sl):put ρ i s=match ρ[i]?with|some t=>if fr t=bT then a7 (ρ.set i s)else none|none=>none:=by unfold put;cases h:ρ[i]?with|none=>rfl|some t=>cases t with|aM=>rfl|val b d=>cases b<;>rfl|own b d=>cases b<;>rfl|lent d=>rfl|gZ m=>rfl|cY m=>rfl|hold m=>rfl
theorem oJ{Γ:Tab}{w i:Nat}{d:Fd}{args:List Sl}(h:Γ i=a7 d):run Γ w (n+1) i args=enter (run Γ w n) w d args:=by rw[run,h]
noncomputable def fin(np:Nat):Fl->List Sl->Option (R×List Sl)|.next,ρ=>a7 (.val .non,ρ.take np)|.ret r,ρ=>a7 (r,ρ.take np)|_,_=>none
noncomputable def eQ(np:Nat)(Q:R->List Sl->Prop)(fl:Fl)(ρ:List Sl):Prop:=match fl with|.next=>Q (.val .non) (ρ.take np)|.ret r=>Q r (ρ.take np)|_=>False
noncomputable def sQ(c:Call)(n:Nat)(r:List S)(Q:Fl->List Sl->Prop)(fl:Fl)(ρ:List Sl):Prop:=match fl with|.next=>(fW c n r ρ).sat Q|fl=>Q fl ρ
noncomputable def fQ(J:List Sl->Prop)(Q:Fl->List Sl->Prop)(fl:Fl)(ρ:List Sl):Prop:=match fl with|.next=>J ρ|.cont=>J ρ|.brk=>Q .next ρ|.ret v=>Q (.ret v) ρ
section
variable{np:Nat}{Q:R->List Sl->Prop}{ρ:List Sl}{v:R}{c:Call}{n:Nat}{r:List S}{Q':Fl->List Sl->Prop}{J:List Sl->Prop}
@[simp]theorem adK:eQ np Q .next ρ=Q (.val .non) (ρ.take np):=rfl
@[simp]theorem agy:eQ np Q (.ret v) ρ=Q v (ρ.take np):=rfl
@[simp]theorem ael:eQ np Q .brk ρ=False:=rfl
@[simp]theorem acv:eQ np Q .cont ρ=False:=rfl
@[simp]theorem ac5:sQ c n r Q' .next ρ=(fW c n r ρ).sat Q':=rfl
@[simp]theorem afl:sQ c n r Q' (.ret v) ρ=Q' (.ret v) ρ:=rfl
@[simp]theorem afN:sQ c n r Q' .brk ρ=Q' .brk ρ:=rfl
@[simp]theorem ac8:sQ c n r Q' .cont ρ=Q' .cont ρ:=rfl
@[simp]theorem adu:fQ J Q' .next ρ=J ρ:=rfl
@[simp]theorem adE:fQ J Q' .cont ρ=J ρ:=rfl
@[simp]theorem aeO:fQ J Q' .brk ρ=Q' .next ρ:=rfl
@[simp]theorem aeW:fQ J Q' (.ret v) ρ=Q' (.ret v) ρ:=rfl
end
theorem Hn{d:Fd}{args:List Sl}{Q:R->List Sl->Prop}(a:args.length=d.np)(hd:d.np<=d.nn)(h:(fW c n d.body (args++cp (d.nn-d.np) .aM)).sat (eQ d.np Q)):(enter c n d args).sat Q:=by unfold enter;rw[if_pos ⟨a,hd⟩];revert h;cases fW c n d.body (args++cp (d.nn-d.np) .aM)with|stuck=>exact λh=>fe h|exc _ _=>exact λh=>fe h|ok fl ρ=>cases fl<;>first|exact id|exact λh=>fe h
theorem bh{Γ:Tab}{w i:Nat}{d:Fd}{args:List Sl}{Q:R->List Sl->Prop}(a:Γ i=a7 d)(b:args.length=d.np)(hd:d.np<=d.nn)(h:(fW (run Γ w n) w d.body (args++cp (d.nn-d.np) .aM)).sat (eQ d.np Q)):(run Γ w (n+1) i args).sat Q:=by rw[oJ a];exact Hn b hd h
theorem ak{s:S}{r:List S}{Q:Fl->List Sl->Prop}(h:(ex c n s ρ).sat (sQ c n r Q)):(fW c n (s::r) ρ).sat Q:=by rw[Wv,cF];refine h.imp λfl a q=>?_;cases fl<;>exact q
theorem Hx{s:S}{r:List S}{Q:Fl->List Sl->Prop}(h:(ex c n s ρ).sat (sQ c n r Q)):sQ c n (s::r) Q .next ρ:=ak h
@[simp]theorem adl{c:Call}{n:Nat}{ρ:List Sl}{Q:Fl->List Sl->Prop}:(fW c n [] ρ).sat Q=Q .next ρ:=by rw[xs0];rfl
theorem eZ{s:S}{r:List S}{Q:Fl->List Sl->Prop}(M:List Sl->Prop)(h:(ex c n s ρ).sat λfl a=>fl=.next/\M a)(k:∀a,M a->(fW c n r a).sat Q):(fW c n (s::r) ρ).sat Q:=ak (h.imp λfl a⟨e,q⟩=>by subst e;exact k a q)
theorem bO{is:List Nat}{one:Bool}{body:List Sl->Res Fl}(J:List D->List Sl->Prop){Q:Fl->List Sl->Prop}(b:∀d r ρ,J (d::r) ρ->∃a,cA ρ is one d=a7 a/\(body a).sat (fQ (J r) Q))(f:∀ρ,J [] ρ->Q .next ρ):∀{ds:List D}{ρ:List Sl},J ds ρ->(jM is one body ds ρ).sat Q|[],ρ,j=>f ρ j|d::r,ρ,j=>by obtain⟨a,e,h⟩:=b d r ρ j;rw[CQ,e];show((body a).bind _).sat Q;rw[cF];refine h.imp λfl g q=>?_;cases fl with|next=>exact bO J b f q|cont=>exact bO J b f q|brk=>exact q|ret v=>exact q
theorem lQ{is:List Nat}{one:Bool}{a:List Sl->Res Bool}{p:Ev}(J:List Sl->Prop)(g:D->Option D){Q:List D->List Sl->Prop}:∀{ds f:List D}{ρ:List Sl},J ρ->(∀ d,d ∈ ds->∀ ρ,J ρ->∃ i,cA ρ is one d=a7 i/\(a i).sat λb l=>if b=bT then(p l).sat λr s=>g d=a7 r.d/\J s else g d=none/\J l)->(∀ ρ,J ρ->Q (f++ds.filterMap g) ρ)->(turns is one a p ds f ρ).sat Q|[],f,ρ,j,h,k=>by rw[Jv];simpa using k ρ j|d::r,f,ρ,j,h,k=>by obtain⟨i,e,h1⟩:=h d (by simp) ρ j;rw[Jm,e];show((a i).bind _).sat Q;rw[cF];refine h1.imp λb l q=>?_;cases b with|true=>rw[if_pos rfl]at q;rw[if_pos rfl,cF];refine q.imp λx s⟨u,j3⟩=>?_;refine lQ J g j3 (λd' m=>h d' (by simp[m])) λo t=>?_;have:=k o t;rw[gT,u]at this;rw[eF];exact this|false=>rw[if_neg (by simp)]at q;rw[if_neg (by simp)];refine lQ J g q.2 (λd' m=>h d' (by simp[m])) λo t=>?_;have:=k o t;rw[gT,q.1]at this;exact this
theorem CN{one:Bool}{b:Ev}(J:List Sl->Prop)(g:D->D){Q:List D->List Sl->Prop}(j:J ρ)(h:∀d,d∈ds->∀ρ,J ρ->∃a,cA ρ is one d=a7 a/\(b a).sat λr f=>g d=r.d/\J f)(k:∀ρ,J ρ->Q (ds.map g) ρ):(turns is one (uN c none) b ds [] ρ).sat Q:=lQ J (λd=>a7 (g d)) j (λd hd ρ j=>by obtain⟨a,e,h1⟩:=h d hd ρ j;refine⟨a,e,?_⟩;rw[uN,Vt,if_pos rfl];exact h1.imp λr f q=>⟨by rw[q.1],q.2⟩) λρ j=>by simpa using k ρ j
section
variable{ρ l:List Sl}{a:Sl}{i j:Int}{k m:Nat}{b b':Bool}{s:Str}{d:D}{ds es:List D}{e f:Ev}{x:Option Sl}{c:Call}
@[simp]theorem Vx:cJ .int .non=a_:=rfl
@[simp]theorem Yq:cJ .int (.bl b)=bT:=rfl
@[simp]theorem Vo:cJ .int (.int i)=bT:=rfl
@[simp]theorem Xf:cJ .int (.str s)=a_:=rfl
@[simp]theorem U8:cJ .int (.tup ds)=a_:=rfl
@[simp]theorem WL:cJ .int (.lst ds)=a_:=rfl
@[simp]theorem R1:cJ .bool .non=a_:=rfl
@[simp]theorem Wg:cJ .bool (.bl b)=bT:=rfl
@[simp]theorem Sw:cJ .bool (.int i)=a_:=rfl
@[simp]theorem R5:cJ .bool (.str s)=a_:=rfl
@[simp]theorem R8:cJ .bool (.tup ds)=a_:=rfl
@[simp]theorem Tq:cJ .bool (.lst ds)=a_:=rfl
@[simp]theorem Va:cJ .str .non=a_:=rfl
@[simp]theorem Zy:cJ .str (.bl b)=a_:=rfl
@[simp]theorem Vi:cJ .str (.int i)=a_:=rfl
@[simp]theorem Wj:cJ .str (.str s)=bT:=rfl
@[simp]theorem WK:cJ .str (.tup ds)=a_:=rfl
@[simp]theorem V3:cJ .str (.lst ds)=a_:=rfl
@[simp]theorem Rf:cJ .tuple .non=a_:=rfl
@[simp]theorem R6:cJ .tuple (.bl b)=a_:=rfl
@[simp]theorem PX:cJ .tuple (.int i)=a_:=rfl
@[simp]theorem Q3:cJ .tuple (.str s)=a_:=rfl
@[simp]theorem QR:cJ .tuple (.tup ds)=bT:=rfl
@[simp]theorem OD:cJ .tuple (.lst ds)=a_:=rfl
@[simp]theorem Tr:cJ .list .non=a_:=rfl
@[simp]theorem VP:cJ .list (.bl b)=a_:=rfl
@[simp]theorem Tt:cJ .list (.int i)=a_:=rfl
@[simp]theorem R7:cJ .list (.str s)=a_:=rfl
@[simp]theorem Sy:cJ .list (.tup ds)=a_:=rfl
@[simp]theorem R3:cJ .list (.lst ds)=bT:=rfl
@[simp]theorem TQ:cJ .none .non=bT:=rfl
@[simp]theorem Uw:cJ .none (.bl b)=a_:=rfl
@[simp]theorem RN:cJ .none (.int i)=a_:=rfl
@[simp]theorem RZ:cJ .none (.str s)=a_:=rfl
@[simp]theorem Tu:cJ .none (.tup ds)=a_:=rfl
@[simp]theorem RV:cJ .none (.lst ds)=a_:=rfl
@[simp]theorem Yr:lq .non=bT:=rfl
@[simp]theorem abp:lq (.bl b)=a_:=rfl
@[simp]theorem Zx:lq (.int i)=a_:=rfl
@[simp]theorem ZM:lq (.str s)=a_:=rfl
@[simp]theorem Ym:lq (.tup ds)=a_:=rfl
@[simp]theorem YH:lq (.lst ds)=a_:=rfl
@[simp]theorem abR:flat .non=bT:=rfl
@[simp]theorem acz:flat (.bl b)=bT:=rfl
@[simp]theorem aal:flat (.int i)=bT:=rfl
@[simp]theorem abw:flat (.str s)=bT:=rfl
@[simp]theorem aaO:flat (.tup ds)=a_:=rfl
@[simp]theorem aaL:flat (.lst ds)=a_:=rfl
@[simp]theorem agw:(R.val d).d=d:=rfl
@[simp]theorem agg:(R.own ds).d=.lst ds:=rfl
@[simp]theorem abg:Cu (.val d)=.val a_ d:=rfl
@[simp]theorem aaI:Cu (.own ds)=.own a_ ds:=rfl
@[simp]theorem Y9:vJ (.val d)=.dat d:=rfl
@[simp]theorem ZJ:vJ (.own ds)=.tmp ds:=rfl
@[simp]theorem ac6:je (.int i)=a7 i:=rfl
@[simp]theorem agf:Gb (.bl b)=a7 b:=rfl
@[simp]theorem YM:items (.lst ds)=a7 ds:=rfl
@[simp]theorem Zc:items (.tup ds)=a7 ds:=rfl
@[simp]theorem Vk:WY (.tup ds)=a7 ds:=rfl
@[simp]theorem Ve:BL (.lst ds)=a7 ds:=rfl
@[simp]theorem ac9:uK .add=tQ:=rfl
@[simp]theorem acw:uK .sub=yQ:=rfl
@[simp]theorem acx:uK .mul=j8:=rfl
@[simp]theorem aas:uK .fdiv=uE:=rfl
@[simp]theorem acy:uK .mod=zq:=rfl
@[simp]theorem ac0:uK .pow=zu:=rfl
@[simp]theorem Za:tQ (.int i) (.int j)=a7 (.val (.int (i+j))):=rfl
@[simp]theorem Ze:tQ (.lst ds) (.lst es)=if ds.length+es.length<=lim then a7 (.own (ds++es))else none:=rfl
@[simp]theorem Yv:tQ (.tup ds) (.tup es)=if ds.length+es.length<=lim then a7 (.val (.tup (ds++es)))else none:=rfl
@[simp]theorem ZC:yQ (.int i) (.int j)=a7 (.val (.int (i-j))):=rfl
@[simp]theorem YL:j8 (.int i) (.int j)=if((-18446744073709551616<i/\i<18446744073709551616)\/(-18446744073709551616<j/\j<18446744073709551616))then a7 (.val (.int (i*j)))else none:=rfl
@[simp]theorem V0:uE (.int i) (.int j)=if 0<j/\j<1606938044258990275541962092341162602522202993782792835301376 then a7 (.val (.int (i/j)))else none:=rfl
@[simp]theorem Yp:zq (.int i) (.int j)=if 0<j then a7 (.val (.int (i%j)))else none:=rfl
@[simp]theorem Y5:zu (.int i) (.int j)=if 0<=j/\j<=1000/\i.natAbs<18446744073709551616 then a7 (.val (.int (i^j.toNat)))else none:=rfl
@[simp]theorem acK:Hf (.lst ds) (.int i)=(at' ds i).map .val:=rfl
@[simp]theorem adF:Hf (.tup ds) (.int i)=(at' ds i).map .val:=rfl
@[simp]theorem Z7:M8 (.int i)=a7 (.val (.int (-i))):=rfl
@[simp]theorem Zt:cm .eq (.int i) (.int j)=a7 (i==j):=rfl
@[simp]theorem YG:cm .ne (.int i) (.int j)=a7 (!(i==j)):=rfl
@[simp]theorem abd:cm .eq (.bl b) (.bl b')=a7 (b==b'):=rfl
@[simp]theorem aao:cm .ne (.bl b) (.bl b')=a7 (!(b==b')):=rfl
@[simp]theorem Yw:cm .lt (.int i) (.int j)=a7 (decide (i<j)):=rfl
@[simp]theorem Yz:cm .le (.int i) (.int j)=a7 (decide (i<=j)):=rfl
@[simp]theorem YX:cm .gt (.int i) (.int j)=a7 (decide (j<i)):=rfl
@[simp]theorem Y6:cm .ge (.int i) (.int j)=a7 (decide (j<=i)):=rfl
@[simp]theorem afS:cm .isN d .non=a7 (lq d):=rfl
@[simp]theorem adq:cm .Nu d .non=a7 (!lq d):=rfl
@[simp]theorem Tn:blt .len [.lst ds]=a7 (.val (.int ds.length)):=rfl
@[simp]theorem Sv:blt .len [.tup ds]=a7 (.val (.int ds.length)):=rfl
@[simp]theorem Q0:blt .list [.lst ds]=a7 (.own ds):=rfl
@[simp]theorem Qj:blt .list [.tup ds]=a7 (.own ds):=rfl
@[simp]theorem Oe:blt .tuple [.lst ds]=a7 (.val (.tup ds)):=rfl
@[simp]theorem Ob:blt .tuple [.tup ds]=a7 (.val (.tup ds)):=rfl
@[simp]theorem aat:blt .min2 [.int i,.int j]=a7 (.val (.int (if j<i then j else i))):=rfl
@[simp]theorem abH:blt .max2 [.int i,.int j]=a7 (.val (.int (if i<j then j else i))):=rfl
@[simp]theorem acL:blt .all [.lst ds]=(ds.mapM Gb).map λbs=>.val (.bl (bs.all id)):=rfl
@[simp]theorem Zi:isVar (.var k)=a7 k:=rfl
@[simp]theorem adw:pk (a::l) k=match(a::l)[k]?with|some (.val _ d)=>a7 d|some (.own _ ds)=>a7 (.lst ds)|some (.lent ds)=>a7 (.lst ds)|_=>none:=rfl
@[simp]theorem aaG:Cp (a::l) k=match pk (a::l) k with|some (.lst ds)=>a7 ds|_=>none:=rfl
@[simp]theorem aav:cZ (a7 k) e ρ=lift (pk ρ k) ρ:=rfl
@[simp]theorem aah:cZ none e ρ=(e ρ).bind λr ρ=>.ok r.d ρ:=rfl
@[simp]theorem Zh{y:Option Nat}:kJ (a7 k) e y f ρ=(lift (pk ρ k) ρ).bind λ_ ρ=>(cZ y f ρ).bind λy ρ=>(lift (pk ρ k) ρ).bind λx ρ=>.ok (x,y) ρ:=rfl
@[simp]theorem ZK{y:Option Nat}:kJ none e y f ρ=(cZ none e ρ).bind λx ρ=>(cZ y f ρ).bind λy ρ=>.ok (x,y) ρ:=rfl
@[simp]theorem ZL{es:List D}:dz (.own b ds) (a7 (.own b' es))=.own b es:=rfl
@[simp]theorem Zu:dz (.own b ds) (a7 (.val b' d))=.val b d:=rfl
@[simp]theorem Jw:dz a none=a:=by cases a<;>rfl
@[simp]theorem HS:dz (.val b d) x=.val b d:=by cases x<;>rfl
@[simp]theorem YZ:dz .aM x=.aM:=by cases x<;>rfl
@[simp]theorem Dh:dz (.lent ds) x=.lent ds:=by cases x<;>rfl
@[simp]theorem abj:cA ρ [k] bT d=put ρ k (.val a_ d):=rfl
@[simp]theorem Y0{is:List Nat}:cA ρ is a_ (.tup ds)=putAll ρ is ds:=by cases is<;>rfl
@[simp]theorem Wu:srcOf none e ρ=(e ρ).bind λr ρ=>lift (items r.d) ρ:=rfl
@[simp]theorem Vl:srcOf (a7 k) e (a::l)=match(a::l)[k]?with|some (.val _ d)=>lift (items d) (a::l)|some (.own _ ds)=>.ok ds ((a::l).set k (.lent ds))|some (.lent ds)=>.ok ds (a::l)|_=>.stuck:=rfl
@[simp]theorem SM{g:List Sl}:aP g none ρ=ρ:=rfl
@[simp]theorem RW:aP (a::l) (a7 k) ρ=match(a::l)[k]?with|some (.own b ds)=>ρ.set k (.own b ds)|_=>ρ:=rfl
@[simp]theorem aaJ{s:Sl}:put (a::l) k s=match(a::l)[k]?with|some t=>if fr t=bT then a7 ((a::l).set k s)else none|none=>none:=VD ..
@[simp]theorem V5:putAll ρ [] []=a7 ρ:=rfl
@[simp]theorem Tf{is:List Nat}:putAll ρ (k::is) (d::ds)=(put ρ k (.val a_ d)).bind λρ=>putAll ρ is ds:=rfl
end
@[simp]theorem at_0{a:Type}{b:a}{l:List a}:at' (b::l) 0=a7 b:=by unfold at' jm;rw[if_pos (by decide),if_pos (by simp only[dV];omega)];rfl
@[simp]theorem at_1{a:Type}{e b:a}{l:List a}:at' (e::b::l) 1=a7 b:=by unfold at' jm;rw[if_pos (by decide),if_pos (by simp only[dV];omega)];rfl
@[simp]theorem at_2{a:Type}{e f b:a}{l:List a}:at' (e::f::b::l) 2=a7 b:=by unfold at' jm;rw[if_pos (by decide),if_pos (by simp only[dV];omega)];rfl
@[simp]theorem at_3{a:Type}{e f g b:a}{l:List a}:at' (e::f::g::b::l) 3=a7 b:=by unfold at' jm;rw[if_pos (by decide),if_pos (by simp only[dV];omega)];rfl
@[simp]theorem at_4{a:Type}{e f g h b:a}{l:List a}:at' (e::f::g::h::b::l) 4=a7 b:=by unfold at' jm;rw[if_pos (by decide),if_pos (by simp only[dV];omega)];rfl
@[simp]theorem at_5{a:Type}{e f g h i b:a}{l:List a}:at' (e::f::g::h::i::b::l) 5=a7 b:=by unfold at' jm;rw[if_pos (by decide),if_pos (by simp only[dV];omega)];rfl
@[simp]theorem at_6{a:Type}{e f g h i j b:a}{l:List a}:at' (e::f::g::h::i::j::b::l) 6=a7 b:=by unfold at' jm;rw[if_pos (by decide),if_pos (by simp only[dV];omega)];rfl
@[simp]theorem at_7{a:Type}{e f g h i j k b:a}{l:List a}:at' (e::f::g::h::i::j::k::b::l) 7=a7 b:=by unfold at' jm;rw[if_pos (by decide),if_pos (by simp only[dV];omega)];rfl
theorem Bu{a:Type}{l:List a}{i:Int}(h:0<=i)(h':i<l.length):at' l i=l[i.toNat]?:=by unfold at' jm;rw[if_pos h,if_pos h'];rfl
theorem JX{a:Type}{l:List a}{k:Nat}(h':k<l.length):at' l (k:Int)=l[k]?:=by rw[Bu (by omega) (by omega)];simp
@[simp]theorem Zo{d:D}:isVar (.con d)=none:=rfl
@[simp]theorem Yt{o:Op}{p q:P}:isVar (.bin o p q)=none:=rfl
@[simp]theorem YB{p:P}:isVar (.neg p)=none:=rfl
@[simp]theorem Zw{p:P}:isVar (.not p)=none:=rfl
@[simp]theorem Zk{p q:P}:isVar (.and p q)=none:=rfl
@[simp]theorem aaD{p q:P}:isVar (.or p q)=none:=rfl
@[simp]theorem Yy{o:Cm}{p q:P}:isVar (.cmp o p q)=none:=rfl
@[simp]theorem Yx{p q r:P}:isVar (.T4 p q r)=none:=rfl
@[simp]theorem YC{as:List P}:isVar (.tup as)=none:=rfl
@[simp]theorem Zn{as:List P}:isVar (.lst as)=none:=rfl
@[simp]theorem Zb{p q:P}:isVar (.idx p q)=none:=rfl
@[simp]theorem Tz{p q r:P}:isVar (.slice p q r)=none:=rfl
@[simp]theorem Xq{f:Nat}{as:List P}:isVar (.call f as)=none:=rfl
@[simp]theorem Zz{b:Blt}{as:List P}:isVar (.blt b as)=none:=rfl
@[simp]theorem Vu{a:List Ty}{p:P}:isVar (.inst a p)=none:=rfl
@[simp]theorem XN{p e:P}{n:Nat}{is:List Nat}{one:Bool}{t:Option P}:isVar (.comp p n is one t e)=none:=rfl
@[simp]theorem Ys{p q:P}:isVar (.uZ p q)=none:=rfl
@[simp]theorem Yu{p q:P}:isVar (.zip p q)=none:=rfl
noncomputable def p7(c:Call)(is:List Nat)(one:Bool)(a:Option P)(b:P)(ds:List D)(ρ:List Sl):Res (List D):=turns is one (uN c a) (ev c b) ds [] ρ
@[simp]theorem acW{c:Call}{src f:P}{n:Nat}{is:List Nat}{one:Bool}{b:Option P}{ρ:List Sl}:ev c (.comp src n is one b f) ρ=(srcOf (isVar src) (ev c src) ρ).bind λds a=>if ds.length<=lim then(p7 c is one b f ds (a++cp n .aM)).bind λxs e=>.ok (.own xs) (aP ρ (isVar src) (e.take a.length))else .stuck:=(rfl)
noncomputable def J6(c:Call)(n:Nat)(t:P)(body:List S)(k:Nat)(ρ:List Sl):Res Fl:=rY (jV (ev c t)) (fW c n body) k ρ
@[simp]theorem afV{c:Call}{n:Nat}{t:P}{body:List S}{ρ:List Sl}:ex c n (.whl t body) ρ=J6 c n t body n ρ:=(rfl)
theorem wY{b e h:Type}{x:Res e}{f:e->List Sl->Res b}{g:b->List Sl->Res h}:(x.bind f).bind g=x.bind λa ρ=>(f a ρ).bind g:=by cases x<;>rfl
@[simp]theorem aeQ{Γ:Tab}{w n i:Nat}{args:List Sl}{b:Type}{f:R->List Sl->Res b}{Q:b->List Sl->Prop}:((run Γ w n i args).bind f).sat Q=(run Γ w n i args).sat λa ρ=>(f a ρ).sat Q:=cF
@[simp]theorem afF{Γ:Tab}{w n i:Nat}{args:List Sl}{b e:Type}{f:R->List Sl->Res b}{g:b->List Sl->Res e}:((run Γ w n i args).bind f).bind g=(run Γ w n i args).bind λa ρ=>(f a ρ).bind g:=wY
@[simp]theorem acQ{c:Call}{is:List Nat}{one:Bool}{b:Option P}{e:P}{ds:List D}{ρ:List Sl}{g:Type}{f:List D->List Sl->Res g}{Q:g->List Sl->Prop}:((p7 c is one b e ds ρ).bind f).sat Q=(p7 c is one b e ds ρ).sat λa ρ=>(f a ρ).sat Q:=cF
@[simp]theorem adm{c:Call}{is:List Nat}{one:Bool}{b:Option P}{e:P}{ds:List D}{ρ:List Sl}{h i:Type}{f:List D->List Sl->Res h}{g:h->List Sl->Res i}:((p7 c is one b e ds ρ).bind f).bind g=(p7 c is one b e ds ρ).bind λa ρ=>(f a ρ).bind g:=wY
@[simp]theorem agh{is:List Nat}{one:Bool}{b:List Sl->Res Fl}{ds:List D}{ρ:List Sl}{e:Type}{f:Fl->List Sl->Res e}{Q:e->List Sl->Prop}:((jM is one b ds ρ).bind f).sat Q=(jM is one b ds ρ).sat λa ρ=>(f a ρ).sat Q:=cF
@[simp]theorem acZ{b e:Type}{p:Prop}[Decidable p]{a:e}{ρ:List Sl}{f:e->List Sl->Res b}{Q:b->List Sl->Prop}:((lift (if p then a7 a else none) ρ).bind f).sat Q=(p/\(f a ρ).sat Q):=by by_cases h:p<;>simp[h,lift,Res.bind]
@[simp]theorem adG{b e h:Type}{p:Prop}[Decidable p]{a:e}{ρ:List Sl}{f:e->List Sl->Res b}{g:b->List Sl->Res h}:((lift (if p then a7 a else none) ρ).bind f).bind g=(lift (if p then a7 a else none) ρ).bind λa ρ=>(f a ρ).bind g:=wY
@[simp]theorem bb_ite{b a:Type}{p:Prop}[Decidable p]{x y:Res a}{f:a->List Sl->Res b}:(if p then x else y).bind f=if p then x.bind f else y.bind f:=by by_cases h:p<;>simp[h]
@[simp]theorem aeC{c:Call}{n k:Nat}{t:P}{b:List S}{ρ:List Sl}{e:Type}{f:Fl->List Sl->Res e}{Q:e->List Sl->Prop}:((J6 c n t b k ρ).bind f).sat Q=(J6 c n t b k ρ).sat λa ρ=>(f a ρ).sat Q:=cF
@[simp]theorem afQ{b e:Type}{a:b}{ρ:List Sl}{f:b->List Sl->Res e}:(Res.ok a ρ).bind f=f a ρ:=rfl
@[simp]theorem Zg{a b:Type}{f:a->List Sl->Res b}:(Res.stuck:Res a).bind f=.stuck:=rfl
@[simp]theorem aau{b:Type}{a:b}{ρ:List Sl}:lift (a7 a) ρ=.ok a ρ:=rfl
@[simp]theorem aaC{a:Type}{ρ:List Sl}:lift (none:Option a) ρ=.stuck:=rfl
noncomputable def Iu:List Sl->Nat->Sl->List Sl|[],_,_=>[]|t::ρ,0,s=>dz t (a7 s)::ρ|t::ρ,k+1,s=>t::Iu ρ k s
theorem sJ{k:Nat}{s:Sl}:Iu [] k s=[]:=rfl
theorem uc{t:Sl}{ρ:List Sl}{s:Sl}:Iu (t::ρ) 0 s=dz t (a7 s)::ρ:=rfl
theorem rT{t:Sl}{ρ:List Sl}{k:Nat}{s:Sl}:Iu (t::ρ) (k+1) s=t::Iu ρ k s:=rfl
noncomputable def bk:List Arg->List Sl->List Sl->List Sl|.gH k::as,s::ss,ρ=>bk as ss (Iu ρ k s)|.dat _::as,_::ss,ρ=>bk as ss ρ|.tmp _::as,_::ss,ρ=>bk as ss ρ|_,_,ρ=>ρ
section
variable{t s:Sl}{ρ ss:List Sl}{k:Nat}{as:List Arg}{d:D}{ds:List D}
@[simp]theorem ahF:Iu (t::ρ) 0 s=dz t (a7 s)::ρ:=rfl
@[simp]theorem ah1:Iu (t::ρ) (k+1) s=t::Iu ρ k s:=rfl
@[simp]theorem V7:bk (.gH k::as) (s::ss) ρ=bk as ss (Iu ρ k s):=rfl
@[simp]theorem Ww:bk (.dat d::as) (s::ss) ρ=bk as ss ρ:=rfl
@[simp]theorem VH:bk (.tmp ds::as) (s::ss) ρ=bk as ss ρ:=rfl
@[simp]theorem afh:bk [] ss ρ=ρ:=rfl
end
theorem By{s:Sl}:∀{ρ:List Sl}{k j:Nat},(Iu ρ k s)[j]?=(ρ[j]?).map λt=>if j=k then dz t (a7 s)else t|[],_,_=>by simp[sJ,uc,rT]|t::ρ,0,0=>by simp[sJ,uc,rT]|t::ρ,0,j+1=>by simp[sJ,uc,rT]|t::ρ,k+1,0=>by simp[sJ,uc,rT]|t::ρ,k+1,j+1=>by have:=By (s:=s) (ρ:=ρ) (k:=k) (j:=j);simp only[sJ,uc,rT,ix,this];congr 1;funext t;simp
theorem yW{as:List Arg}{ss:List Sl}:∀{ρ:List Sl}{i j:Nat},(fK as ss i ρ)[j]?=(ρ[j]?).map λt=>dz t (aO (i+j) as ss)|[],_,_=>by simp[jz,ir]|t::ρ,i,0=>by simp[jz,ir]|t::ρ,i,j+1=>by have:=yW (as:=as) (ss:=ss) (ρ:=ρ) (i:=i+1) (j:=j);simp only[jz,ir,ix,this];rw[show i+1+j=i+(j+1)by omega]
noncomputable def stb(t:Sl):Prop:=∀x,dz t x=t
noncomputable def Wf(ρ:List Sl):List Arg->Prop|[]=>True|.gH k::as=>(Arg.gH k∈as->∀t,ρ[k]?=a7 t->stb t)/\Wf ρ as|_::as=>Wf ρ as
theorem rA{ρ:List Sl}:∀{as:List Arg}{a:List Sl},Wf ρ as->(∀k,Arg.gH k∈as->∀t,a[k]?=a7 t->ρ[k]?=a7 t\/stb t)->Wf a as
 |[],_,_,_=>trivial|.gH k::as,a,h,g=>⟨λf t ht=>by
  rcases g k (by simp) t ht with e|e;.exact h.1 f t e
  .exact e,rA h.2 λj b=>g j (by simp[b])⟩|.dat _::as,a,h,g=>rA (as:=as) h λj b=>g j (by simp[b])|.tmp _::as,a,h,g=>rA (as:=as) h λj b=>g j (by simp[b])
theorem oE{k:Nat}:∀{as:List Arg}{ss:List Sl},Arg.gH k∉as->aO k as ss=none|[],_,_=>by unfold aO;rfl|.gH j::as,[],_=>rfl|.dat _::as,[],_=>rfl|.tmp _::as,[],_=>rfl|.gH j::as,s::ss,h=>by simp only[c_,Arg.gH.injEq,not_or]at h;rw[aO,if_neg (λe=>h.1 e.symm),oE h.2]|.dat _::as,s::ss,h=>by simp only[c_,not_or]at h;rw[aO,oE h.2]|.tmp _::as,s::ss,h=>by simp only[c_,not_or]at h;rw[aO,oE h.2]
theorem Es:∀{as:List Arg}{ss ρ:List Sl},Wf ρ as->∀j,(bk as ss ρ)[j]?=(ρ[j]?).map λt=>dz t (aO j as ss)
 |[],ss,ρ,_,j=>by cases ss<;>simp[aO]|.gH k::as,[],ρ,_,j=>by rw[show bk (.gH k::as) [] ρ=ρ from rfl];simp[aO]|.dat d::as,[],ρ,_,j=>by rw[show bk (.dat d::as) [] ρ=ρ from rfl];simp[aO]|.tmp d::as,[],ρ,_,j=>by rw[show bk (.tmp d::as) [] ρ=ρ from rfl];simp[aO]|.dat _::as,s::ss,ρ,h,j=>by rw[Ww,aO];exact Es (as:=as) h j|.tmp _::as,s::ss,ρ,h,j=>by rw[VH,aO];exact Es (as:=as) h j|.gH k::as,s::ss,ρ,h,j=>by
   have b:Wf (Iu ρ k s) as:=rA h.2 λi hi t ht=>by rw[By]at ht;cases e:ρ[i]?with|none=>rw[e]at ht;cases ht|some t0=>
      rw[e]at ht;by_cases c:i=k;.subst c;have hs:=h.1 hi t0 e;simp[hs (a7 s)]at ht;exact .inl (by rw[ht])
      .simp[c]at ht;exact .inl (by rw[ht])
   rw[V7,Es b j,By,aO];cases e:ρ[j]?with|none=>rfl|some t0=>
     simp only[kw];by_cases c:j=k
     . subst c;rw[if_pos rfl,if_pos rfl];by_cases a:Arg.gH j∈as;.have hs:=h.1 a t0 e;rw[hs (a7 s),hs]
       .rw[oE a,Jw]
     .rw[if_neg c,if_neg (λz=>c z.symm)]
theorem il{ρ:List Sl}{k:Nat}{b:Bool}{ds:List D}(e:ρ[k]?=a7 (.own b ds)):∀{as:List Arg}{u:List Nat}{r:List Sl},k∈u->bV ρ as u=a7 r->Arg.gH k∉as
 |[],_,_,_,_=>by simp|.dat _::as,u,r,a,h=>by simp only[mK,mO,mR,jJ,eT]at h;obtain⟨f,h,_⟩:=h;simp[il e a h]|.tmp _::as,u,r,a,h=>by simp only[mK,mO,mR,jJ,eT]at h;obtain⟨f,h,_⟩:=h;simp[il e a h]|.gH i::as,u,r,a,h=>by
   rw[jJ]at h;have hi:i≠k:=by rintro rfl;rw[e]at h;simp[a]at h
   have:Arg.gH k∉as:=by
    split at h;.obtain⟨f,h,_⟩:=eT.mp h;exact il e a h
    . split at h;.cases h
      .obtain⟨f,h,_⟩:=eT.mp h;exact il e (by simp[a]) h
    . split at h;.cases h
      .obtain⟨f,h,_⟩:=eT.mp h;exact il e (by simp[a]) h
    .cases h
   simp[this];exact λz=>hi z.symm
theorem ik{ρ:List Sl}:∀{as:List Arg}{u:List Nat}{r:List Sl},bV ρ as u=a7 r->Wf ρ as
 |[],_,_,_=>trivial|.dat _::as,u,r,h=>by obtain⟨a,h,_⟩:=eT.mp h;exact ik (as:=as) h|.tmp _::as,u,r,h=>by obtain⟨a,h,_⟩:=eT.mp h;exact ik (as:=as) h|.gH i::as,u,r,h=>by
   rw[jJ]at h;split at h;.rename_i b d q;obtain⟨a,h,_⟩:=eT.mp h;exact⟨λ_ t ht=>by rw[q]at ht;cases ht;exact λx=>HS,ik h⟩
   . rename_i b ds q;split at h;.cases h
     .obtain⟨a,h,_⟩:=eT.mp h;exact⟨λe=>absurd e (il q (by simp) h),ik h⟩
   . rename_i ds q;split at h;.cases h
     .obtain⟨a,h,_⟩:=eT.mp h;exact⟨λ_ t ht=>by rw[q]at ht;cases ht;exact λx=>Dh,ik h⟩
   .cases h
theorem aaW{as:List Arg}{ss r:List Sl}{u:List Nat}(h:bV ρ as u=a7 r):fK as ss 0 ρ=bk as ss ρ:=by apply List.ext_getElem?;intro j;rw[yW,Es (ik h),ri]
@[simp]theorem Zv{c:Call}{k:Nat}{as:List Arg}{ρ:List Sl}:jE c k as ρ=match bV ρ as []with|none=>.stuck|some args=>(c k args).bind λr a=>.ok r (bk as a ρ):=by unfold jE;cases e:bV ρ as []with|none=>rfl|some args=>simp only[<-aaW (r:=args) e];cases c k args<;>rfl
theorem cX{one:Bool}{a:P}(J:List Sl->Prop)(g:D->D){Q:List D->List Sl->Prop}(j:J ρ)(h:∀d,d∈ds->∀ρ,J ρ->∃b,cA ρ is one d=a7 b/\(ev c a b).sat λr e=>g d=r.d/\J e)(k:∀ρ,J ρ->Q (ds.map g) ρ):(p7 c is one none a ds ρ).sat Q:=CN J g j h k
theorem Ht{one:Bool}{i t:P}(J:List Sl->Prop)(g:D->Option D){Q:List D->List Sl->Prop}(j:J ρ)(h:∀d,d∈ds->∀ρ,J ρ->∃a,cA ρ is one d=a7 a/\(ev c t a).sat λr f=>∃b,r.d=.bl b/\if b=bT then(ev c i f).sat λr l=>g d=a7 r.d/\J l else g d=none/\J f)(k:∀ρ,J ρ->Q (ds.filterMap g) ρ):(p7 c is one (a7 t) i ds ρ).sat Q:=lQ J g j (λd hd ρ j=>by obtain⟨a,e,h1⟩:=h d hd ρ j;refine⟨a,e,?_⟩;rw[uN,jV,cF];refine h1.imp λr f⟨b,e,q⟩=>?_;rw[e];exact q) λρ j=>by simpa using k ρ j
theorem kI{c:Call}{n:Nat}{t:P}{body:List S}(J:Nat->List Sl->Prop){Q:Fl->List Sl->Prop}(h:∀m ρ,J m ρ->(ev c t ρ).sat λr a=>∃b,r.d=.bl b/\if b=bT then(fW c n body a).sat (fQ (λf=>∃g,g<m/\J g f) Q)else Q .next a):∀{k m:Nat}{ρ:List Sl},m<k->J m ρ->(J6 c n t body k ρ).sat Q|0,m,ρ,i,_=>absurd i (Nat.not_lt_zero _)|k+1,m,ρ,i,j=>by unfold J6;rw[Nr,cF,jV,cF];refine(h m ρ j).imp λr a⟨b,e,q⟩=>?_;rw[e];show(if b=bT then _ else _:Res Fl).sat Q;cases b with|false=>rw[if_neg (by simp)]at q;rw[if_neg (by simp)];exact q|true=>rw[if_pos rfl]at q;rw[if_pos rfl,cF];refine q.imp λfl f q=>?_;cases fl with|next=>obtain⟨g,l,o⟩:=q;exact kI J h (dP l (Nat.lt_succ_iff.mp i)) o|cont=>obtain⟨g,l,o⟩:=q;exact kI J h (dP l (Nat.lt_succ_iff.mp i)) o|brk=>exact q|ret v=>exact q
@[simp]theorem ahW:type_of%@_H.E1:=@_H.E1
@[simp]theorem ahA:type_of%@_H.E2:=@_H.E2
@[simp]theorem ahI:type_of%@_H.E3:=@_H.E3
@[simp]theorem ahR:type_of%@_H.E4:=@_H.E4
@[simp]theorem ahY:type_of%@_H.E5:=@_H.E5
@[simp]theorem ahB:type_of%@_H.E6:=@_H.E6
@[simp]theorem ahM:type_of%@_H.E7:=@_H.E7
@[simp]theorem ahs:type_of%@_H.E8:=@_H.E8
@[simp]theorem aer:type_of%@_H.E9:=@_H.E9
@[simp]theorem ae4:type_of%@_H.E10:=@_H.E10
@[simp]theorem aga:type_of%@_H.E11:=@_H.E11
@[simp]theorem afd:type_of%@_H.E12:=@_H.E12
@[simp]theorem aeY:type_of%@_H.E13:=@_H.E13
@[simp]theorem aef:type_of%@_H.E14:=@_H.E14
@[simp]theorem aeD:type_of%@_H.E15:=@_H.E15
@[simp]theorem aeg:type_of%@_H.E16:=@_H.E16
@[simp]theorem adi:type_of%@_H.Z9:=@_H.Z9
@[simp]theorem ags:type_of%@_H.E17:=@_H.E17
@[simp]theorem agL:type_of%@_H.E18:=@_H.E18
@[simp]theorem agt:type_of%@_H.E19:=@_H.E19
@[simp]theorem afI:type_of%@_H.E20:=@_H.E20
@[simp]theorem ah2:type_of%@_H.X1:=@_H.X1
@[simp]theorem ahK:type_of%@_H.X2:=@_H.X2
@[simp]theorem ahP:type_of%@_H.X3:=@_H.X3
@[simp]theorem ahO:type_of%@_H.X4:=@_H.X4
@[simp]theorem ah4:type_of%@_H.X5:=@_H.X5
@[simp]theorem ahT:type_of%@_H.X6:=@_H.X6
@[simp]theorem aht:type_of%@_H.X7:=@_H.X7
@[simp]theorem ah5:type_of%@_H.X8:=@_H.X8
@[simp]theorem ah3:type_of%@_H.X9:=@_H.X9
@[simp]theorem afu:type_of%@_H.X10:=@_H.X10
@[simp]theorem aeH:type_of%@_H.X11:=@_H.X11
@[simp]theorem afx:type_of%@_H.X12:=@_H.X12
@[simp]theorem aes:type_of%@_H.X13:=@_H.X13
@[simp]theorem afY:type_of%@_H.X14:=@_H.X14
@[simp]theorem agI:type_of%@_H.jV.eq_1:=@_H.jV.eq_1
@[simp]theorem aeK:type_of%@_H.evs.eq_1:=@_H.evs.eq_1
@[simp]theorem afg:type_of%@_H.evs.eq_2:=@_H.evs.eq_2
@[simp]theorem ae3:type_of%@_H.Az.eq_1:=@_H.Az.eq_1
@[simp]theorem afO:type_of%@_H.Az.eq_2:=@_H.Az.eq_2
@[simp]theorem afB:type_of%@_H.uN.eq_1:=@_H.uN.eq_1
@[simp]theorem agn:type_of%@_H.uN.eq_2:=@_H.uN.eq_2
@[simp]theorem afE:type_of%@_H.CP.eq_1:=@_H.CP.eq_1
@[simp]theorem abA:type_of%@_H.bV.eq_1:=@_H.bV.eq_1
@[simp]theorem abK:type_of%@_H.bV.eq_2:=@_H.bV.eq_2
@[simp]theorem aaB:type_of%@_H.bV.eq_3:=@_H.bV.eq_3
@[simp]theorem aar:type_of%@_H.bV.eq_4:=@_H.bV.eq_4
@[simp]theorem aaj:type_of%@_H.fK.eq_1:=@_H.fK.eq_1
@[simp]theorem aaH:type_of%@_H.fK.eq_2:=@_H.fK.eq_2
@[simp]theorem abM:type_of%@_H.aO.eq_1:=@_H.aO.eq_1
@[simp]theorem abv:type_of%@_H.aO.eq_2:=@_H.aO.eq_2
@[simp]theorem abl:type_of%@_H.aO.eq_3:=@_H.aO.eq_3
@[simp]theorem abB:type_of%@_H.aO.eq_4:=@_H.aO.eq_4
end _H
namespace _H
open PySem _L Spec PyProof.Rows
section
variable{X:Cx}{c:Call}{a b:dc}{pa pb:P}{pos:Pos}
theorem uz:∀{e:List D}{ns:List Int},e.mapM je=a7 ns->e=ns.map D.int|[],ns,h=>by simp at h;subst h;rfl|d::e,ns,h=>by simp[List.mapM_cons,nV]at h;obtain⟨i,f,j,g,rfl⟩:=h;rw[dm f,uz g];rfl
theorem j9{K:PySem.W.Frag}{F:Hp}:∀{ns:List Int}{ys:List V},aH K F ys (ns.map D.int)->ys=ns.map V.int|[],ys,h=>by rw[h.gV];rfl|n::ns,ys,h=>by obtain⟨v,r,rfl,h1,t⟩:=h.cL;rw[Rep]at h1;rw[h1,j9 t];rfl
theorem xH{ns:List Int}{f:List bx}(h:Vals (ns.map V.int) f){i:Nat}{v:bx}(e:f.toArray[i]?=a7 v):∃t,v=.int (ns.getD i 0) t:=by
 have e:f[i]?=a7 v:=by simpa using e
 have hi:i<f.length:=(fu e).1;have k:=h.length;rw[ef]at k;have g:(ns.map V.int)[i]?=a7 (.int (ns.getD i 0)):=by rw[eV,fS (by omega)];simp[jv,show i<ns.length by omega]
 obtain⟨w,j,l⟩:=h.get g;rw[e]at j;cases j;exact l
theorem walked{h:List (ce×Obj)}{σ:_L.St}{H:Hp}{s:b_}{p:ce}{ys:List V}(I:_L.Inv X h σ H s)(hc:X.calm=bT)(hq:gF X.K H p ys\/mq X.K H p ys){Q:bx->b_->Prop}{E:bx->b_->Prop}(k:∀(it:ce)(g:List bx)(e:b_)(St:Nat->ej->Prop),Vals ys g->Walks X.prog X.w X.A.in1 it [it,p] [it] g.toArray.size (λi v=>g.toArray[i]?=a7 v) St->St 0 e.heap->(∀ b ∈[it,p],b<e.heap.objs.size)->(∀h' tk,(∀b o,b∉[it]->e.heap.get? b=a7 o->h'.get? b=a7 o)->_L.Inv X h σ H {e with heap:=h',toks:=tk})->Q (.ref it) e):cz (cK X.prog X.w) X.A.in1 (pyIter (.ref p)) Q E s:=by
 have q:X.A.in1.handled=none:=I.ok.hd hc;rcases hq with hq|hq
 . obtain⟨g,m,f,hz⟩:=I.list hq;have f:=f.isList;have j:p<s.heap.objs.size:=by obtain⟨o,h1,_⟩:=f;exact du h1
   refine gy f (k s.heap.objs.size g _ _ m (Walks.list q s.heap.objs.size p (ec j) g.toArray) ⟨⟨_,cy _ rfl,rfl,rfl⟩,?_⟩ ?_ λh' tk kp=>?_);.obtain⟨o,h1,n⟩:=f;exact⟨o,eG h1,n⟩
   . intro b l;obtain⟨o,h1,_⟩:=f;simp at l;rcases l with rfl|rfl;.exact du (cy _ rfl)
     .exact du (eG h1)
   .exact I.kept (λb o z=>kp b o (by simp;exact ec (du z)) (eG z))
 . obtain⟨g,m,f,hz⟩:=I.tuple hq;have j:p<s.heap.objs.size:=by obtain⟨o,h1,_⟩:=f;exact du h1
   refine hE f (k s.heap.objs.size g _ _ m (Walks.tuple q s.heap.objs.size p (ec j) g.toArray) ⟨⟨_,cy _ rfl,rfl,rfl⟩,?_⟩ ?_ λh' tk kp=>?_);.obtain⟨o,h1,n⟩:=f;exact⟨o,eG h1,n⟩
   . intro b l;obtain⟨o,h1,_⟩:=f;simp at l;rcases l with rfl|rfl;.exact du (cy _ rfl)
     .exact du (eG h1)
   .exact I.kept (λb o z=>kp b o (by simp;exact ec (du z)) (eG z))
theorem qu(ns:List Int):∀k,k<=ns.length->preSum (λi=>ns.getD i 0) k=(ns.take k).sum|0,_=>by simp[preSum]|k+1,h=>by rw[preSum,qu ns k (by omega),List.take_succ,List.sum_append];simp[jv,show k<ns.length by omega]
theorem Tg(hc:X.calm=bT):dY X (.builtin "sum") (QM X.K λx=>blt .sum [x]):=by
 rintro g s σ H xs h Q I r⟨x,o,F,d,q,sm,t,he,k⟩;obtain⟨ns,w,he⟩:=map_some (show((items d).bind λj=>j.mapM je).map _=a7 q from he);subst he;obtain⟨j,y,z⟩:=cH w;obtain⟨p,ys,rfl,A,l⟩:=t.items sm y;rw[uz z]at l;have B:=j9 l;subst o;obtain⟨u,rfl,C⟩:=r.one;cases C;refine call_sum_walkG (walked I hc A λit h m St n W h0 E kp=>?_);subst B;have f:h.toArray.size=ns.length:=by rw[cE,<-n.length,ef]
 refine⟨it,_,_,_,_,St,λi=>ns.getD i 0,rfl,W,h0,E,λi v e=>xH n e,λh' tk t' kk=>?_⟩;rw[f,qu ns _ (dU),List.take_length];exact⟨.int _,H,kp h' tk kk,⟨t',rfl⟩,cM.dC sm (bW _) k⟩
theorem Mm{ns:List Int}{m:Int}(k:ns.min?=a7 m):ns.getD (argBest (λi j=>decide (ns.getD i 0<ns.getD j 0)) (ns.length-1)) 0=m:=by
 have h:ns≠[]:=by rintro rfl;simp at k
 have r:0<ns.length:=List.length_pos_iff.mpr h;obtain⟨h1,n⟩:=argBest_lt (λi=>ns.getD i 0) (ns.length-1);have l:=pz.mp k;generalize argBest (λi j=>decide (ns.getD i 0<ns.getD j 0)) (ns.length-1)=j at*;have o:j<ns.length:=by omega
 have f:ns.getD j 0∈ns:=by simp[jv,o]
 obtain⟨q,p,e⟩:=List.getElem_of_mem l.1;have g:=n q (by omega);simp only[jv,fS p,Option.getD_some]at g;rw[e]at g;have s:=l.2 _ f;have g:ns.getD j 0<=m:=g;omega
theorem Us(hc:X.calm=bT):dY X (.builtin "min") (QM X.K λx=>blt .Nv [x]):=by
 rintro j s σ H xs l Q I r⟨x,z,F,d,A,sm,B,he,k⟩;obtain⟨ns,C,he⟩:=cH (show((items d).bind λn=>n.mapM je).bind _=a7 A from he);obtain⟨m,o,he⟩:=map_some he;subst he;obtain⟨n,E,G⟩:=cH C;obtain⟨p,ys,rfl,J,q⟩:=B.items sm E;rw[uz G]at q;have L:=j9 q;subst z;obtain⟨u,rfl,M⟩:=r.one;cases M;refine call_min_walk (walked I hc J λit l w St h W h0 N kp=>?_);subst L;have f:l.toArray.size=ns.length:=by rw[cE,<-h.length,ef]
 have g:0<ns.length:=by cases ns with|nil=>simp at o|cons _ _=>simp
 refine⟨it,_,_,_,_,St,_,rfl,W,h0,N,by rw[f];exact g,CmpOf.ints_lt (λi=>ns.getD i 0) (λi v e=>xH h e),λv h' tk y kk=>?_⟩;rw[f]at y;obtain⟨t,rfl⟩:=xH h y;rw[Mm o];exact⟨.int _,H,kp h' tk kk,⟨t,rfl⟩,cM.dC sm (bW _) k⟩
theorem boot_sum:eP "sum"=a7 (.builtin "sum"):=by decide+kernel
theorem mH{x:Str}{p':Pos}(e:x="sum")(hc:X.calm=bT)(f:Gl X x)(g:X.mg x=none)(i:SX X c a pa)(hs:cv [a] X.env=(a_,er a X.env)::cv [] X.env:=by rfl):SX X c (.Call (.Name x p') [a] [] pos) (.blt .sum [pa]):=by subst e;exact qp (λh=>dq (Tg hc) f g boot_sum h (he:=hs)) i (λρ=>rfl) rfl hs
theorem Ou{x:Str}{p':Pos}(e:x="min")(hc:X.calm=bT)(f:Gl X x)(g:X.mg x=none)(i:SX X c a pa)(hs:cv [a] X.env=(a_,er a X.env)::cv [] X.env:=by rfl):SX X c (.Call (.Name x p') [a] [] pos) (.blt .Nv [pa]):=by subst e;exact qp (λh=>dq (Us hc) f g boot_min h (he:=hs)) i (λρ=>rfl) rfl hs
end
end _H
namespace _H
open PySem
section
variable{i j:Int}{ds es:List D}{d:D}{b b':Bool}
@[simp]theorem adn:uK .shl=JB:=rfl
@[simp]theorem ac7:uK .shr=KJ:=rfl
@[simp]theorem abL:uK .band=Cq:=rfl
@[simp]theorem YK:JB (.int i) (.int j)=if 0<=j/\j<=1000/\i.natAbs<18446744073709551616 then a7 (.val (.int (i*2^j.toNat)))else none:=rfl
@[simp]theorem Zq:KJ (.int i) (.int j)=if 0<=j then a7 (.val (.int (i/2^j.toNat)))else none:=rfl
@[simp]theorem XM:Cq (.int i) (.int j)=a7 (.val (.int (Builtin.bitAnd i j))):=rfl
@[simp]theorem Zf:j8 (.lst ds) (.int i)=if 0<=i/\0<ds.length/\ds.length*i.toNat<=lim then a7 (.own (cp i.toNat ds).flatten)else none:=rfl
@[simp]theorem YF:j8 (.tup ds) (.int i)=if 0<=i/\0<ds.length/\ds.length*i.toNat<=lim then a7 (.val (.tup (cp i.toNat ds).flatten))else none:=rfl
@[simp]theorem afp:cm .isT (.bl b) (.bl bT)=a7 b:=rfl
@[simp]theorem acV:cm .ab3 (.bl b) (.bl bT)=a7 (!b):=rfl
@[simp]theorem adA:blt .sum [.lst ds]=(ds.mapM je).map λns=>.val (.int ns.sum):=rfl
@[simp]theorem abJ:blt .Nv [.lst ds]=(ds.mapM je).bind λns=>ns.min?.map λi=>.val (.int i):=rfl
end
@[simp]theorem afy:type_of%@_H.X16:=@_H.X16
@[simp]theorem afr:type_of%@_H.X17:=@_H.X17
@[simp]theorem af4:type_of%@_H.X18:=@_H.X18
theorem iH{ns:List Int}:(ns.map D.int).mapM je=a7 ns:=by induction ns with|nil=>rfl|cons n ns a=>simp[a]
@[simp]theorem ZD{ns:List Int}:ns.mapM (je ∘ D.int)=a7 ns:=by rw[<-iH (ns:=ns),List.mapM_map]
@[simp]theorem abF{bs:List Bool}:bs.mapM (Gb ∘ D.bl)=a7 bs:=by induction bs with|nil=>rfl|cons b bs a=>simp[a]
theorem acT{S:List Int}{i:Int}:((S.map D.int).any λy=>mG y (.int i))=S.contains i:=by induction S with|nil=>rfl|cons s S a=>rw[de,l8,lA,a,pqi];rw[show(s==i)=(i==s)from Bool.eq_iff_iff.mpr ⟨λh=>by simp at h ⊢;exact h.symm,λh=>by simp at h ⊢;exact h.symm⟩]
theorem abh{S:List Int}:(S.map D.int).all flat=bT:=by rw[fw];intro d hd;obtain⟨i,_,rfl⟩:=df.mp hd;rfl
theorem rO{n:Nat}{S:List Int}:jZ (n+1) (.lst (S.map D.int))=bT:=by rw[bG,fw];intro d hd;obtain⟨i,_,rfl⟩:=df.mp hd;cases n<;>rfl
theorem tO:∀{S T:List Int},lY (S.map D.int) (T.map D.int)=(S==T)|[],[]=>by simp[mJ,jy,tU,su]|[],_::_=>by simp[mJ,jy,tU,su]|_::_,[]=>by simp[mJ,jy,tU,su]|s::S,t::T=>by rw[de,de,jy,tO,pqi];rfl
theorem acF{S T:List Int}:cm .eq (.lst (S.map D.int)) (.lst (T.map D.int))=a7 (S==T):=by show JV _ _=_;unfold JV;rw[rO,rO,pql,tO];rfl
theorem QD{S T:List Int}:cm .ne (.lst (S.map D.int)) (.lst (T.map D.int))=a7 (!(S==T)):=by show Ju _ _=_;unfold Ju;rw[rO,rO,pql,tO];rfl
theorem QV{S:List Int}:cm .ne (.lst (S.map D.int)) (.lst [])=a7 (!S.isEmpty):=by rw[show(.lst []:D)=.lst (([]:List Int).map D.int)from rfl,QD];cases S<;>rfl
theorem gP{a:Type}{l:List a}{f:a->D}{k:Nat}{x:a}(h:l[k]?=a7 x):at' (l.map f) (k:Int)=a7 (f x):=by have b:=(fu h).1;rw[JX (by simpa using b),eV,h];rfl
theorem WD{n k:Nat}(h:k<n):jm n (k:Int)=a7 k:=by unfold jm;rw[if_pos (by omega),if_pos (by omega)];simp
theorem oA{is:List Nat}{one:Bool}{body:List Sl->Res Fl}{g:Nat->D}{N:Nat}(J:Nat->List Sl->Prop){Q:Fl->List Sl->Prop}(c:∀i ρ,i<N->J i ρ->∃a,cA ρ is one (g i)=a7 a/\(body a).sat (fQ (J (i+1)) Q))(f:∀ρ,J N ρ->Q .next ρ){ρ:List Sl}(h0:J 0 ρ):(jM is one body ((dL N).map g) ρ).sat Q:=by
 refine bO (λr ρ=>∃i,i<=N/\r=((dL N).map g).drop i/\J i ρ) ?_ ?_ ⟨0,uO,rfl,h0⟩
 . rintro d r ρ⟨i,hi,e,j⟩;have b:i<N:=by
    rcases Nat.lt_or_ge i N with h|h;.exact h
    .rw[List.drop_eq_nil_of_le (by simpa using h)]at e;cases e
   rw[gz (by simpa using b)]at e;injection e with e1 e2;simp at e1;subst e1;obtain⟨a,h1,k⟩:=c i ρ b j;refine⟨a,h1,k.imp λfl l q=>?_⟩;cases fl with|next=>exact⟨i+1,b,e2,q⟩|cont=>exact⟨i+1,b,e2,q⟩|brk=>exact q|ret v=>exact q
 . rintro ρ⟨i,hi,e,j⟩;have:i=N:=by have m:=congrArg k4 e;simp at m;omega
   subst this;exact f ρ j
inductive A3(a b c:Prop):Prop where|mk(ha:a)(hb:b)(hc:c)
inductive A4(a b c d:Prop):Prop where|mk(ha:a)(hb:b)(hc:c)(hd:d)
inductive A5(a b c d e:Prop):Prop where|mk(ha:a)(hb:b)(hc:c)(hd:d)(he:e)
inductive A6(a b c d e f:Prop):Prop where|mk(ha:a)(hb:b)(hc:c)(hd:d)(he:e)(hf:f)
inductive A7(a b c d e f g:Prop):Prop where|mk(ha:a)(hb:b)(hc:c)(hd:d)(he:e)(hf:f)(hg:g)
inductive A8(a b c d e f g h:Prop):Prop where|mk(ha:a)(hb:b)(hc:c)(hd:d)(he:e)(hf:f)(hg:g)(hh:h)
inductive A9(a b c d e f g h i:Prop):Prop where|mk(ha:a)(hb:b)(hc:c)(hd:d)(he:e)(hf:f)(hg:g)(hh:h)(hi:i)
end _H
namespace _H
open PySem _L Spec PyProof.Rows
section
variable{X:Cx}{c:Call}{n:Nat}{e a b d tg:dc}{p pa pb pd:P}{pos:Pos}
theorem WX{g:TG}{is:List Nat}(he:SX X c e p)(q:PG X tg g)(i:GX X.K (λρ d=>cA ρ is a_ d) g)(hs:kF [tg] e pos.line X.env=eS a_:=by rfl)(s:kG [tg] e X.env=eS none:=by rfl)(h1:(i_ [tg] X.env).map (·.2)=[kH tg X.env]:=by rfl):SS X c n (.Assign [tg] e pos) (.unp is p):=by
 refine cO (My he.ev q hs s h1) ?_;rintro D σ H⟨F,ρ,fl,t,u,e,k⟩;rw[_H.X8]at e;obtain⟨r,f,w,e⟩:=aa e;refine⟨F,ρ,r,f,u,w,λv F1 j s1 x=>?_⟩;obtain⟨l,s2,_,m⟩:=s1.dD x;split at e;.rename_i o hd;obtain⟨y,z,h,e⟩:=aa e;cases e;have A:=aF h;clear h;obtain⟨h,B⟩:=A;rw[hd]at m;exact i v (.tup o) l f _ σ j _ s2.gs m (by show cA f is a_ (.tup o)=_;cases is<;>exact h) λσ' s3=>k l σ' j (s2.trans s3)
 .cases e
end
end _H
namespace _U
open PySem Spec PyProof.Rows
section
variable{prog:da}{w:eg}{A:ek}{E:bx->b_->Prop}{s:b_}
theorem yR{t sl:ce}{a:Array bx}{f g:bx}{lo hi:Option Int}{Q:bx->b_->Prop}(ht:qo s.heap t a)(hs:s.heap.IsSliceOf sl f g .none)(i:ma f lo)(j:ma g hi)(h1:dW a.size 0 lo=0)(k:dW a.size a.size hi=a.size)(h:Q (.ref t) s):cz (cK prog w) A (ke (.ref t) (.ref sl)) Q E s:=by
 obtain⟨os,b,c,l⟩:=id hs;have m:s.TypeIs (.ref sl) "slice":=⟨os,b,c⟩;unfold ke;try with_reducible refine gd ?_
 first|refine bd (cx ?_)|skip
 refine bd (wpAny_sequenceKey ht.typeIs (by decide) (bd (fx (name:=iK "__getitem__") ht.typeIs slot_tuple_getitem (gS slot_tuple_getitem ht.typeIs entry_tuple_getitem ?_ (args_tuple_getitem _ _)))));show cz _ _ (tupleItemsOf (.ref t)>>=_) _ _ s;refine bd (tupleItemsOf_ ht (bd (k9 m ?_)));rw[if_pos (by decide)];refine bd (jg hs i j ?_);have e:((((dW a.size 0 lo:Nat):Int)==0&&(1:Int)==1&&(dW a.size a.size hi-dW a.size 0 lo)==a.size)=bT):=by rw[h1,k];simp
 show cz _ _ (if(((dW a.size 0 lo:Nat):Int)==0&&(1:Int)==1&&(dW a.size a.size hi-dW a.size 0 lo)==a.size)=bT then _ else _) _ _ s;rw[if_pos e];unfold Builtin.Tuple.tupleIsExact;refine bd (bd (k9 ht.typeIs (cx ?_)));rw[if_pos (by decide)];exact bd (ko (cx ⟨_,rfl,cx h⟩))
end
end _U
namespace _H
open PySem _L Spec PyProof.Rows
noncomputable def nst:dc->Bool|.Starred _ _=>a_|_=>bT
theorem aV{e:dc}{es:List dc}{env:Env}(h:nst e=bT):cv (e::es) env=(a_,er e env)::cv es env:=by cases e with|Starred a b=>cases h|_=>rw[cv];(intro e p z;cases z)
noncomputable def sY:List Int->List dc->Option (List dc)|[],es=>a7 es|i::is,.Constant (.int j) _ _::es=>if i=j then sY is es else none|_,_=>none
theorem Gr{X:_L.Cx}{c:Call}:∀(is:List Int){es a:List dc}{b:List P},sY is es=a7 a->SA X c a b->SA X c es (is.map (λi=>P.con (.int i))++b)|[],es,a,b,h,r=>by cases h;exact r|i::is,[],a,b,h,r=>by cases h|i::is,e::es,a,b,h,r=>by cases e with
   |Constant v k p=>cases v with
     |int j=>
       replace h:(if i=j then sY is es else none)=a7 a:=h;split at h;.rename_i f;subst f;exact rE aj (Gr is h r) (aV rfl)
       .cases h|_=>cases h
   |_=>cases h
theorem yo{n d:Nat}{o:Option Int}:_U.dW n d o=_H.dW n d o:=by cases o with|none=>rfl|some v=>
   show(if v<0 then(v+(n:Int)).toNat else min v.toNat n)=(if 0<=v then min v.toNat n else(v+n).toNat);by_cases h:0<=v;.rw[if_pos h,if_neg (by omega)]
   .rw[if_neg h,if_pos (by omega)]
theorem Mi{xs:List V}{lo hi:Option Int}:zg xs lo hi=_H.cut xs lo hi:=by unfold zg _H.cut;rw[yo,yo]
theorem aH.cut{K:PySem.W.Frag}{F:Hp}{a:List D}{vs:List V}{lo hi:Option Int}(h:aH K F vs a):aH K F (_H.cut vs lo hi) (_H.cut a lo hi):=by unfold _H.cut;rw[h.length];exact(h.drop _).take _
section
variable{X:Cx}{c:Call}{n:Nat}{e a b:dc}{p pa pb pl ph:P}{pos p2:Pos}{lo hi:Option dc}
noncomputable def ae5(K:PySem.W.Frag):V->Option Int->Option Int->Hp->VK->Prop:=λx lo hi H Q=>∃F d r,aD F H/\fH K F H x d/\Oh d (a7 lo) (a7 hi)=a7 r/\∀v g f,Ext F H g f->cM K g f H v r->Q v f
theorem aba:SlR X (ae5 X.K):=by
 rintro f s σ H x v u w lo hi sl Q I l hs pl m⟨F,d,r,sm,y,he,k⟩;cases d with|lst o=>cases he;obtain⟨a,xs,rfl,j,h⟩:=y.lst sm;refine PQ f s σ H _ v u w lo hi sl Q I l hs pl m ⟨a,xs,rfl,j,λp q=>?_⟩;rw[Mi];exact CK sm h.cut q k|tup o=>
   cases he;obtain⟨a,xs,rfl,j,h,rt⟩:=y.tup sm;by_cases i:_U.dW xs.length 0 lo=0/\_U.dW xs.length xs.length hi=xs.length
   . cases l;obtain⟨t,z,ht,hz⟩:=I.tuple j;have g:t.toArray.size=xs.length:=by rw[cE];exact z.length.symm
     refine⟨"tuple",_,slot_tuple_getitem.lookup,ht.typeIs,_U.yR ht hs pl m (by rw[g];exact i.1) (by rw[g];exact i.2) ⟨.ref a,H,I,rfl,?_⟩⟩;have hc:_H.cut o lo hi=o:=by unfold _H.cut;rw[<-h.length,<-yo,<-yo,i.1,i.2];simp[h.length]
     rw[hc]at k;exact cM.dC sm rt k
   .refine U5 f s σ H _ v u w lo hi sl Q I l hs pl m ⟨a,xs,rfl,j,i,λp q=>?_⟩;rw[Mi];exact CG sm h.cut q k|_=>cases he
noncomputable def SO(X:Cx)(c:Call)(o:Option dc)(p:P):Prop:=∃t,PO X o t/\∀{σ:_L.St}{H F:Hp}{ρ f:List Sl}{d:D}{i:Option Int}{Q:Option Int->Hp->Prop},GS X.K F ρ σ H->cZ (isVar p) (_H.ev c p) ρ=.ok d f->part p d=a7 i->(∀h g,aq X.K F ρ σ H h f σ g->Q i g)->t σ H Q
theorem wV:SO X c none (.con .non):=by refine⟨_,QW,λ{σ H F ρ f d i Q}g e h k=>?_⟩;cases(show a7 none=a7 i from h);have j:(_H.ev c (.con .non) ρ).bind (λr ρ=>.ok r.d ρ)=.ok d f:=e;clear e;rw[_H.E2]at j;cases j;exact k F H (.refl g)
theorem nC(h:SX X c e p)(l:abI p=a_:=by rfl):SO X c (a7 e) p:=by obtain⟨t,h1,m⟩:=h.cZ;refine⟨_,Rq h1,λ{σ H F ρ o d i Q}g e f k=>?_⟩;unfold part at f;rw[l,if_neg (by decide)]at f;obtain⟨j,q,r⟩:=map_some f;cases dm q;subst r;exact m g e λv u w s x=>⟨j,x.int,k u w s⟩
theorem zj{d:D}{x y:Option (Option Int)}{r:R}(h:Oh d x y=a7 r):∃lo hi,x=a7 lo/\y=a7 hi:=by cases x with|none=>cases d<;>cases h|some lo=>cases y with|none=>cases d<;>cases h|some hi=>exact⟨lo,hi,rfl,rfl⟩
theorem m9(ha:SX X c a pa)(hl:SO X c lo pl)(hh:SO X c hi ph):SX X c (.Subscript a (.Slice lo hi none p2) pos) (.slice pa pl ph):=by obtain⟨tl,l1,l2⟩:=hl;obtain⟨th,h1,h2⟩:=hh;cases hv:isVar pa with|none=>refine⟨dN (zc aba ha.ev l1 h1) ?_,λi h=>by cases h⟩;rintro σ H Q⟨F,ρ,r,B,g,e,k⟩;rw[_H.E13,hv]at e;obtain⟨x,C,f,j⟩:=aa e;clear e;have l:(_H.ev c pa ρ).bind (λr ρ=>.ok r.d ρ)=.ok x C:=f;clear f;obtain⟨rx,ac,e1,E⟩:=aa l;clear l;cases E;obtain⟨y,G,I,m⟩:=aa j;clear j;obtain⟨z,J,L,o⟩:=aa m;clear m;obtain⟨e,M⟩:=aF o;clear o;subst M;obtain⟨N,O,q,s⟩:=zj e;rw[q,s]at e;refine⟨F,ρ,rx,_,g,e1,λv F1 H1 s1 rr=>?_⟩;obtain⟨F2,s2,_,rp⟩:=s1.dD rr;refine l2 s2.gs I q λF3 H3 s3=>h2 s3.gs L s λU H4 s4=>?_;have s5:=s2.trans (s3.trans s4);refine⟨U,_,r,s4.gs.sub,.inl ((rp.mono s3.bY).mono s4.bY),e,λv W Y x Z=>?_⟩;exact k v W Y (s5.trans (x.stp s5.gs)) (.later s5 (Z.uo s5.gs))|some i=>refine⟨dN (zc aba (ha.var i hv) l1 h1) ?_,λi h=>by cases h⟩;rintro σ H Q⟨F,ρ,r,B,g,e,k⟩;rw[_H.E13,hv]at e;obtain⟨x0,ae,t,j⟩:=aa e;clear e;obtain⟨E,Dl⟩:=aF t;clear t;subst Dl;obtain⟨y,G,I,m⟩:=aa j;clear j;obtain⟨z,J,L,o⟩:=aa m;clear m;obtain⟨x,af,u,ed⟩:=aa o;clear o;obtain⟨e5,e6⟩:=aF u;clear u;subst e6;obtain⟨e,M⟩:=aF ed;clear ed;subst M;obtain⟨N,O,q,s⟩:=zj e;rw[q,s]at e;obtain⟨v,w,_⟩:=g.pk E;refine⟨v,w,l2 g I q λF3 H3 s3=>h2 s3.gs L s λU H4 s4=>?_⟩;have s5:=s3.trans s4;obtain⟨v',A,pv⟩:=s5.gs.pk e5;rw[w]at A;cases A;refine⟨U,_,r,s4.gs.sub,pv,e,λv W Y x Z=>?_⟩;exact k v W Y (s5.trans (x.stp s5.gs)) (.later s5 (Z.uo s5.gs))
theorem yz{i:Nat}{x:Str}{p':Pos}{op:l_}{sub:Bool}(ho:S9 X op (Y4 λi j=>if sub then i-j else i+j))(t:X.N.Nodup)(hi:X.N[i]?=a7 x)(w:Loc X.env.scope x)(he:SX X c e p)(y:X.fn x=bT\/X.env.scope.names.lookup x=a7 .local:=by first|(left;rfl)|(right;rfl)|assumption):SS X c n (.AugAssign (.Name x p') op e pos) (.aug i sub p):=by
 obtain⟨te,h1,z⟩:=he.cZ;refine cO (Vv t hi w h1 ho y) ?_;rintro D σ H⟨F,ρ,fl,A,g,e,k⟩;rw[_H.X16]at e;obtain⟨Z,B,f,s⟩:=aa e;clear e;obtain⟨C,E⟩:=aF f;clear f;subst E;obtain⟨b0,G,I,o⟩:=aa s;clear s;obtain⟨v,q,J⟩:=g.pk C;refine⟨v,q,z g I λu F1 L s1 M=>?_⟩;split at o;.rename_i h l;obtain⟨O,Q,m,U⟩:=aa o;clear o;cases U;obtain⟨W,e3⟩:=aF m;clear m;have Y:Rep X.K F1 (.int (if sub then h-l else h+l)) (.int (if sub then h-l else h+l)):=bW _;exact⟨h,l,J.int,M.int,k F1 _ L (aq.put (r:=.val (.int _)) s1 Y W)⟩
 .cases o
theorem qU:S9 X .Add (Y4 λi j=>if a_ then i-j else i+j):=V1
theorem rN:S9 X .Sub (Y4 λi j=>if bT then i-j else i+j):=Xp
theorem La{x:Str}{k:Nat}{j f cpos:Pos}(C:X.N[k]?=a7 x)(E:uQ X.env.scope x)(he:SX X c e p)(h:(f.endLine==cpos.line)=bT:=by rfl)(hs:cv [e] X.env=(a_,er e X.env)::cv [] X.env:=by rfl)(i:iA (.Name x j) "extend" X.env (er (.Name x j) X.env)=er (.Name x j) X.env:=by rfl)(l:((gI cpos (cv [e] X.env)).all (λx=>!x.1)&&(o3 cpos (l6 [] X.env)).all (λx=>x.1.isSome)&&decide ([e].length+([]:List kC).length+(if([]:List kC).isEmpty then 0 else 1)<30))=bT:=by rfl)(s:fy (.Call (.Attribute (.Name x j) "extend" f) [e] [] cpos) none pos.line X.env=eS a_:=by rfl)(hd:(x==("__debug__":Str))=a_:=by decide)(t:(x==("__classdict__":Str))=a_:=by decide):SS X c n (.Expr (.Call (.Attribute (.Name x j) "extend" f) [e] [] cpos) pos) (.Ij k p):=by
 refine cO (wQ (KQ plainAttrs_list PySem.F.slot_list_extend PySem.F.type_list_extend HD (dZ C E hd t) (bj he.ev dw hs) i l h hs) s) ?_;rintro D σ H⟨F,ρ,fl,G,g,e,kk⟩;rw[_H.X18]at e;obtain⟨d0,I,m,y⟩:=aa e;clear e;obtain⟨J,L⟩:=aF m;clear m;subst L;obtain⟨r,u,M,o⟩:=aa y;clear y;obtain⟨a,xs,h1,O⟩:=wN g J;refine⟨.ref a,h1,.inl ⟨rfl,xs,O⟩,F,ρ,r,u,g,M,λv F1 H1 s1 Q=>?_⟩;split at o
 . rename_i bb U es q;split at o;.rename_i w;cases o;obtain⟨b1,ys,rfl,W,w3,z,w5,w6⟩:=Q;obtain⟨ad,Y,A,Z,q3,B⟩:=s1.gs.mZ k _ U q rfl;rw[h1]at A;cases A;exact⟨_,b1,Y,ys,rfl,rfl,Z,W,by rw[B.length,z.length];exact w,kk F1 σ _ (s1.trans (s1.gs.mut q h1 (B.append z)))⟩
   .cases o
 .cases o
end
end _H
namespace _L
open PySem Spec PyProof.Rows
section
variable{X:Cx}{tg:dc}
theorem Ac:eP "tuple"=a7 (.type "tuple"):=by decide+kernel
theorem uh:eP "reversed"=a7 (.type "reversed"):=by decide+kernel
end
end _L
namespace _H
open PySem _L Spec PyProof.Rows
section
variable{K:PySem.W.Frag}{F F1 H H1:Hp}{ρ ρ1:List Sl}{σ:_L.St}{ds:List D}{a:ce}
theorem aH.rev:∀{ds:List D}{xs:List V},aH K F xs ds->aH K F xs.reverse ds.reverse|[],_,h=>by rw[h.gV];exact .nil|d::ds,_,h=>by obtain⟨v,r,rfl,h1,b⟩:=h.cL;rw[mT,mT];exact(aH.rev b).append (.cons h1 .nil)
end
end _H
namespace _L
open PySem Spec PyProof.Rows
variable{ch:List ce}{h h' base:ej}{e C:ce}{tb:bx}{outer:List Env}{w:eg}{H:Hp}
noncomputable def lW(h:ej)(e C:ce)(tb:bx):Prop:=∃(o:Obj)(vs:Array bx),h.get? e=a7 o/\o.cls=.ref C/\o.data=.fields vs/\vs[1]?=a7 tb/\o.dict=none
theorem Ha{f:Array bx->Array bx}{o:Obj}:(fq f o).dict=o.dict:=by unfold fq;split<;>rfl
noncomputable def Og(h:ej)(T:ce)(fl:bx):Prop:=∃(o:Obj)(a:Array bx),h.get? T=a7 o/\o.data=.fields a/\a[3]?=a7 fl
noncomputable def QB:bx->List ce|.ref T=>[T]|_=>[]
structure pZ(fs ch:List ce)(h h':ej):Prop where
 keep:∀b o,h.get? b=a7 o->b∉ch->b∉fs->h'.get? b=a7 o
 slot:∀b o,h.get? b=a7 o->b∉ch->∃sl,h'.get? b=a7 {o with slots:=sl}
theorem pZ.trans{fs:List ce}{h1 f:ej}(a:pZ fs ch h h1)(b:pZ fs ch h1 f):pZ fs ch h f:=⟨λx o e g i=>b.keep x o (a.keep x o e g i) g i,λx o e n=>by obtain⟨sl,q⟩:=a.slot x o e n;obtain⟨c,j⟩:=b.slot x _ q n;exact⟨c,j⟩⟩
theorem pZ.more{fs c:List ce}(a:pZ fs ch h h')(s:∀b∈ch,b∈c):pZ fs c h h':=⟨λx o e n=>a.keep x o e λz=>n (s x z),λx o e n=>a.slot x o e λz=>n (s x z)⟩
theorem pZ.of_keep{fs:List ce}(k:∀b o,h.get? b=a7 o->b∉ch->h'.get? b=a7 o):pZ fs ch h h':=⟨λb o e n _=>k b o e n,λb o e n=>⟨o.slots,k b o e n⟩⟩
theorem pZ.set{fs:List ce}(h:ej)(a:ce)(f:Obj->Obj):pZ fs [a] h (h.update a f):=.of_keep λb o e n=>(ea _ _ (by simpa using fN (by simpa using n))).trans e
section
variable{M:oj}{A:ek}{E:bx->b_->Prop}{s:b_}
theorem lW.Qe{l:List Env}(b:lW s.heap e C tb)(c:s.heap.FunFrames base l):e∉frs l:=λf=>by obtain⟨o,vs,h1,_,g,_⟩:=b;obtain⟨_,j,a,i⟩:=c.mem f;rw[h1]at a;cases a;exact i vs g
theorem sy{env:Env}{L:ce}{head:bx}{f:Bool}{Q:Unit->b_->Prop}(p:A.frames=a7 (env::outer))(y:s.heap.FunFrames base (env::outer))(I:env.frame=a7 L)(z:lW s.heap e C tb)(k:∀h' T,s.heap.objs.size<=T->T≠e->pZ (frs (env::outer)) [e] s.heap h'->lW h' e C (.ref T)->Og h' T (i4 L)->Q () {s with heap:=h'}):cz M A (do let a<-frameOf env;let l<-entryPlaceOf L f;let b<-n4 head a .none (i4 L) .none l;setField (.ref e) 1 b) Q E s:=by
 have r:=z.Qe y;obtain⟨J,vs,he,t,hd,h1,u⟩:=z;have hsz:=(f_.mp h1).1;refine bd (wpAny_frameOf_fun p y I λc so=>bd (wpAny_entryPlaceOf λl hpl=>?_));unfold n4 newFields;refine bd (et ?_ (hpl.sizeOk5 _ _ _ _ _));have b1:pZ (frs (env::outer)) [e] s.heap c:=⟨λb o q _ n=>(so.2.1 b n).trans q,λb o q _=>so.2.2 b o q⟩;have g:c.get? e=a7 J:=(so.2.1 e r).trans he;generalize B:({cls:=.type "traceback",dict:=none,data:=.fields ([head,.ref L,.none,i4 L,.none]++(if l.isEmpty then cp 6 dE else l)).toArray}:Obj)=m;have i:=get?_push_of_some (h:=c) m g;refine i3 i hd hsz ?_;have j:c.objs.size≠e:=oQ (du g);have G:=j_ hd (·.setIfInBounds 1 (dr c.objs.size));have v:=ii (fq (·.setIfInBounds 1 (dr c.objs.size))) i (kT G);have x:((c.push m).update e (fq (·.setIfInBounds 1 (dr c.objs.size)))).get? c.objs.size=a7 m:=by rw[ea _ _ (fN j)];exact cy c (by rw[<-B];rfl)
 refine k _ c.objs.size ?_ j (b1.trans ((pZ.of_keep λb o q _=>eG q).trans (pZ.set _ _ _))) ⟨_,_,v,?_,G,by simp[hsz],Ha.trans u⟩ ⟨m,_,x,by rw[<-B],?_⟩;.exact pp so.1.symm
 .rw[Obj.cls_mapFields];exact t
 .first|(simp;done)|(rcases hpl with rfl|⟨_,_,_,_,_,_,_,rfl⟩<;>simp)
theorem vN{env:Env}{L:ce}{Q:Unit->b_->Prop}(m:A.frames=a7 (env::outer))(U:s.heap.FunFrames base (env::outer))(B:env.frame=a7 L)(W:lW s.heap e C tb)(ht:tb=.none\/∃T,tb=.ref T/\T≠e/\Og s.heap T .none)(k:∀h' a,s.heap.objs.size<=a->a≠e->pZ (frs (env::outer)) (e::QB tb) s.heap h'->lW h' e C (.ref a)->Og h' a .none->Q () {s with heap:=h'}):cz M A (nL (.ref e) env) (λ_ s2=>cz M A (mf (.ref e) none) Q E s2) E s:=by
 have fin:∀(p:ej)(a:ce),s.heap.objs.size<=a->a≠e->pZ (frs (env::outer)) (e::QB tb) s.heap p->lW p e C (.ref a)->Og p a (i4 L)->cz M A (mf (.ref e) none) Q E {s with heap:=p}:=by
  intro p a X g b2 Z t2;have i:s.heap.get? a=none:=jS X;obtain⟨o,vs,r,G,u,v,I⟩:=Z;obtain⟨oT,Y,j,l,z⟩:=t2;unfold mf;refine bd (eL r u v ?_);rw[if_pos (show(dr a !=dE)=bT from by simp)];have hsz:=(f_.mp z).1;have hd:=j_ l (·.setIfInBounds 3 ((none:Option ce).elim dE λf=>i4 f));refine i3 j l hsz (k _ a X g ⟨λb y c n f=>?_,λb y c n=>?_⟩ ⟨o,vs,?_,G,u,v,I⟩ ⟨_,_,ii _ j (kT hd),hd,by simp[hsz]⟩)
  . have:a≠b:=by rintro rfl;rw[i]at c;cases c
    rw[ea _ _ this];exact b2.keep b y c n f
  . have:a≠b:=by rintro rfl;rw[i]at c;cases c
    obtain⟨sl,q⟩:=b2.slot b y c n;exact⟨sl,by rw[ea _ _ this];exact q⟩
  .rw[ea _ _ g];exact r
 obtain⟨o,vs,r,G,u,v,I⟩:=id W;unfold nL;simp only[B];refine bd (eL r u v ?_);rcases ht with rfl|⟨T,rfl,J,oT,Y,j,l,z⟩;.rw[if_neg (by decide)];exact sy m U B W λh' a i g b x t=>fin h' a i g b x t
 . rw[if_pos (show(dr T !=dE)=bT from by simp)];refine bd (eL j l z ?_);rw[if_neg (show ¬((dE==i4 L)=bT)from by simp[i4])];refine bd (i3 j l (f_.mp z).1 ?_);have b0:pZ (frs (env::outer)) [T] s.heap (s.heap.update T (fq (·.setIfInBounds 3 dE))):=pZ.set _ _ _;have N:lW (s.heap.update T (fq (·.setIfInBounds 3 dE))) e C (.ref T):=⟨o,vs,by rw[ea _ _ J];exact r,G,u,v,I⟩;have O:(s.heap.update T (fq (·.setIfInBounds 3 dE))).FunFrames base (env::outer):=U.of_keeps λb y c nf=>by
    have:T≠b:=by rintro rfl;rw[j]at c;cases c;exact nf Y l
    exact⟨y,by rw[ea _ _ this];exact c,rfl⟩
   refine sy (s:={s with heap:=s.heap.update T (fq (·.setIfInBounds 3 dE))}) m O B N λh' a i g b x t=>fin h' a ?_ g ((b0.more (by simp[QB])).trans (b.more (by simp))) x t;exact fR (pp (Heap.size_update _ _ _).symm) i
end
structure Fly(old:ej)(H:Hp)(C e:ce)(h:ej):Prop where
 free:H e=none
 new:old.get? e=none
 ex:∃tb,lW h e C tb/\(tb=.none\/∃T,tb=.ref T/\T≠e/\Og h T .none/\H T=none/\old.get? T=none)
noncomputable def yJ(P:da)(w:eg):Iv:=λouter H s E e a=>∃(b:Hp)(C c:ce),e=.ref c/\a.os=s.os/\lm a.gens/\Un (frs outer) [] H b s.heap a.heap/\jX P w b a.heap/\Fly s.heap b C c a.heap/\E e (a7 C) b
theorem pZ.hok{P:da}{fs:List ce}(b:pZ fs ch h h')(o:jX P w H h)(h1:∀c∈fs,H c=none)(f:∀c∈ch,H c=none):jX P w H h':=by
 intro a u e;refine(o a u e).stay (λc v hc q=>b.keep c v q (λz=>?_) λz=>?_) (λc q=>q) λc xs q=>q
 . have:=f c z;rcases hc with rfl|hc;.rw[e]at this;cases this
   .rw[hc]at this;cases this
 . have:=h1 c z;rcases hc with rfl|hc;.rw[e]at this;cases this
   .rw[hc]at this;cases this
section
variable{X:Cx}{pins:List (ce×Obj)}{σ:St}{H:Hp}{s:b_}
theorem gone{fs ex:List ce}{a:Hp}(u:Un fs ex H a h h'){b:ce}(c:b∉ex)(n:h'.get? b=none):h.get? b=none:=by cases q:h.get? b with|none=>rfl|some o=>obtain⟨f,z⟩:=u.there b o q c;rw[n]at z;cases z
theorem xW{b:ce}(h:b∈QB tb):tb=.ref b:=by cases tb with|ref T=>simp[QB]at h;rw[h]|_=>simp[QB]at h
theorem v9{outer:List Env}{a:ce}(I:Inv X pins σ H s)(k:X.ex=[])(t:X.stack=X.env::X.outer/\X.env.frame=a7 X.env.locals)(f:Fly X.s₀.heap H C e s.heap)(L:lW s.heap e C tb)(ht:tb=.none\/∃T,tb=.ref T/\T≠e/\Og s.heap T .none/\H T=none/\X.s₀.heap.get? T=none)(v:s.heap.objs.size<=a)(y:a≠e)(b:pZ (frs X.stack) (e::QB tb) s.heap h')(A:lW h' e C (.ref a))(t':Og h' a .none):Un X.fs [] X.H₀ H X.s₀.heap h'/\jX X.prog X.w H h'/\Fly X.s₀.heap H C e h':=by
 have j:∀c∈e::QB tb,H c=none/\X.s₀.heap.get? c=none:=λc hc=>by
  rcases c_.mp hc with rfl|hc;.exact⟨f.free,f.new⟩
  . have:=xW hc;subst this;rcases ht with z|⟨T,z,_,_,B,E⟩;.cases z
    .cases z;exact⟨B,E⟩
 have l:frs X.stack=X.env.locals::X.fs:=by rw[t.1];simp[frs,t.2,Cx.fs]
 have i:X.s₀.heap.get? X.env.locals=none:=jS I.ok.above;have m:H a=none:=I.hok.fresh v;have G:s.heap.get? a=none:=jS v;have u:=I.base;rw[k]at u;refine⟨⟨λc o q n x _=>?_,λc o q n J _=>?_,λc o q n _=>u.free c o q n (by simp),λc o q _=>?_,u.tups,u.qO,u.uH⟩,b.hok I.hok I.qQ λc hc=>(j c hc).1,⟨f.free,f.new,_,A,.inr ⟨a,rfl,y,t',m,gone u (by simp) G⟩⟩⟩
 . refine b.keep c o (u.keep c o q n x (by simp)) (λz=>?_) (λz=>?_);.rw[(j c z).2]at q;cases q
   . rw[l]at z;rcases c_.mp z with rfl|z;.rw[i]at q;cases q
     .exact x z
 . obtain⟨sl,p⟩:=u.slot c o q n J (by simp);obtain⟨r,g⟩:=b.slot c _ p λz=>by rw[(j c z).2]at q;cases q
   exact⟨r,g⟩
 . obtain⟨M,p⟩:=u.there c o q (by simp);obtain⟨sl,g⟩:=b.slot c _ p λz=>by rw[(j c z).2]at q;cases q
   exact⟨_,g⟩
theorem bA.there{P:da}{a:ce}{o:HO}(x:bA P w H h a o):∃u,h.get? a=a7 u:=by cases o with|lst xs=>obtain⟨_,_,_,_,e⟩:=x;exact⟨_,e⟩|tup xs=>obtain⟨_,_,_,_,e,_⟩:=x;exact⟨_,e⟩|dK kvs=>obtain⟨_,_,_,_,o,_,_,e,_⟩:=x;exact⟨_,e⟩|dT kvs=>obtain⟨_,_,_,_,o,_,_,e,_⟩:=x;exact⟨_,e⟩|set S n=>obtain⟨o,_,_,_,e,_⟩:=x;exact⟨_,e⟩|ins C b fs=>obtain⟨_,_,_,e,_⟩:=x;exact⟨_,e⟩|own y=>obtain⟨_,e⟩:=x;exact⟨_,e⟩|xd fs=>obtain⟨_,⟨_,_,_,e,_⟩,_⟩:=x;exact⟨_,e⟩|uZ lo hi=>obtain⟨_,_,_,e⟩:=x;exact⟨_,e⟩|dD c u=>obtain⟨e,_⟩:=x;exact⟨_,e⟩|TY ps=>exact⟨_,x⟩|met f y=>exact⟨_,x⟩|ext g=>obtain⟨_,⟨_,e⟩,_⟩:=x;exact⟨_,e⟩
theorem jX.none{P:da}{w:eg}{H:Hp}{h:ej}{a:ce}(o:jX P w H h)(n:h.get? a=none):H a=none:=by cases q:H a with|none=>rfl|some u=>obtain⟨v,z⟩:=(o a u q).there;rw[n]at z;cases z
noncomputable def Off(pn:List (ce×Obj))(e:ce)(h:ej):Prop:=∀p∈pn,p.1≠e/\∀C tb,lW h e C tb->tb≠.ref p.1
noncomputable def Ba(X:Cx)(E:XK):Prop:=∀(pins:List (ce×Obj))(σ:St)(H:Hp)(s:b_)(C e:ce),Inv X pins σ H s->Fly X.s₀.heap H C e s.heap->Off X.pn e s.heap->E (.ref e) (a7 C) H->X.xe (.ref e) s
theorem nH{P:da}{K:PySem.W.Frag}{mg:Str->Option bx}{N:List Str}{qual:Str}{scope:iO}{f:ce}{g:bx}{A:ek}{s0:b_}{k:Hp}{E:XK}:Ba (lX (yJ P w) P w K mg base N qual scope f g A outer s0 k E) E:=by intro pins σ H s C e I fl _ q;obtain⟨tb,l,ht⟩:=fl.ex;show cz (cK P w) (A.deeper (kq qual scope s0.heap.objs.size f g)) (leaving (kq qual scope s0.heap.objs.size f g) (.ref e)) (λ_ i=>yJ P w outer k s0 E (.ref e) i) _ s;unfold leaving;refine bd (vN (base:=base) I.ok.frames I.stack rfl l (ht.imp id λ⟨T,a,b,c,_⟩=>⟨T,a,b,c⟩) λh' p m n b o t'=>?_);obtain⟨u,ok,j⟩:=v9 (outer:=outer) I rfl ⟨rfl,rfl⟩ fl l ht m n b o t';exact⟨H,C,e,rfl,I.os,I.bare,u,ok,j,q⟩
theorem ji{P:da}{K:PySem.W.Frag}{mg:Str->Option bx}{N:List Str}{qual:Str}{scope:iO}{f:ce}{a:bx}{A:ek}{s0:b_}{b:Hp}{E:XK}:ip (cK P w) (lX (yJ P w) P w K mg base N qual scope f a A outer s0 b E).A (lX (yJ P w) P w K mg base N qual scope f a A outer s0 b E).env (lX (yJ P w) P w K mg base N qual scope f a A outer s0 b E).xe:=PassesOwn.leaving
theorem S5{E:XK}(i:X.ex=[])(y:Ba X E):Passes (yJ X.prog X.w) X E:=by
 rintro pins σ H s e A I⟨k,C,B,he,os,bare,un,ok,fl,q⟩;subst he;obtain⟨l,g,d,t,j⟩:=A;obtain rfl:j=s.os:=os;have G:Inv X pins σ k ⟨l,g,d,t,s.os⟩:=I.call (h':=l) (g':=g) (d':=d) (t':=t) (ch:=[]) un ok bare (λb z=>absurd z (by simp));have m:∀b,s.heap.get? b=none->X.s₀.heap.get? b=none:=λb n=>by cases z:X.s₀.heap.get? b with|none=>rfl|some o=>obtain⟨W,r⟩:=I.base.there b o z (by rw[i];simp);rw[n]at r;cases r
 obtain⟨tb,u,ht⟩:=fl.ex;exact y pins σ k _ C B G ⟨fl.free,m _ fl.new,tb,u,ht.imp id λ⟨T,a,b,c,d',n⟩=>⟨T,a,b,c,d',m _ n⟩⟩ (λp J=>by
  have f:=(I.pin p (fE _ J)).1;refine⟨λz=>?_,λY L M z=>?_⟩;.rw[z,fl.new]at f;cases f
  . obtain⟨o,vs,N,_,O,Q,_⟩:=u;obtain⟨Z,U,r1,_,v,x,_⟩:=M;rw[N]at r1;cases r1;rw[O]at v;cases v;rw[Q]at x;cases x;rcases ht with t|⟨T,t,_,_,_,n⟩;.rw[t]at z;cases z
    .rw[t]at z;cases z;rw[n]at f;cases f) q
theorem Jx{x:Str}{B a b:String}{bm:List bx}{c:Str}{E:XK}{np cpos f pos:Pos}{ck}(hc:X.calm=bT)(i:X.ex=[])(o:Gl X x)(O:mA x C bm a X.mg X.base)(FB:ExcBaseFacts B a b bm)(r:Ba X E)(hd:(x==("__debug__":Str))=a_:=by decide)(he:cv [.Constant (.str c) ck f] X.env=(a_,er (.Constant (.str c) ck f) X.env)::cv [] X.env:=by rfl)(hpl:(gI cpos (cv [] X.env)).any (·.1)=a_:=by rfl):PS X (.Raise (a7 (.Call (.Name x np) [.Constant (.str c) ck f] [] cpos)) none pos) (λ_ _ H=>∀e,E (.ref e) (a7 C) H):=by
 intro pins s σ H D I h;obtain⟨u,N,nm,q,bs,hdct,sn,sub,ab,col,dd,k0,k1,k2,k3,k5,mN,v,y,j,T⟩:=O.obj;refine wpAny_Raise_call_subT (C:=C) (nm:=nm) (q:=q) (N:=N) (bs:=bs) (bm:=u) (hdct:=hdct) (sn:=sn) (sub:=sub) (ab:=ab) (col:=col) (dd:=dd) (k0:=k0) (k1:=k1) (k2:=k2) (k3:=k3) (k5:=k5) FB (mN:=mN) (T.hasType FB.hasBase) (I.ok.hd hc) (by rw[he];exact hpl) j (rQ I o O.bound ⟨rfl,?_⟩ hd);rw[he];have g:Inv X pins σ H {s with toks:=s.toks+1}:=I.tok _;refine kU (iq (Calls.Constant_str (k:=ck) (pos:=f) (ka ⟨rfl,by show 1<=sizeLine;decide,g.bk _ _ v,y.keeps g.bk,T.keeps g.bk,λh' e m=>?_⟩)));have A:Inv X pins σ H {s with heap:=h',toks:=s.toks+1}:=g.kept (t':=s.toks+1) m.keeps;obtain⟨t,ht,_⟩:=m.there;have G:X.s₀.heap.get? e=none:=gone I.base (by rw[i];simp) m.new;exact r pins σ H _ C e A ⟨jX.none I.hok m.new,G,.none,⟨_,_,ht,rfl,rfl,rfl,rfl⟩,.inl rfl⟩ (λp J=>by
  have l:=(I.pin p (fE _ J)).1;refine⟨λz=>?_,λW L M z=>?_⟩;.rw[z,show s.heap.get? e=none from m.new]at l;cases l
  .obtain⟨Y,Q,r1,_,U,n,_⟩:=M;rw[ht]at r1;cases r1;cases U;rw[z]at n;cases n) (h e)
end
section
variable{M:oj}{A:ek}{E:bx->b_->Prop}
theorem uX{g:Array GenState}{d:Drawn}{t:Nat}{os:OsState}{j:ce}{J:Obj}{Q:Bool->b_->Prop}{nm q:Str}{N:ce}{bs bm:List bx}{hdct:Bool}{sn:List Str}{sub:List bx}{ab:Bool}{col:Option Bool}{dd:Option ce}{k0 k1 k2 k3 k5:Option bx}{b:String}{m L:Str}{N':ce}{n c:List bx}{o:Bool}{p:List Str}{r:List bx}{s:Bool}{u:Option Bool}{O:Option ce}{v x y z B:Option bx}{a:String}(U:h.get? C=a7 (rX nm q C N bs bm hdct sn sub ab col dd k0 k1 k2 k3 k5 b))(k:h.get? j=a7 (rX m L j N' n c o p r s u O v x y z B a))(he:h.get? e=a7 J)(l:J.cls=.ref C)(i:c.contains (.type "BaseException")=bT)(G:(dr C::bm).contains (.ref j)=bT)(W:Q bT ⟨h,g,d,t,os⟩):cz M A (excMatches (.ref e) (.ref j)) Q E ⟨h,g,d,t,os⟩:=by
 have I:(dr j::c).contains (.type "BaseException")=bT:=by rw[lA,i,Bool.or_true]
 have f:=tc_notTuple;unfold excMatches;repeat(first|(with_reducible refine wpAny_loadPart_at he ?_;rw[l])|with_reducible refine wpAny_loadPart_at k ?_|(with_reducible refine r_ k ?_;rw[I])|(with_reducible refine r_ U ?_;rw[G])|wp_step)
 exact W
end
noncomputable def Under(h:ej)(C b:ce):Prop:=∃nm q N bs bm hdct sn sub ab col dd k0 k1 k2 k3 k5 a,h.get? C=a7 (rX nm q C N bs bm hdct sn sub ab col dd k0 k1 k2 k3 k5 a)/\(dr C::bm).contains (.ref b)=bT
theorem Under.keeps{f:ce}(u:Under h C f)(k:∀b o,h.get? b=a7 o->h'.get? b=a7 o):Under h' C f:=by obtain⟨nm,q,N,bs,bm,hdct,sn,sub,ab,col,dd,k0,k1,k2,k3,k5,a,g,c⟩:=u;exact⟨nm,q,N,bs,bm,hdct,sn,sub,ab,col,dd,k0,k1,k2,k3,k5,a,k _ _ g,c⟩
noncomputable def yd(X:Cx)(a:List (ce×Obj))(b:bx->b_->Prop):Cx:={X with pn:=X.pn++a,xe:=b}
noncomputable def Gh(X:Cx)(e:ce):Cx:={X with A:=X.A.mark (a7 (.ref e)),calm:=a_}
section
variable{X:Cx}{pins An:List (ce×Obj)}{σ:St}{H:Hp}{s:b_}{wu:bx->b_->Prop}{e:ce}
theorem Jl:X.Ok↔(yd X pins wu).Ok:=⟨λo=>⟨o.mod,o.kind,o.glob,o.blt,o.above,o.inj,o.has,o.cab,o.hd,o.frames,o.Rv,o.XQ,o.bs,o.Ii,o.u0,o.yD,o.lV,o.Nt⟩,λo=>⟨o.mod,o.kind,o.glob,o.blt,o.above,o.inj,o.has,o.cab,o.hd,o.frames,o.Rv,o.XQ,o.bs,o.Ii,o.u0,o.yD,o.lV,o.Nt⟩⟩
theorem Qk:X.Ok->(Gh X e).Ok:=λo=>⟨o.mod,o.kind,o.glob,o.blt,o.above,o.inj,o.has,o.cab,(λz=>by cases z),o.frames,o.Rv,o.XQ,o.bs,o.Ii,o.u0,o.yD,o.lV,o.Nt⟩
theorem Pz(I:Inv X pins σ H s):Inv (yd X pins wu) [] σ H s:=⟨Jl.mp I.ok,I.os,I.bare,I.base,I.loc,I.cell,I.free,I.fZ,λp a=>I.pin p (by simpa[yd]using a),I.hok,I.len⟩
theorem nu(I:Inv (yd X pins wu) An σ H s):Inv X pins σ H s:=⟨Jl.mpr I.ok,I.os,I.bare,I.base,I.loc,I.cell,I.free,I.fZ,λp a=>I.pin p (fE _ a),I.hok,I.len⟩
theorem Nf(I:Inv X pins σ H s):Inv (Gh X e) pins σ H s:=⟨Qk I.ok,I.os,I.bare,I.base,I.loc,I.cell,I.free,I.fZ,I.pin,I.hok,I.len⟩
theorem Inv.but(I:Inv X pins σ H s)(b:pZ (frs X.stack) ch s.heap h')(un:Un X.fs X.ex X.H₀ H X.s₀.heap h')(ok:jX X.prog X.w H h')(nl:X.env.locals∉ch)(nc:∀x c,X.env.cells.lookup x=a7 c->c∉ch)(np:∀p∈X.pn++pins,p.1∉ch):Inv X pins σ H {s with heap:=h'}:=by
 have a:∀x c v,X.env.cells.lookup x=a7 c->s.heap.IsCell c v->h'.IsCell c v:=λx c v hc⟨o,ho,hd⟩=>by obtain⟨sl,q⟩:=b.slot c o ho (nc x c hc);exact⟨_,q,hd⟩
 refine⟨I.ok,I.os,I.bare,un,?_,λx c hc=>?_,I.free,I.fZ,λp g=>?_,ok,I.len⟩;.obtain⟨m,⟨o,es,ep,ho,r⟩,f⟩:=I.loc;obtain⟨sl,l⟩:=b.slot _ o ho nl;refine⟨m,⟨_,es,ep,l,r⟩,λi x v h1 n t=>?_⟩;obtain⟨u,y,lk⟩:=f i x v h1 n t;exact⟨u,y,lk.imp id λ⟨k,c,hc,A⟩=>⟨k,c,hc,a x c _ hc A⟩⟩
 .obtain⟨v,f⟩:=I.cell x c hc;exact⟨v,a x c v hc f⟩
 .obtain⟨p1,p2,p3,j,B⟩:=I.pin p g;exact⟨b.keep _ _ p1 (np p g) λz=>(c_.mp (I.uv _ z)).elim p3 j,p2,p3,j,B⟩
theorem lW.nl(I:Inv X pins σ H s)(x:lW s.heap e C tb):X.env.locals≠e/\∀y c,X.env.cells.lookup y=a7 c->c≠e:=by
 obtain⟨o,vs,h1,_,a,_⟩:=x;refine⟨λz=>?_,λy c hc z=>?_⟩;.obtain⟨m,⟨b,es,ep,ho,r,_⟩,_⟩:=I.loc;rw[z,h1]at ho;cases ho;rw[a]at r;cases r
 .obtain⟨v,b,ho,r⟩:=I.cell y c hc;rw[z,h1]at ho;cases ho;rw[a]at r;cases r
theorem Og.nl{T:ce}{fl:bx}(I:Inv X pins σ H s)(x:Og s.heap T fl):X.env.locals≠T/\∀y c,X.env.cells.lookup y=a7 c->c≠T:=by
 obtain⟨o,vs,h1,a,_⟩:=x;refine⟨λz=>?_,λy c hc z=>?_⟩;.obtain⟨m,⟨b,es,ep,ho,r,_⟩,_⟩:=I.loc;rw[z,h1]at ho;cases ho;rw[a]at r;cases r
 .obtain⟨v,b,ho,r⟩:=I.cell y c hc;rw[z,h1]at ho;cases ho;rw[a]at r;cases r
end
end _L
namespace _H
open PySem _L Spec PyProof.Rows
variable{x:Str}{cl:Nat->ce}
noncomputable def tX(K:PySem.W.Frag)(W:Nat->Hp->Prop)(g:List Sl->Option (Nat×List Sl)):TS:=λ_ σ H=>∃F ρ k a,GS K F ρ σ H/\g ρ=a7 (k,a)/\∀c σ' b,aq K F ρ σ H c a σ' b->W k b
noncomputable def Uy(X:Cx)(c:Call)(n:Nat)(W:Nat->Hp->Prop)(st:ey)(s:S):Prop:=PS X st (tX X.K W (wF c n s))
noncomputable def Tv(X:Cx)(c:Call)(n:Nat)(W:Nat->Hp->Prop)(st:List ey)(s:List S):Prop:=qi X st (tX X.K W (fX c n s))
section
variable{X:Cx}{c:Call}{n:Nat}{W:Nat->Hp->Prop}{e a b tg iter:dc}{p:P}{pos:Pos}{body:List ey}{ss:List S}
theorem abU{st:ey}{t u:TS}(h:PS X st t)(h':PS X st u):PS X st (λD σ H=>t D σ H\/u D σ H):=λf s σ H D I q=>q.elim (h f s σ H D I) (h' f s σ H D I)
theorem aaF{t u:TI}(h:PI X tg iter t)(h':PI X tg iter u):PI X tg iter (λσ H R=>t σ H R\/u σ H R):=λf s σ H R I q=>q.elim (h f s σ H R I) (h' f s σ H R I)
theorem Xk{st:List ey}{t u:TS}(h:qi X st t)(h':qi X st u):qi X st (λD σ H=>t D σ H\/u D σ H):=λf s σ H D I q=>q.elim (h f s σ H D I) (h' f s σ H D I)
theorem dG{st:ey}{s:S}(h:∀ρ,wF c n s ρ=none:=by intro _;rfl):Uy X c n W st s:=cO zp λD σ H⟨F,ρ,k,ρ',g,e,q⟩=>by rw[h]at e;cases e
theorem eX:Tv X c n W [] []:=iz qT λD σ H⟨F,ρ,k,ρ',g,e,q⟩=>by rw[fX]at e;cases e
theorem bf{st:ey}{s:S}{sts:List ey}{ss:List S}(h1:SS X c n st s)(i:Uy X c n W st s)(l:Tv X c n W sts ss):Tv X c n W (st::sts) (s::ss):=by refine iz (jj (abU h1 i) l) ?_;rintro D σ H⟨F,ρ,k,f,g,e,q⟩;rw[fX]at e;cases hx:wF c n s ρ with|some x=>rw[hx]at e;cases e;exact .inr ⟨F,ρ,k,f,g,hx,q⟩|none=>rw[hx]at e;dsimp only at e;cases he:ex c n s ρ with|stuck=>rw[he]at e;cases e|exc _ _=>rw[he]at e;cases e|ok fl h=>rw[he]at e;cases fl with|next=>exact .inl ⟨F,ρ,.next,h,g,he,λF1 m t s1=>⟨F1,h,k,f,s1.gs,e,λo j r s2=>q o j r (s1.trans s2)⟩⟩|_=>cases e
theorem MJ{m o:List ey}{r tb:List S}(hc:ST X c e p)(s:Tv X c n W m r)(t:Tv X c n W o tb):Uy X c n W (.If e m o pos) (.ifs p r tb):=by
 refine cO (Eo hc s t) ?_;rintro D σ H⟨F,ρ,k,i,g,e,q⟩;rw[wF]at e;split at e;.rename_i x f u;refine⟨F,ρ,x,f,g,u,λF1 v s1=>?_⟩;cases x with|true=>exact⟨F1,f,k,i,s1.gs,by simpa using e,λj h l s2=>q j h l (s1.trans s2)⟩|false=>exact⟨F1,f,k,i,s1.gs,by simpa using e,λj h l s2=>q j h l (s1.trans s2)⟩
 .cases e
theorem Jb{C:ce}{B f h:String}{bm:List bx}{i:Str}{E:XK}{np cpos l:Pos}{ck}{kk:Nat}(hc:X.calm=bT)(j:X.ex=[])(m:Gl X x)(O:mA x C bm f X.mg X.base)(FB:ExcBaseFacts B f h bm)(o:Ba X E)(r:∀H,W kk H->∀e,E (.ref e) (a7 C) H)(hd:(x==("__debug__":Str))=a_:=by rfl):Uy X c n W (.Raise (a7 (.Call (.Name x np) [.Constant (.str i) ck l] [] cpos)) none pos) (.Aq kk):=by refine cO (Jx hc j m O FB o hd (aV rfl) rfl) ?_;rintro D σ H⟨F,ρ,k,s,g,e,q⟩;rw[wF]at e;cases e;exact r H (q F σ H (.refl g))
noncomputable def RX(K:PySem.W.Frag)(c:Call)(W:Nat->Hp->Prop)(p:P)(σ:_L.St)(H:Hp):Prop:=∃F ρ k f,GS K F ρ σ H/\iu c p ρ=a7 (k,f)/\∀h σ' g,aq K F ρ σ H h f σ' g->W k g
noncomputable def XE(X:Cx)(c:Call)(W:Nat->Hp->Prop)(e:dc)(p:P):Prop:=PE X e (λσ H _=>RX X.K c W p σ H)
noncomputable def XI(X:Cx)(c:Call)(W:Nat->Hp->Prop)(tg e:dc)(p:P):Prop:=PI X tg e (λσ H _=>RX X.K c W p σ H)
theorem Oz(h:∀ρ,iu c p ρ=none:=by intro _;rfl):XI X c W tg iter p:=λf s σ H R I⟨F,ρ,k,ρ',g,e,q⟩=>by rw[h]at e;cases e
theorem Kl(h:XE X c W iter p):XI X c W tg iter p:=λf s σ H R I q=>wR h f s σ H R I q
theorem xg{g:TG}{is:List Nat}{one:Bool}(hp:ip (cK X.prog X.w) X.A X.env X.xe)(hc:X.calm=bT)(hi:SI X c tg iter p)(hg:PG X tg g)(Y:GX X.K (λρ d=>cA ρ is one d) g)(hb:SB X c n body ss)(Z:Tv X c n W body ss)(hs:∀x,eN iter X.env x=eS x:=by intro _;rfl)(hx:XI X c W tg iter p:=by exact Oz):Uy X c n W (.For tg iter body [] pos) (.gQ p is one ss):=by refine cO (Cd hp hc (aaF hi hx) hg (Xk hb Z) hs) ?_;rintro D σ H⟨F,ρ,k,o,g0,e,q⟩;rw[wF]at e;cases hx0:iu c p ρ with|some y=>rw[hx0]at e;cases e;exact .inr ⟨F,ρ,k,o,g0,hx0,q⟩|none=>
 rw[hx0]at e;dsimp only at e;split at e
 . rename_i j t e1;obtain⟨⟨k',C⟩,e2,e3⟩:=eT.mp e;cases e3;refine .inl ⟨F,ρ,j,t,g0,e1,λJ F1 H1 w=>?_⟩;have src:∀(i:Nat)(O:Hp)(o:List Sl)(σ':_L.St)(l:Hp),aq X.K F1 t σ H1 O o σ' l->(∀d,j[i]?=a7 d->J.go i l/\∀x oO,J.Oo i l x oO->∃G,Ext O l G oO/\Rep X.K G x d)/\(j.length<=i->J.stop i l):=λi O o σ' l s=>w.src 0 i O o σ' l (by simpa using s);refine⟨λi m v Hi=>∃I h,aq X.K F1 t σ H1 I h v Hi/\m=j.length-i/\i<=j.length/\xm is one (fW c n ss) (fX c n ss) (j.drop i) h=a7 (k',C),⟨_,F1,t,.refl w.gs,rfl,uO,e2⟩,?_⟩;rintro i m v Hi⟨I,h,si,rfl,ae,f⟩;obtain⟨s1,s2⟩:=src i I h v Hi si;by_cases B:i<j.length
   . right;have hd:j[i]?=a7 j[i]:=by simp[B]
     obtain⟨go,step⟩:=s1 _ hd;refine⟨go,λσ' l=>∃m',m'<j.length-i/\∃I h,aq X.K F1 t σ H1 I h σ' l/\m'=j.length-(i+1)/\i+1<=j.length/\xm is one (fW c n ss) (fX c n ss) (j.drop (i+1)) h=a7 (k',C),λσ' l z=>z,λx l y=>?_⟩;obtain⟨F2,ext,rx⟩:=step x l y;have L:=si.trans (ext.stp si.gs);rw[gz B,xm]at f;cases hbd:cA h is one j[i]with|none=>rw[hbd]at f;cases f|some u=>rw[hbd]at f;dsimp only at f;refine Y x _ F2 h u v l _ L.gs rx hbd λaf sb=>?_;have Q:=L.trans sb;cases Yg:fX c n ss u with|some y=>rw[Yg]at f;cases f;exact .inr ⟨F2,u,k',C,Q.gs,Yg,λU M H4 s4=>q U M H4 (w.fin _ _ _ _ (Q.trans s4)).1⟩|none=>rw[Yg]at f;dsimp only at f;cases eb:fW c n ss u with|stuck=>rw[eb]at f;cases f|exc _ _=>rw[eb]at f;cases f|ok N E=>rw[eb]at f;refine .inl ⟨F2,u,N,E,Q.gs,eb,λU M H4 s4=>?_⟩;have Yc:=Q.trans s4;cases N with|next=>exact⟨_,by omega,U,E,Yc,rfl,B,f⟩|cont=>exact⟨_,by omega,U,E,Yc,rfl,B,f⟩|brk=>cases f|ret r=>cases f
   . have ac:j.drop i=[]:=by rw[jW];omega
     rw[ac,xm]at f;cases f
 .cases e
noncomputable def PJ(K:PySem.W.Frag)(cl:Nat->ce)(np:Nat)(f:List Sl->Res R):Sp:=λvs H _ E=>vs.length=np/\∃F args k g,GS K F args (vs.map a7) H/\f args=.exc k g/\∀i σ' h e,aq K F args (vs.map a7) H i g σ' h->E (.ref e) (a7 (cl k)) h
noncomputable def EW(cl:Nat->ce)(W:Nat->Hp->Prop):XK:=λ_ C H=>∃k,C=a7 (cl k)/\W k H
structure iV(Pg:da)(w:eg)(K:PySem.W.Frag)(mg:Str->Option bx)(base:ej)(cl:Nat->ce)(k:Nat)(c:Call)(i:Nat)(x:Str)(np:Nat):Prop where ex:∃fa fd qs,jq Pg w K mg base (yJ Pg w) k fa fd qs (PJ K cl qs.length (c i))/\mg x=a7 (.ref fa)/\keepIn K (.ref fa)=bT/\Binds K fd qs []/\qs.length=np
theorem Fv{c:Call}:∀{ps:List P}{ρ f:List Sl}{as:List Arg},Az c ps ρ=.ok as f->as.length=ps.length:=by intro ps;induction ps with|nil=>intro ρ f as h;rw[Bp]at h;cases h;rfl|cons q k j=>
   intro ρ f as h;rw[ym]at h;split at h;.obtain⟨_,_,_,h⟩:=aa h;obtain⟨xs,g,i,h⟩:=aa h;cases h;simp[j i]
   .obtain⟨_,_,_,h⟩:=aa h;obtain⟨xs,g,i,h⟩:=aa h;cases h;simp[j i]
theorem xP{kk i o np:Nat}{y:Str}{p' h cpos:Pos}{es:List dc}{ps:List P}(r:X.ex=[])(C:Ba X (EW cl W))(G:iV X.prog X.w X.K X.mg X.base cl kk c o y np)(hr:jc kk X.A)(I:X.N.Nodup)(hi:X.N[i]?=a7 x)(J:Loc X.env.scope x)(L:SG X c (e::es) ps)(M:Gl X y:=by rfl)(O:(e::es).length=np:=by rfl)(t:(y==("__debug__":Str))=a_:=by rfl)(he:cv (e::es) X.env=(a_,er e X.env)::cv es X.env:=by exact aV rfl)(hpl:(gI cpos (cv es X.env)).any (·.1)=a_:=by rfl)(u:ps.length=(e::es).length:=by rfl)(hs:fy (.Call (.Name y p') (e::es) [] cpos) (a7 (.Name x h)) pos.line X.env=eS a_:=by rfl)(Q:X.fn x=bT\/X.env.scope.names.lookup x=a7 .local:=by first|(left;rfl)|(right;rfl)|assumption):Uy X c n W (.Assign [.Name x h] (.Call (.Name y p') (e::es) [] cpos) pos) (.asg i (.call o ps)):=by
 obtain⟨fa,fd,z,h1,U,Y,Z,h5⟩:=G.ex;have pe:=wD (p:=p') (pos:=cpos) (E:=EW cl W) h1 hr M U Y Z .nil (S5 r C) L t he hpl;refine cO (o7 I hi J pe hs Q) ?_;rintro D σ H⟨F,ρ,k,ac,g,f,q⟩;rw[wF]at f;unfold iu mV at f;dsimp only at f;split at f
 . rename_i xs v B;split at f
   . rename_i args l;split at f
     . rename_i k' j hc;cases f;refine⟨F,ρ,xs,v,g,B,λvs F1 H1 s1 A=>?_⟩;have m:vs.length=z.length:=by rw[<-A.len,Fv B,u,O,h5]
       show PJ X.K cl z.length (c o) (vs++[]) H1 _ (EW cl W);rw[e_];refine⟨m,F1,args,k,j,args_gs s1.gs A l,hc,λF' σ' H' e2 s=>⟨k,rfl,?_⟩⟩;obtain⟨z1,_⟩:=uw s1 A l s;exact q F' σ H' z1
     .cases f
   .cases f
 .cases f
end
section
variable{Pg:da}{w:eg}{K:PySem.W.Frag}{mg:Str->Option bx}{base:ej}
theorem yh{qual:Str}{st:ey}{f:ce}{fd:gX}{N ps:List Str}{k n:Nat}{c:Call}{d:Fd}(t:jf K x qual st f fd)(S:aN N ps (au st))(h1:d.np=ps.length)(o:d.nn=N.length)(u:∀(cdv:bx)(A:ek)(outer:List Env)(s:b_)(H:Hp)(E:XK)(W:Nat->Hp->Prop),jc k (A.deeper (kq qual (au st) s.heap.objs.size f cdv))->(∀k H,W k H->∀e,E (.ref e) (a7 (cl k)) H)->Tv (lX (yJ Pg w) Pg w K mg base N qual (au st) f cdv A outer s H E) c n W (eY st) d.body):jq Pg w K mg base (yJ Pg w) (k+1) f fd ps (PJ K cl ps.length (λargs=>enter c n d args)):=by
 obtain⟨oc,od,kV,v,J,L,cdv,ct,y,rfl,lk,i⟩:=t.ex;refine Tc lk i S (λvs H Q E h=>h.1) λA outer s H vs Q E hr h=>?_;obtain⟨p,F,args,r,a,g,e,q⟩:=h;refine⟨_,u cdv A outer s H E (λk b=>∀e,E (.ref e) (a7 (cl k)) b) hr (λk b h=>h),?_⟩;replace e:enter c n d args=.exc r a:=e;unfold enter at e;split at e
 . rename_i hc;obtain⟨c1,c2⟩:=hc;have B:=g.more (n:=d.nn-d.np) (τ:=cp (N.length-vs.length) none) (by simp[h1,o,p]);have j:args.length=d.np:=c1;split at e;.cases e
   .cases e
   . split at e;.rename_i M l z;cases e;refine⟨F,_,r,l,B,z,λC σ' b s G=>?_⟩;obtain⟨I,_⟩:=aq.less (m:=d.np) j.symm g (by simp[h1,o,p]) s;exact q C _ b G I
     .cases e
 .cases e
end
section
variable{X:Cx}{c:Call}{n:Nat}
theorem xY{k:Nat}{st:ey}:SS X c n st (.Aq k):=cO zp λD σ H⟨F,ρ,fl,ρ',g,e,q⟩=>by rw[_H.X21]at e;cases e
end
structure vP(K:PySem.W.Frag)(x:Str)(C:ce):Prop where nm:PySem.W.nsIn K cN x=a7 (a7 (.ref C))is:excIn K C [.type "ValueError",.type "Exception",.type "BaseException",.type "object"] "ValueError.__new__"=bT
section
variable{Pg:da}{w:eg}{K:PySem.W.Frag}{mg:Str->Option bx}{base h:ej}
theorem xX{C:ce}(k:K.In h)(ns:h.Ns cN mg)(z:vP K x C):mA x C [.type "ValueError",.type "Exception",.type "BaseException",.type "object"] "ValueError.__new__" mg h:=by
 have y:=z.is;unfold excIn at y;split at y<;>try cases y
 rename_i d1 c1 s1 c;split at y<;>try cases y
 rename_i D1 m1 r s t u b1 v b a;simp only[fk,beq_iff_eq,k_]at y;obtain⟨⟨⟨⟨⟨A,B⟩,o⟩,E⟩,e⟩,p⟩:=y;subst A;subst B;cases c1 with|mk G f q g H i j l m n I=>cases s1 with|mk J=>simp only at b a o e p;subst b;subst o;subst a;exact⟨mg_of k ns z.nm,m1,g,G,H,f,i,j,l,m,n,d1,r,s,t,u,v,_,k _ _ c,.of_isNs (PySem.W.isNs_of_in k e),PySem.W.nsMap_none_of_in k e p,PySem.W.tail_of_in k E⟩
theorem wG{Γ:Tab}{wl i np:Nat}{st:ey}{ps:List Str}(X:K.In h)(G:h.Ns cN mg)(D:cg K x st)(j:ps.length=np)(k:∀(kV g l:bx)(m:Option ce)(cdv ct:bx)(c:List bx),c.length=ps.length->nq (PySem.W.fnOf x x (gW st) (eY st) (au st) .none kV g l m cdv ct) ⟨c,[]⟩=eS (ps.zip c)):iV Pg w K mg base cl 0 (run Γ wl 0) i x np:=by obtain⟨f,fd,a,F⟩:=D.ex;exact⟨f,fd,ps,⟨λvs H Q E s=>s.1,λA outer s H args c vs Q E hr e b v sp=>by obtain⟨_,F,as,r,n,_,z,_⟩:=sp;cases z⟩,mg_of X G a,F.kp,F.binds k,j⟩
theorem yw{Γ:Tab}{wl n i np:Nat}{st:ey}{ps:List Str}{d:Fd}(X:K.In h)(G:h.Ns cN mg)(D:cg K x st)(j:ps.length=np)(b:Γ i=a7 d)(k:∀(kV c l:bx)(m:Option ce)(cdv ct:bx)(g:List bx),g.length=ps.length->nq (PySem.W.fnOf x x (gW st) (eY st) (au st) .none kV c l m cdv ct) ⟨g,[]⟩=eS (ps.zip g))(ok:∀f fd,jf K x x st f fd->jq Pg w K mg base (yJ Pg w) (n+1) f fd ps (PJ K cl np (λargs=>enter (run Γ wl n) wl d args))):iV Pg w K mg base cl (n+1) (run Γ wl (n+1)) i x np:=by
 obtain⟨f,fd,a,F⟩:=D.ex;refine⟨f,fd,ps,?_,mg_of X G a,F.kp,F.binds k,j⟩;have e:run Γ wl (n+1) i=λargs=>enter (run Γ wl n) wl d args:=by funext args;show(match Γ i with|some d=>enter (run Γ wl n) wl d args|none=>.stuck)=_;rw[b]
 rw[e,j];exact ok f fd F
end
theorem KZ{K:PySem.W.Frag}{C:ce}(a:PySem.W.nsIn K cN x=a7 (a7 (.ref C)))(q:excIn K C [.type "ValueError",.type "Exception",.type "BaseException",.type "object"] "ValueError.__new__"=bT):∃C,vP K x C:=⟨C,a,q⟩
end _H
namespace _L
open PySem Spec PyProof.Rows
section
variable{prog:da}{w:eg}{A:ek}{E:bx->b_->Prop}{s:b_}{env:Env}
theorem G9{e C x:ce}{M n:Str}{k:List bx}{U:String}{mg:Str->Option bx}{t:dc}{i:ey}{b:List ey}{pos:Pos}{l:List ExceptHandler}{Q:Flow->b_->Prop}(j:k.contains (.type "BaseException")=bT)(h:cz (cK prog w) (A.mark (a7 (.ref e))) (er t env) (λc a=>c=.ref x/\mA M x k U mg a.heap/\Under a.heap C x/\(∃ B,a.heap.get? e=a7 B/\B.cls=.ref C)/\cz (cK prog w) (A.mark (a7 (.ref e))) (mf (.ref e) none) (λ_ m=>cz (cK prog w) (A.mark (a7 (.ref e))) (qc env n (.ref e)) (λ_ o=>cz (cK prog w) (A.mark (a7 (.ref e))) (execs (i::b) env) (λf p=>cz (cK prog w) A (do nk env n .none;rl env n pos) (λ_ r=>Q f r) E p) (λ_ _=>False) o) (λ_ _=>False) m) (λ_ _=>False) a) (m3 (cK prog w) (A.mark (a7 (.ref e))) env (cameBackBy (cK prog w) A env E)) s):cz (cK prog w) A (handleBy (.ref e) env (.ExceptHandler (a7 t) (a7 n) (i::b) pos::l)) Q E s:=by refine wpAny_handleBy_cons (codeAny_handlers_test (d_ h (λc a u=>?_) λ_ _ y=>y)) (by intro q;cases q);obtain⟨rfl,O,⟨nm,q,N,bs,bm,hdct,sn,sub,ab,col,dd,k0,k1,k2,k3,k5,G,W,H⟩,⟨B,he,v⟩,X⟩:=u;obtain⟨Y,N2,Z,q2,ac,ae,af,J,ag,L,ah,l0,l1,l2,l3,l5,mN,I,hN,hq,T⟩:=O.obj;obtain⟨hh,g,d,tk,os⟩:=a;exact uX W I he v (T.hasType j) H (codeAny_handlers_suite_as (d_ X (λ_ s2 h2=>d_ h2 (λ_ s3 h3=>d_ h3 (λf s4 h4=>h4) λ_ _ z=>z.elim) λ_ _ z=>z.elim) λ_ _ z=>z.elim))
end
noncomputable def qm(X:Cx)(e:ce)(a:Obj):Cx:={X with A:=X.A.mark (a7 (.ref e)),calm:=a_,pn:=X.pn++[(e,a)],xe:=λ_ _=>False}
structure OE(oe:Obj)(C:ce):Prop where
 cls:oe.cls=.ref C
 dict:oe.dict=none
 data:∃vs,oe.data=.fields vs
section
variable{X:Cx}{pins:List (ce×Obj)}{σ:St}{H:Hp}{s:b_}{e:ce}{oe:Obj}
theorem Lg:X.Ok->(qm X e oe).Ok:=λo=>⟨o.mod,o.kind,o.glob,o.blt,o.above,o.inj,o.has,o.cab,(λz=>by cases z),o.frames,o.Rv,o.XQ,o.bs,o.Ii,o.u0,o.yD,o.lV,o.Nt⟩
theorem GZ{C:ce}(I:Inv X pins σ H s)(h1:s.heap.get? e=a7 oe)(b:OE oe C)(c:H e=none)(f:e≠X.env.locals)(g:e∉X.fs):Inv (qm X e oe) pins σ H s:=⟨Lg I.ok,I.os,I.bare,I.base,I.loc,I.cell,I.free,I.fZ,λp h=>by
  have a:p∈(X.pn++[(e,oe)])++pins:=h;rw[eF,eM,eM,dy]at a;rcases a with z|z|z;.exact I.pin p (fE _ z)
  .subst z;refine⟨h1,c,f,g,λv q=>?_⟩;obtain⟨vs,z⟩:=b.data;rw[show(e,oe).2.data=.fields vs from z]at q;cases q
  .exact I.pin p (eI _ z),I.hok,I.len⟩
theorem rP{M:oj}{A:ek}{E:bx->b_->Prop}{i:Nat}{x:Str}{pos:Pos}{Q:Unit->b_->Prop}(I:Inv X pins σ H s)(L:X.N.Nodup)(hi:X.N[i]?=a7 x)(O:X.env.kindOf x=a7 .local)(h:∀C,Inv X pins (σ.set i none) H C->Q () C):cz M A (do nk X.env x .none;rl X.env x pos) Q E s:=by
 obtain⟨m,G,U⟩:=id I.loc;have g:(X.env.scope.kind==.class||(X.env.scope.kind==.module&&X.env.locals !=X.env.globals))=a_:=by rw[I.ok.kind];rfl
 have Ku:=I.Ku;refine wpAny_nameGoes_keeps O G g λh' v t hs=>?_;obtain⟨oL,_,_,W,_⟩:=id G;have a:jX X.prog X.w H h':=λb Y e=>by
  refine(I.hok b Y e).stay (λc J hc q=>(hs.2 c ?_).trans q) (λ_ q=>q) λ_ _ q=>q;rintro rfl;rcases hc with rfl|hc;.rw[I.free]at e;cases e
  .rw[I.free]at hc;cases hc
 refine h _ (Inv.tok (s:={s with heap:=h'}) ⟨I.ok,I.os,I.bare,⟨λb o e n u l=>?_,λb o e n u l=>?_,I.base.free,λb o e l=>?_,I.base.tups,I.base.qO,I.base.uH⟩,⟨_,t,λj y Z f r e3=>?_⟩,λy c e=>?_,I.free,I.fZ,λp hp=>?_,a,by simpa using I.len⟩ _);.exact(hs.2 b (ec (dP (du e) I.ok.above))).trans (I.base.keep b o e n u l)
 .obtain⟨sl,f⟩:=I.base.slot b o e n u l;exact⟨sl,(hs.2 b (ec (dP (du e) I.ok.above))).trans f⟩
 .obtain⟨o',f⟩:=I.base.there b o e l;exact⟨o',(hs.2 b (ec (dP (du e) I.ok.above))).trans f⟩
 . by_cases B:j=i;.subst B;rw[lc]at r;simp at r
   . rw[fY B]at r;obtain⟨u',r',q⟩:=U j y Z f r e3;refine⟨u',r',?_⟩;rcases q with⟨k,e⟩|⟨k,c,e,z⟩;.refine .inl ⟨k,?_⟩;have:y≠x:=λe=>B (rZ L f (e▸hi));simp[this,e]
     .exact .inr ⟨k,c,e,z.sameBut hs (Ku y c e)⟩
 .obtain⟨J,z⟩:=I.cell y c e;exact⟨J,z.sameBut hs (Ku y c e)⟩
 .obtain⟨e,n,ne,nf,d⟩:=I.pin p hp;exact⟨(hs.2 p.1 ne).trans e,n,ne,nf,d⟩
noncomputable def abE(i:Nat)(D:Ends):Ends:=⟨λσ H=>D.nx (σ.set i none) H,D.rt,λσ H=>D.bk (σ.set i none) H,λσ H=>D.ct (σ.set i none) H⟩
end
structure J0(K:PySem.W.Frag)(D:ce):Prop where
 g:findIn K (.ref D) "__getattribute__"=a7 (a7 (.builtin "BaseException.__getattribute__"))h:findIn K (.ref D) "__getattr__"=a7 none
 b:mroIn K D (.type "BaseException")=a7 bT
 c:(clsIn K D).isSome=bT
 a:findIn K (.ref D) "__class__"=a7 (a7 (.builtin "object.__class__"))n:specialIn K (.builtin "object.__class__") "__get__"=a7 (a7 (.builtin "getset_descriptor.__get__"))t:takesIn K (.builtin "object.__class__")=a7 bT
 m:mroIn K D (.type "object")=a7 bT
theorem Hy{K:PySem.W.Frag}{x D:ce}{ox:Obj}{prog:da}{w:eg}{A:ek}{E:bx->b_->Prop}{s:b_}{Q:Option bx->b_->Prop}(Z:J0 K D)(X:K.In s.heap)(I:PySem.W.InstAt s.heap x ox D none)(h:Q (a7 (.ref D)) {s with toks:=s.toks+1}):cz (cK prog w) A (getAttr? (.ref x) "__class__") Q E s:=by
 obtain⟨u,hc⟩:=gx.mp Z.c;have p:findObj K D none "__class__"=a7 (.bind (.builtin "getset_descriptor.__get__") (.builtin "object.__class__")):=by unfold findObj;rw[hc,bind_some,Z.a,bind_some];simp[Z.n,Z.t]
 obtain⟨j,g,d,t,os⟩:=s;have f:=I.type (M:=cK prog w);have q:=PySem.W.looks_findIn (M:=cK prog w) X Z.g;have L2:=PySem.W.looks_findIn (M:=cK prog w) X Z.h;have k:=PySem.W.looks_find (M:=cK prog w) X I p;have l:=PySem.W.looks_mroIn (M:=cK prog w) X Z.b;have i:(Value.builtin "BaseException.__getattribute__"==Value.builtin "object.__getattribute__")=a_:=by decide+kernel
 have f3:=F.excAttr_ValueError.ga.bind (.ref x);unfold getAttr? getAttrBy? getAttrBy;refine bd (wpAny_mkText (bd (kD (gd (bd (f.at (bd (q.at ?_))))))));simp only[i,jx,gE,if_false];unfold getAttrByItsOwn hookBefore;simp only[onTheHeap,if_true];refine bd (L2.at (bd (kD (gd ?_))));unfold callGetattribute;simp only[k8,gE,if_false];unfold boundAndCalled;refine bd (wpAny_of_eq f3 ?_);refine wpAny_call (codeAny_call_builtin F.excAttr_ValueError.ga.plain F.entry_bexc_ga ?_);have r:builtinKind "BaseException.__getattribute__"=a7 .slot:=by decide+kernel
 have e:splitId "BaseException.__getattribute__"=a7 ("BaseException","__getattribute__"):=by decide+kernel
 have y:=F.args_bexc_ga (.ref x) (.str "__class__" t);simp only[checkBuiltinCall,r,e];refine bd ?_;unfold isInstance;repeat(first|with_reducible refine bd (f.at ?_)|with_reducible refine bd (l.at ?_)|with_reducible refine l.at ?_|with_reducible refine f.at ?_|with_reducible refine bd (k.at ?_)|with_reducible refine k.at ?_|wp_step)
 refine PySem.W.class_get (s:=⟨j,g,d,t+1,os⟩) (ox:=ox) (od:=none) X I Z.m ?_;refine cx ?_;first
  |exact handed_on rfl (cx h)|(refine d_ (handed_on (Q:=λv o=>v=.ref D/\o=⟨j,g,d,t+1,os⟩) rfl ⟨rfl,rfl⟩) (λv o z=>?_) (λ_ _ z=>z);obtain⟨rfl,rfl⟩:=z;exact cx h)
  | (repeat(first|wp_step)
     exact h)
theorem Ag{K:PySem.W.Frag}{x D:ce}{ox:Obj}(Z:J0 K D):KitX K (.ref x) (.ref D) (λh=>PySem.W.InstAt h x ox D none)where
 ty:=λ_ _ _ I=>I.type;it:=λ_ _ X _=>by
  obtain⟨b,a⟩:=gx.mp Z.c;unfold clsIn at a;split at a;.rename_i j d' f g ho;intro o p r t k q;unfold isType loadHead;exact bd (wpAny_loadPart (k _ _ (X _ _ ho)) (cx q))
  .cases a
 ne:=λh l dd m n sl X i=>by
  obtain⟨b,a⟩:=gx.mp Z.c;refine Bool.eq_false_iff.mpr λq=>?_;have e:D=l:=Value.ref.inj (beq_iff_eq.mp q);subst e;unfold clsIn at a;split at a;.rename_i j d' f g ho;have z:=(X _ _ ho).symm.trans i;cases z
  .cases a
 ca:=λ{prog w A E Q s}X I h=>Hy Z X I h
end _L
namespace _H
open PySem _L Spec PyProof.Rows
section
variable{K:PySem.W.Frag}{F H F1 H1:Hp}{ρ ρ1:List Sl}{σ σ1:_L.St}
theorem OJ{s:Sl}(h:R9 s=bT):uL s=a_:=by cases s<;>simp_all[R9,uL]
theorem aq.clear(s:aq K F ρ σ H F1 ρ1 σ1 H1)(h:ρ.all R9=bT){σ':_L.St}(e:σ'.length=ρ.length):aq K F ρ σ H F1 (cp ρ.length .aM) σ' H1:=by
 have un:∀{i:Nat}{x:Sl},(cp ρ.length Sl.aM)[i]?=a7 x->x=.aM:=λ{i x}q=>by
  rw[hU]at q;split at q;.cases q;rfl
  .cases q
 refine⟨⟨s.gs.sub,by simp[e],λi b d q=>(by cases un q),λi x c q z=>(by cases un q;cases z),λi j a⟨⟨x,c,q,z⟩,_⟩_=>(by cases un q;cases z)⟩,s.bY,s.yK,s.keep,λb⟨i,⟨x,c,q,z⟩,_⟩=>(by cases un q;cases z),by simp,λi x q l=>?_⟩;have:=OJ (fw.mp h x (dQ q));rw[this]at l;cases l
end
noncomputable def Gd(i:Nat)(e:ce)(σ:_L.St):Prop:=σ[i]?=a7 (a7 (V.ref e))
noncomputable def GB(X:Cx)(i:Nat)(e:ce)(x:dc)(b:Bool):Prop:=PE X x (λσ H Q=>Gd i e σ/\∀a,aD H a->Q (.bl b) a)
noncomputable def GT(X:Cx)(i:Nat)(e:ce)(x:dc)(b:Bool):Prop:=PT X x (λσ H Q=>Gd i e σ/\∀a,aD H a->Q b a)
noncomputable def GW(X:Cx)(i:Nat)(e:ce)(x:dc)(b:Bool):Prop:=PW X x (λσ H Q=>Gd i e σ/\∀a,aD H a->Q b a)
noncomputable def GC(X:Cx)(es:List dc)(cs:List V):Prop:=PA X es (λ_ H Q=>Q cs H)
section
variable{X:Cx}{i:Nat}{e C:ce}{oe:Obj}{pos:Pos}
theorem VF:GC X [] []:=uA dw λ_ _ _ h=>h
theorem gY{y:dc}{es:List dc}{v:V}{cs:List V}(h1:PE X y (tC v))(a:GC X es cs)(hs:cv (y::es) X.env=(a_,er y X.env)::cv es X.env:=by exact aV rfl):GC X (y::es) (v::cs):=uA (bj h1 a hs) λ_ _ _ h=>h
variable{x:dc}{b:Bool}
theorem JS(h:GB X i e x b)(he:∀a,isTrue x X.env a=(do let v<-a;qE x.pos;kc [v] (truthy v)):=by intro _;rfl):GT X i e x b:=by intro c s σ H Q I q;exact Jq h he c s σ H Q I ⟨q.1,λf sm=>⟨b,rfl,q.2 f sm⟩⟩
theorem JF(h:GT X i e x b):GT X i e (.UnaryOp .Not x pos) (!b):=by intro a s σ H Q I q;exact JR h a s σ H Q I ⟨q.1,λc sm=>q.2 c sm⟩
theorem GW.gt(h:GW X i e x b):GT X i e x b:=PW.pt h
end
theorem QG{c:Call}{n:Nat}{s:S}{ρ a:List Sl}{fl:Fl}(h:fW c n [s] ρ=.ok fl a):ex c n s ρ=.ok fl a:=by rw[fW]at h;cases hx:ex c n s ρ with|ok fl b=>rw[hx]at h;cases fl<;>simp[Res.bind,fW]at h<;>simp[h]|exc _ _=>rw[hx]at h;cases h|stuck=>rw[hx]at h;cases h
section
variable{X:Cx}{c:Call}{n i:Nat}{e C:ce}{oe:Obj}{pos:Pos}
variable{cl:Nat->ce}{kk:Nat}{st:List ey}
theorem wI{x:Str}{C g:ce}{bm:List bx}{f:String}{mg:Str->Option bx}{h:ej}{K:PySem.W.Frag}(qZ:K.In h)(O:mA x C bm f mg h)(m:mroIn K C (.ref g)=a7 bT):Under h C g:=by
 obtain⟨bm,N,nm,q,bs,hdct,sn,sub,ab,col,dd,k0,k1,k2,k3,k5,mN,j,_⟩:=O.obj;refine⟨nm,q,N,bs,bm,hdct,sn,sub,ab,col,dd,k0,k1,k2,k3,k5,_,j,?_⟩;unfold mroIn at m;obtain⟨o,a,b⟩:=nV.mp m;unfold clsIn at a;split at a
 . rename_i p d' k l ho;cases a;have z:=(qZ _ _ ho).symm.trans j;cases z;split at b;.cases b
   .exact ez b
 .cases a
variable{body:List ey}{ss:List S}
end
section
variable{X:Cx}{c:Call}{n:Nat}{W:Nat->Hp->Prop}{e:dc}{pos:Pos}
theorem Mw{cl:Nat->ce}{kk l np:Nat}{y:Str}{p' cpos:Pos}{es:List dc}{ps:List P}(m:X.ex=[])(z:Ba X (EW cl W))(B:iV X.prog X.w X.K X.mg X.base cl kk c l y np)(hr:jc kk X.A)(C:SG X c (e::es) ps)(G:Gl X y:=by rfl)(I:(e::es).length=np:=by rfl)(o:(y==("__debug__":Str))=a_:=by rfl)(he:cv (e::es) X.env=(a_,er e X.env)::cv es X.env:=by exact aV rfl)(hpl:(gI cpos (cv es X.env)).any (·.1)=a_:=by rfl)(r:ps.length=(e::es).length:=by rfl):∃te:TE,PE X (.Call (.Name y p') (e::es) [] cpos) te/\∀σ H Q,(∃F ρ k b,GS X.K F ρ σ H/\iu c (.call l ps) ρ=a7 (k,b)/\∀t σ' j,aq X.K F ρ σ H t b σ' j->W k j)->te σ H Q:=by
 obtain⟨Z,fd,v,h1,J,L,M,N⟩:=B.ex;have O:=wD (p:=p') (pos:=cpos) (E:=EW cl W) h1 hr G J L M .nil (S5 m z) C o he hpl;refine⟨_,O,?_⟩;rintro σ H Q⟨F,ρ,k,b,g,a,q⟩;unfold iu mV at a;dsimp only at a;split at a
 . rename_i xs u x;split at a
   . rename_i args h;split at a
     . rename_i k' f hc;cases a;refine⟨F,ρ,xs,u,g,x,λvs F1 U s1 A=>?_⟩;have i:vs.length=v.length:=by rw[<-A.len,Fv x,r,I,N]
       show PJ X.K cl v.length (c l) (vs++[]) U _ (EW cl W);rw[e_];refine⟨i,F1,args,k,f,args_gs s1.gs A h,hc,λt σ' j e2 s=>⟨k,rfl,?_⟩⟩;obtain⟨Y,_⟩:=uw s1 A h s;exact q t σ j Y
     .cases a
   .cases a
 .cases a
end
end _H
namespace _H
open PySem _L Spec PyProof.Rows
theorem gD{C:ce}:∀u,RelV (V.ref C) u->u=dr C:=λ_ r=>r
theorem Xr{n:String}:∀u,RelV (V.ty n) u->u=gJ n:=λ_ r=>r
theorem Qq:∀a,Vals [] a->a=[]:=λa h=>h.zero
theorem fO{c:V}{b:bx}{cs:List V}{e:List bx}(h:∀u,RelV c u->u=b)(f:∀a,Vals cs a->a=e):∀a,Vals (c::cs) a->a=b::e:=λa v=>by cases v with|cons r g=>rw[h _ r,f _ g]
theorem K3{K:PySem.W.Frag}{t:bx}:kitAny K t []=a7 a_:=rfl
theorem jO{K:PySem.W.Frag}{t c:bx}{r:List bx}{b:Bool}(h:kitOne K t c=a7 a_)(a:kitAny K t r=a7 b):kitAny K t (c::r)=a7 b:=by rw[kitAny,h];exact a
theorem Cr{X:Cx}{E:XK}{cl:Nat->ce}{W:Nat->Hp->Prop}(h:Ba X E)(b:∀k H,W k H->∀e,E (.ref e) (a7 (cl k)) H):Ba X (EW cl W):=λa σ H s C e I f o⟨k,hC,hw⟩=>h a σ H s C e I f o (by cases hC;exact b k H hw e)
section
variable{K:PySem.W.Frag}{x y:Str}{C C2:ce}{b:Bool}{T:String}
noncomputable def eO(K:PySem.W.Frag)(x:Str)(C:ce):Prop:=PySem.W.nsIn K cN x=a7 (a7 (.ref C))
theorem eO.uniq(h:eO K x C)(a:eO K x C2):C=C2:=by have:=h.symm.trans a;cases this;rfl
theorem sZ(a:PySem.W.nsIn K cN x=a7 (a7 (.ref C))):∃C,eO K x C:=⟨C,a⟩
theorem Wc(h:∃C,vP K x C)(n:eO K x C):vP K x C:=by obtain⟨a,z⟩:=h;have e:a=C:=eO.uniq z.nm n;subst e;exact z
theorem afk(a:PySem.W.nsIn K cN x=a7 (a7 (.ref C)))(g:findIn K (.ref C) "__getattribute__"=a7 (a7 (.builtin "BaseException.__getattribute__")))(h:findIn K (.ref C) "__getattr__"=a7 none)(c:mroIn K C (.type "BaseException")=a7 bT)(f:findIn K (.ref C) "__class__"=a7 (a7 (.builtin "object.__class__")))(n:specialIn K (.builtin "object.__class__") "__get__"=a7 (a7 (.builtin "getset_descriptor.__get__")))(t:takesIn K (.builtin "object.__class__")=a7 bT)(m:mroIn K C (.type "object")=a7 bT):∃C,eO K x C/\J0 K C:=by refine⟨C,a,g,h,c,?_,f,n,t,m⟩;unfold mroIn at m;obtain⟨e,hc,_⟩:=nV.mp m;rw[hc];rfl
theorem ae6(h:∃C,eO K x C/\J0 K C)(n:eO K x C):J0 K C:=by obtain⟨a,z,q⟩:=h;have e:a=C:=eO.uniq z n;subst e;exact q
theorem afm(a:PySem.W.nsIn K cN x=a7 (a7 (.ref C)))(c:PySem.W.nsIn K cN y=a7 (a7 (.ref C2)))(m:mroIn K C (.ref C2)=a7 bT):∃C C2,eO K x C/\eO K y C2/\mroIn K C (.ref C2)=a7 bT:=⟨C,C2,a,c,m⟩
theorem af6(h:∃C C2,eO K x C/\eO K y C2/\mroIn K C (.ref C2)=a7 bT)(n:eO K x C)(c:eO K y C2):mroIn K C (.ref C2)=a7 bT:=by obtain⟨f,a,z,g,q⟩:=h;have e:f=C:=eO.uniq z n;have i:a=C2:=eO.uniq g c;subst e i;exact q
theorem uT(a:PySem.W.nsIn K cN x=a7 (a7 (.ref C)))(c:PySem.W.nsIn K cN y=a7 (a7 (.ref C2)))(m:kitOne K (.ref C) (.ref C2)=a7 b):∃C C2,eO K x C/\eO K y C2/\kitOne K (.ref C) (.ref C2)=a7 b:=⟨C,C2,a,c,m⟩
theorem uY(h:∃C C2,eO K x C/\eO K y C2/\kitOne K (.ref C) (.ref C2)=a7 b)(n:eO K x C)(c:eO K y C2):kitOne K (.ref C) (.ref C2)=a7 b:=by obtain⟨f,a,z,g,q⟩:=h;have e:f=C:=eO.uniq z n;have i:a=C2:=eO.uniq g c;subst e i;exact q
theorem afw(a:PySem.W.nsIn K cN x=a7 (a7 (.ref C)))(m:kitOne K (.ref C) (.type T)=a7 b):∃C,eO K x C/\kitOne K (.ref C) (.type T)=a7 b:=⟨C,a,m⟩
theorem agk(h:∃C,eO K x C/\kitOne K (.ref C) (.type T)=a7 b)(n:eO K x C):kitOne K (.ref C) (.type T)=a7 b:=by obtain⟨a,z,q⟩:=h;have e:a=C:=eO.uniq z n;subst e;exact q
end
end _H
namespace PySem
namespace F
theorem Jc:oC (.type "list_reverseiterator") "__len__"=eS none:=by rw[typeLookup_type,rh];kernel_rfl
theorem O6:oC (.type "list_reverseiterator") "__length_hint__"=eS (a7 (.builtin "list_reverseiterator.__length_hint__")):=by rw[typeLookup_type,rh];kernel_rfl
end F
section
variable{prog:da}{w:eg}{A:ek}{E:bx->b_->Prop}{s:b_}
theorem qG{it l:ce}{items:Array bx}{Q:Bool->b_->Prop}(e:s.heap.IsRevIter it l ((items.size:Int)-1))(k:s.heap.IsList l items)(i:items.size<=2^24)(h:∀b tk,s.toks<=tk->Q b {s with toks:=tk}):cz (cK prog w) A (listLengthHint (.ref it)) Q E s:=by
 have f:=e.typeIs;unfold listLengthHint;refine bd (oo f F.Jc ?_);show cz _ _ (specialOf (dr it) (iK "__length_hint__")>>=_) _ _ _;refine bd (oo f F.O6 ?_);generalize a:("list_reverseiterator.__length_hint__":String)=c;(fail_if_success(clear a c));wp_delta;rw[show splitId c=a7 ("list_reverseiterator","__length_hint__")from by subst a;decide+kernel];subst a;refine bd (wpAny_isInstance (b:=bT) f (by rw[isSubtype_type];kernel_rfl) ?_);rw[if_neg (by decide)];dsimp only;split;.refine wpAny_ite_split (λg=>absurd g (by decide+kernel)) (λ_=>?_);exact cx (h _ s.toks (dU))
 .rename_i j;exact absurd (by decide+kernel) j
theorem nY{R:Result->b_->Prop}{I l:ce}{items:Array bx}(O:A.handled=none)(j:s.heap.IsRevIter I l ((items.size:Int)-1))(C:s.heap.IsList l items)(G:l≠I)(u:items.size<=2^24)(S:ce)(m:S≠I)(x:S≠l)(res:bx)(k:Nat)(H:s.heap.get? S=a7 {cls:=.type "list",data:=.seq #[] k})(Q:∀ h' tk a t,(∀ b o,b ≠ S->b ≠ I->s.heap.get? b=a7 o->h'.get? b=a7 o)->h'.get? S=a7 {cls:=.type "list",dict:=none,data:=.seq a t,slots:=#[]}->ItemsOf (λi v=>items[items.size-1-i]?=a7 v) a items.size->R (.ok (.ret res)) {s with heap:=h',toks:=tk}):cz (cK prog w) A.in1 (lS (.ref S) (.ref I) res) (λfin n=>match fin with|.done f=>R (.ok f) n|.again t=>t.quiet=bT/\li (cK prog w) A t R n) (λe n=>R (.error e) n) s:=by
 have J:S∉[I,l]:=λhm=>by
  rcases c_.mp hm with e|hm;.exact m e
  .exact x (dy.mp hm)
 have W:=(Walks.listRev (prog:=prog) (w:=w) (A:=A.in1) O I l G items).toS;have U:s.TypeIs (.ref I) "list_reverseiterator":=j.typeIs;have key:∀(h:ej)(c tk:Nat),h.IsRevIter I l ((items.size:Int)-1-((0:Nat):Int))->h.IsList l items->(∀b o,b≠S->s.heap.get? b=a7 o->h.get? b=a7 o)->h.get? S=a7 {cls:=.type "list",data:=.seq #[] c}->li (cK prog w) A (.builtin "list.extend.loop" ⟨[.ref S,.ref I,res],[]⟩) R {s with heap:=h,toks:=tk}:=by
  intro h c tk hi L X p;refine codeAny_extend_loopS W (by rw[fb];omega) S J res items.size 0 _ #[] c rfl (uO) ⟨uO,hi,L⟩ p (ItemsOf.nil _) λn a t hm M y=>?_;rw[Moved.eq_with hm];refine Q n.heap n.toks a t (λb o z N e=>hm.heap b o (λhmem=>?_) (X b o z e)) M y;rcases c_.mp hmem with Y|hmem;.exact z Y
  .exact N (dy.mp hmem)
 unfold lS;refine bd (k9 U ?_);have h1:listSameRef (.ref S) (.ref I)=a_:=by simp[listSameRef,m]
 have Z:(gJ "list_reverseiterator"==gJ "list")=a_:=by decide
 have h3:(gJ "list_reverseiterator"==gJ "tuple")=a_:=by decide
 simp only[h1,Z,h3,Bool.or_false,gE,if_false];refine bd (wpAny_pyIter_revIter j ?_);refine bd (gd (qG j C u λbb tk ac=>?_));have B:s.heap.IsRevIter I l ((items.size:Int)-1-((0:Nat):Int)):=by simpa using j
 refine wpAny_ite_split (λ_=>?_) (λ_=>cx ⟨ms F.plain_extend_loop _,key _ k _ B C (λb o _ e=>e) H⟩);refine bd (ko ?_);refine bd ?_;show cz _ _ (updateSeq S (·.push .none)>>=λ_=>updateSeq S (·.pop)) _ _ _;refine bd (wpAny_updateSeq H rfl ?_);have g:=ii (gc (·.push dE)) H rfl;refine wpAny_updateSeq (hz:=by seq_fits) g rfl ?_;have q:=ii (gc (·.pop)) g rfl;have r:∀b o,b≠S->s.heap.get? b=a7 o->((s.heap.update S (gc (·.push dE))).update S (gc (·.pop))).get? b=a7 o:=λb o z e=>(ea _ _ (fN z)).trans ((ea _ _ (fN z)).trans e);exact cx ⟨ms F.plain_extend_loop _,key _ _ _ (B.at λo e=>r I o (fN m) e) (C.at λo e=>r l o (fN x) e) r q⟩
end
end PySem
namespace _H
open PySem
theorem oM:∀a b:List Int,bB a b=bT->bB b a=a_
 |[],[],h=>by simp[bB]at h|[],_::_,_=>by simp[bB]|_::_,[],h=>by simp[bB]at h|x::a,y::b,h=>by
   simp only[bB,mx,decide_eq_true_eq,fk]at h;simp only[bB,k7,decide_eq_false_iff_not,kP];rcases h with h|⟨h,h'⟩;.exact⟨by omega,.inl (by omega)⟩
   .exact⟨by omega,.inr (oM a b h')⟩
theorem Dj:∀a b c:List Int,bB b a=a_->bB c b=a_->bB c a=a_
 |[],_,c,_,_=>by cases c<;>simp[bB]|_::_,[],_,h,_=>by simp[bB]at h|_::_,_::_,[],_,h=>by simp[bB]at h|x::a,y::b,z::c,h1,f=>by
   simp only[bB,k7,decide_eq_false_iff_not,kP]at h1 f ⊢;refine⟨by omega,?_⟩;by_cases e:z=x;.right;exact Dj a b c (h1.2.resolve_left (by omega)) (f.2.resolve_left (by omega))
   .exact .inl e
theorem zm:∀a b:List Int,bB a b=a_->bB b a=a_->a=b
 |[],[],_,_=>rfl|[],_::_,h,_=>by simp[bB]at h|_::_,[],_,h=>by simp[bB]at h|x::a,y::b,h1,c=>by
   simp only[bB,k7,decide_eq_false_iff_not,kP]at h1 c;have e:x=y:=by omega
   subst e;rw[zm a b (h1.2.resolve_left (by simp)) (c.2.resolve_left (by simp))]
theorem zR:∀{xs ys:List D},xs.all iC=bT->ys.all iC=bT->xs.map tL=ys.map tL->xs=ys
 |[],[],_,_,_=>rfl|[],_::_,_,_,h=>by simp at h|_::_,[],_,_,h=>by simp at h|x::xs,y::ys,h1,a,h=>by
   simp only[r8,fk]at h1 a;simp only[de,List.cons.injEq]at h;obtain⟨i,rfl⟩:∃i,x=.int i:=by cases x<;>first|exact⟨_,rfl⟩|(have q:=h1.1;simp[iC]at q;done)
   obtain⟨j,rfl⟩:∃j,y=.int j:=by cases y<;>first|exact⟨_,rfl⟩|(have q:=a.1;simp[iC]at q;done)
   rw[zR h1.2 a.2 h.2,show i=j from h.1]
theorem Fo{x y:D}(h:(iC x=bT/\iC y=bT)\/(zM x=bT/\zM y=bT))(e:dj x=dj y):x=y:=by
 rcases h with⟨h1,a⟩|⟨h1,a⟩
 . cases x<;>first|(simp[iC]at h1;done)|skip
   cases y<;>first|(simp[iC]at a;done)|skip
   simpa[dj]using e
 . cases x<;>first|(simp[zM]at h1;done)|skip
   cases y<;>first|(simp[zM]at a;done)|skip
   rename_i xs ys;cases xs<;>first|(simp[zM]at h1;done)|skip
   cases ys<;>first|(simp[zM]at a;done)|skip
   rw[zR h1 a e]
noncomputable def oG(a b:D):Bool:=!bB (dj b) (dj a)
theorem yU(a:List D):(Tp a).Perm a:=List.mergeSort_perm ..
theorem Pj(a b c:D)(h1:oG a b=bT)(e:oG b c=bT):oG a c=bT:=by simp only[oG,k_]at*;exact Dj _ _ _ h1 e
theorem J5(a b:D):(oG a b||oG b a)=bT:=by simp only[oG,mx,k_];cases h:bB (dj b) (dj a)with|false=>exact .inl rfl|true=>exact .inr (oM _ _ h)
theorem CT(c:List D):(Tp c).Pairwise λa b=>oG a b=bT:=List.pairwise_mergeSort Pj J5 c
theorem xN{a:List D}(h:sortable a=bT):∀x∈a,∀y∈a,dj x=dj y->x=y:=by
 simp only[sortable,fk,mx,fw]at h;intro x b y c e;rcases h.2 with h|h;.exact Fo (.inl ⟨h x b,h y c⟩) e
 .exact Fo (.inr ⟨h x b,h y c⟩) e
theorem ue{c l:List D}(h:sortable c=bT)(p:l.Perm c)(s:l.Pairwise λa b=>oG a b=bT):l=Tp c:=by refine List.Perm.eq_of_pairwise (le:=λa b=>oG a b=bT) (λa b f g h1 e=>?_) s (CT c) (p.trans (yU c).symm);simp only[oG,k_]at h1 e;exact xN h a (p.mem_iff.mp f) b ((yU c).mem_iff.mp g) (zm _ _ e h1)
end _H
namespace _H
open PySem PyProof.Rows
variable{xs:Array gl}{i:Nat}
structure Rk(M:oj)(A:ek)(E:bx->b_->Prop)(s:b_)(κ:i5)(ok:gl->Prop)(K:gl->Int):Prop where lt:∀{x y:gl}{Q:Option Bool->iL->Prop}{st:iL},ok x->ok y->kindOf st=κ->Q (a7 (decide (K x<K y))) st->wpS M A E s (lt' x y) Q st
section
variable{M:oj}{A:ek}{E:bx->b_->Prop}{s:b_}{κ:i5}{ok:gl->Prop}{K:gl->Int}
noncomputable def it(xs:Array gl)(i:Nat):gl:=xs.getD i (dE,dE)
theorem PL(h:i<xs.size):xs[i]?=a7 (it xs i):=by unfold it;simp[nE,h]
theorem MT(h:i<xs.size):it xs i∈xs.toList:=by
 have:it xs i=xs[i]:=by unfold it;simp[nE,h]
 rw[this];simp
theorem Gu{Q:gl->iL->Prop}{st:iL}(h:i<xs.size)(q:Q (it xs i) st):wpS M A E s (elem' xs i) Q st:=by rw[elem'_eq,PL h];exact kl q
end
section
variable{K:gl->Int}
noncomputable def Seg(K:gl->Int)(xs:Array gl)(lo hi:Nat):Prop:=∀i j,lo<=i->i<=j->j<hi->K (it xs i)<=K (it xs j)
theorem Ph:it xs i=xs.toList.getD i (dE,dE):=by
 unfold it;by_cases h:i<xs.size;.simp[nE,h]
 .simp[nE,h]
end
section
variable{M:oj}{A:ek}{E:bx->b_->Prop}{s:b_}{κ:i5}{ok:gl->Prop}{K:gl->Int}
structure Sx(κ:i5)(ok:gl->Prop)(st:iL)(xs:Array gl)(st':iL):Prop where
 kind:kindOf st'=κ
 arr:r6 st'=xs
 pend:kf st'=kf st
 fail:rV st'=none
 ok:∀x∈xs.toList,ok x
theorem QS(R:Rk M A E s κ ok K){st a:iL}{j:Nat}{Q:Option Bool->iL->Prop}(h:Sx κ ok st xs a)(hi:i<xs.size)(b:j<xs.size)(q:Q (a7 (decide (K (it xs i)<K (it xs j)))) a):wpS M A E s (ltAt' i j) Q a:=by rw[ltAt'_eq];refine hV (qr ?_);show wpS M A E s (elem' (r6 a) i>>=λx=>elem' (r6 a) j>>=λy=>lt' x y) Q a;rw[h.arr];exact hV (Gu hi (hV (Gu b (R.lt (h.ok _ (MT hi)) (h.ok _ (MT b)) h.kind q))))
theorem Vc(R:Rk M A E s κ ok K){st g:iL}{lo a n:Nat}{Q:Option (Option Nat)×Nat->iL->Prop}(h:Sx κ ok st xs g)(u:lo+n<=xs.size)(v:1<=a)(l:a<=n)(hs:Seg K xs lo (lo+a))(q:∀m,a<=m->m<=n->Seg K xs lo (lo+m)->(m=n\/K (it xs (lo+m))<K (it xs (lo+m-1)))->Q (none,m) g):wpS M A E s (forIn [a:n] ((none,a):Option (Option Nat)×Nat) λ_ c=>ltAt' (lo+c.2) (lo+c.2-1)>>=λo=>match o with|some b=>if b=bT then eS (.done (none,c.2))else eS (.yield (none,c.2+1))|_=>eS (.done (a7 none,c.2))) Q g:=by
 refine qv (I:=λx c k=>k=g/\c=(none,x)/\Seg K xs lo (lo+x)) ?_ ?_ ⟨rfl,rfl,hs⟩
 . rintro x c k h1 w⟨rfl,rfl,f⟩;try dsimp only
   refine hV (QS R h (by omega) (by omega) ?_);by_cases c:K (it xs (lo+x))<K (it xs (lo+x-1))
   . rw[decide_eq_true c];try dsimp only
     rw[if_pos rfl];exact kl (q x h1 (by omega) f (.inr c))
   . rw[decide_eq_false c];try dsimp only
     rw[if_neg (by simp)];refine kl ⟨rfl,rfl,λi j p r y=>?_⟩;by_cases t:j<lo+x;.exact f i j p r t
     . have:j=lo+x:=by omega
       subst this;by_cases e:i=lo+x;.rw[e];exact fh _
       .have:=f i (lo+x-1) p (by omega) (by omega);omega
 .rintro c k⟨rfl,rfl,f⟩;rw[show max a n=n by omega]at f ⊢;exact q n l (dU) f (.inl rfl)
end
noncomputable abbrev Rn:=Nat×Nat×Nat
section
variable{K:gl->Int}{xs ys:Array gl}
noncomputable def Rns(K:gl->Int)(xs:Array gl):Nat->List Rn->Nat->Prop|a,[],b=>a=b|a,r::l,b=>r.1=a/\1<=r.2.1/\Seg K xs a (a+r.2.1)/\Rns K xs (a+r.2.1) l b
theorem yl:∀{l k:List Rn}{a b:Nat},Rns K xs a (l++k) b↔∃m,Rns K xs a l m/\Rns K xs m k b
 |[],k,a,b=>⟨λh=>⟨a,rfl,h⟩,λ⟨m,h1,c⟩=>by cases(show a=m from h1);exact c⟩|r::l,k,a,b=>by
   rw[iN];constructor;.rintro⟨h1,c,e,f⟩;obtain⟨m,g,j⟩:=yl.mp f;exact⟨m,⟨h1,c,e,g⟩,j⟩
   .rintro⟨m,⟨h1,c,e,f⟩,g⟩;exact⟨h1,c,e,yl.mpr ⟨m,f,g⟩⟩
end
section
variable{M:oj}{A:ek}{E:bx->b_->Prop}{s:b_}{κ:i5}{ok:gl->Prop}{K:gl->Int}
structure SR(κ:i5)(ok:gl->Prop)(K:gl->Int)(x0 ys:Array gl)(l:List Rn)(lo:Nat)(st:iL):Prop where
 kind:kindOf st=κ
 arr:r6 st=ys
 fail:rV st=none
 pend:(kf st).toList=l
 perm:ys.toList.Perm x0.toList
 ok:∀x∈ys.toList,ok x
 rns:Rns K ys 0 l lo
 le:lo<=ys.size
theorem SR.sx{x0 ys:Array gl}{l:List Rn}{lo:Nat}{st:iL}(h:SR κ ok K x0 ys l lo st):Sx κ ok st ys st:=⟨h.kind,h.arr,rfl,h.fail,h.ok⟩
end
end _H
namespace _H
open PySem W PyProof.Rows Calls _L Spec
theorem Qc(a:List Int):bB a a=a_:=by cases h:bB a a with|false=>rfl|true=>rw[oM _ _ h]at h;cases h
theorem Jh{a b x:List Int}(h:bB b a=a_)(c:bB x a=bT):bB x b=bT:=by cases e:bB x b with|true=>rfl|false=>rw[Dj _ _ _ h e]at c;cases c
theorem v5{a:Type}{p q:a->Bool}(h:∀x,p x=bT->q x=bT):∀{l:List a},(∃x,x∈l/\q x=bT/\p x=a_)->l.countP p<l.countP q
 |[],⟨x,hx,_⟩=>by cases hx|y::l,⟨x,hx,h1,b⟩=>by
   rw[List.countP_cons,List.countP_cons];have m:=pS (l:=l) (p:=p) (q:=q) λx _=>h x;rcases c_.mp hx with rfl|hx;.rw[h1,b,if_pos rfl,if_neg (by simp)];omega
   .have:=v5 h ⟨x,hx,h1,b⟩;cases hp:p y with|true=>rw[h y hp];omega|false=>rw[if_neg (by simp)];omega
noncomputable def V4(a:List D)(d:D):Nat:=a.countP λe=>bB (dj e) (dj d)
theorem JQ{a:List D}{d e:D}(hd:d∈a):decide ((V4 a d:Int)<V4 a e)=bB (dj d) (dj e):=by cases h:bB (dj d) (dj e)with|true=>have:=v5 (l:=a) (p:=λx=>bB (dj x) (dj d)) (q:=λx=>bB (dj x) (dj e)) (λx b=>Jh (oM _ _ h) b) ⟨d,hd,h,Qc _⟩;rw[decide_eq_true_iff];unfold V4;omega|false=>have:=pS (l:=a) (p:=λx=>bB (dj x) (dj e)) (q:=λx=>bB (dj x) (dj d)) λx _ b=>Jh h b;rw[decide_eq_false_iff_not];unfold V4;omega
open Classical in
noncomputable def rkK(P:bx->D->Prop)(a:List D)(x:gl):Int:=if h:∃d,d∈a/\P x.1 d then(V4 a h.choose:Int)else 0
theorem Fb{P:bx->D->Prop}{a:List D}{x:gl}{d:D}(fn:∀u d e,P u d->P u e->dj d=dj e)(hd:d∈a)(b:P x.1 d):rkK P a x=V4 a d:=by have h:∃d,d∈a/\P x.1 d:=⟨d,hd,b⟩;unfold rkK;rw[dif_pos h];unfold V4;rw[fn _ _ _ h.choose_spec.2 b]
noncomputable def pick{a:Type}(d:a)(p:List Nat)(l:List a):List a:=p.map λi=>l.getD i d
theorem nj{a:Type}(d:a)(l:List a):pick d (dL l.length) l=l:=by refine oa (by simp[pick]) λi h1 b=>?_;simp[pick,b]
theorem tW{a:Type}{d:a}{p:List Nat}{l:List a}{n:Nat}(h:p.Perm (dL n)):(pick d p l).length=n:=by rw[pick,ef,h.length_eq,kb]
theorem lJ{P:bx->D->Prop}:∀{b:List bx}{a:List D},Paired P b a->∀i,i<b.length->P (b.getD i .none) (a.getD i .non)/\a.getD i .non∈a|_,_,.cons r _,0,_=>⟨by simpa using r,by simp⟩|_,_,.cons _ t,i+1,hi=>by have:=lJ t i (by simpa using hi);exact⟨by simpa using this.1,by simpa using eC this.2⟩
end _H
namespace _H
open PySem _L Spec PyProof.Rows Calls W
section
variable{prog:da}{w:eg}{A:ek}{E:bx->b_->Prop}{s:b_}{vs:List bx}{κ:i5}{P:bx->D->Prop}{ds:List D}
theorem qd{b fin:Bool}{Q:Bool->b_->Prop}:∀{xs ys:List bx}{is js:List Int}{i:Nat},gL xs is->gL ys js->fin=decide (is.length<js.length)->Q (bB is js) s->KatLex prog w A b fin Q (xs.zip ys) i s
 |_,_,_,_,_,.nil,.nil,e,h=>by subst e;exact kat_nil (by simpa[bB]using h)|_,_,_,_,_,.nil,.cons _ _ _,e,h=>by subst e;exact kat_nil (by simpa[bB]using h)|_,_,_,_,_,.cons _ _ _,.nil,e,h=>by subst e;exact kat_nil (by simpa[bB]using h)|_,_,_,_,i,.cons (ns:=is) x t r,.cons (ns:=js) y u r',e,h=>by
   refine kat_cons (nK ?_);by_cases q:x=y;.subst q;rw[beq_self_eq_true];refine kat_yes (qd r r' (by rw[e];simp) ?_);simpa[bB]using h
   . rw[beq_eq_false_iff_ne.mpr q];refine kat_no ?_;have a:Q (decide (x<y)) s:=by simpa[bB,q]using h
     cases(b&&i==0)with|true=>exact oneLt_int a|false=>exact kat_one _ _ (wpAny_lt_int a)
noncomputable def qK(h:ej)(u:bx)(d:D):Prop:=∃a b is,u=.ref a/\qo h a (qA b)/\gL b is/\is≠[]/\dj d=is
theorem oY{h h':ej}(k:∀b o,h.get? b=a7 o->h'.get? b=a7 o){u:bx}{d:D}(t:qK h u d):qK h' u d:=by obtain⟨a,c,is,e,⟨o,h1,f⟩,g⟩:=t;exact⟨a,c,is,e,⟨o,k _ _ h1,f⟩,g⟩
theorem vC{h h':ej}(k:∀b o,h.get? b=a7 o->h'.get? b=a7 o):∀{a:List bx}{ds:List D},Paired (qK h) a ds->Paired (qK h') a ds|_,_,.nil=>.nil|_,_,.cons r t=>.cons (oY k r) (vC k t)
theorem qj{h:ej}:∀{b:List bx}{ds:List D},Paired (qK h) b ds->∃fs,KatTups h b fs/\fs.length=b.length/\∀f∈fs,∃n t,f=fI n t|_,_,.nil=>⟨[],trivial,rfl,by simp⟩|_,_,.cons r t=>by obtain⟨fs,h1,e,g⟩:=qj t;obtain⟨a,i,is,rfl,⟨o,j,k,n,l⟩,hi,c,_⟩:=r;cases hi with|nil=>exact absurd rfl c|cons x tk m=>
     refine⟨.int x tk::fs,KatTups.cons j k l (by simp) h1,by simp[e],λf hf=>?_⟩;rcases c_.mp hf with rfl|hf;.exact⟨_,_,rfl⟩
     .exact g f hf
theorem Hv{ds:List D}(t:Paired (qK s.heap) vs ds)(e:2<=vs.length){C:i5->b_->Prop}(a:C (tuples' (gJ "int"!=gJ "tuple")) s):cz (cK prog w) A (keyKind' vs.toArray) C E s:=by obtain⟨fs,h1,f,b⟩:=qj t;refine kat_kind (T:=.type "int") h1 (by omega) (λv c=>?_) rfl a;obtain⟨n,t,rfl⟩:=b v c;exact Looks.now
theorem Qn{x y:bx}{d e:D}(h:qK s.heap x d)(i:qK s.heap y e){b:Bool}{C:Bool->b_->Prop}(c:C (bB (dj d) (dj e)) s):cz (cK prog w) A (keyLt' (tuples' b) x y) C E s:=by obtain⟨a,j,is,rfl,⟨o,k,r,n,l⟩,hi,m,p⟩:=h;obtain⟨t,its',js,rfl,⟨u,p1,p2,v,p3⟩,f,g,q⟩:=i;refine kat_lt k l p1 p3 ?_;rw[p,q]at c;refine qd (is:=is) (js:=js) (by simpa using hi) (by simpa using f) ?_ c;rw[cE,cE,kL hi,kL f]
end
theorem HW{xs:List V}{a:List bx}(h:Vals xs a)(i:Nat):RelV (xs.getD i .non) (a.getD i .none):=by
 have f:=h.length;by_cases hi:i<xs.length
 . obtain⟨u,e,r⟩:=h.get (i:=i) (x:=xs[i]) (fS hi);have b:xs.getD i .non=xs[i]:=by simp[hi]
   have c:a.getD i .none=u:=by simp[e]
   rw[b,c];exact r
 . have b:xs.getD i .non=.non:=by simp[mB hi]
   have c:a.getD i .none=.none:=by simp[show a.length<=i by omega]
   rw[b,c];rfl
theorem zY{f:Nat->V}{g:Nat->bx}(h:∀i,RelV (f i) (g i)):∀l:List Nat,Vals (l.map f) (l.map g)|[]=>.nil|i::l=>.cons (h i) (zY h l)
theorem JH{p:List Nat}{xs:List V}{a:List bx}(h:Vals xs a):Vals (pick .non p xs) (pick .none p a):=zY (HW h) _
theorem zE{K:PySem.W.Frag}{F:Hp}{f:Nat->V}{g:Nat->D}(h:∀i,Rep K F (f i) (g i)):∀l:List Nat,aH K F (l.map f) (l.map g)|[]=>.nil|i::l=>.cons (h i) (zE h l)
theorem JW{K:PySem.W.Frag}{F:Hp}{p:List Nat}{xs:List V}{a:List D}(h:aH K F xs a):aH K F (pick .non p xs) (pick .non p a):=zE (λi=>by
 have f:=h.length;by_cases hi:i<a.length
 . obtain⟨u,e,r⟩:=h.get (i:=i) (d:=a[i]) (fS hi);have b:a.getD i .non=a[i]:=by simp[hi]
   have c:xs.getD i .non=u:=by simp[e]
   rw[b,c];exact r
 . have b:a.getD i .non=.non:=by simp[mB hi]
   have c:xs.getD i .non=.non:=by simp[show xs.length<=i by omega]
   rw[b,c,Rep]) _
theorem Jk{a:List bx}:∀{ns b:List Int},gL a ns->gL a b->ns=b:=by induction a with|nil=>intro ns b h1 c;cases h1;cases c;rfl|cons u a e=>intro ns b h1 c;cases h1 with|cons n t r=>cases c with|cons m t' f=>rw[e r f]
theorem Py{h:ej}(u:bx)(d e:D):qK h u d->qK h u e->dj d=dj e:=λ⟨a,f,is,h1,⟨o,g,r,n,i⟩,j,_,k⟩⟨b,l,js,c,⟨s,p1,p2,m,p3⟩,p,_,q⟩=>by rw[h1]at c;cases c;rw[g]at p1;cases p1;rw[i]at p3;cases p3;rw[k,q,Jk j p]
theorem all_ints:∀{a:List D},a.all iC=bT->a=(a.map tL).map D.int
 |[],_=>rfl|d::a,h=>by
   simp only[r8,fk]at h;cases d<;>first|(have q:=h.1;simp[iC]at q;done)|skip
   rw[de,de,<-all_ints h.2];rfl
theorem intsAre_of:∀{ns:List Int}{a:List bx},Vals (ns.map V.int) a->gL a ns|[],_,.nil=>.nil|n::ns,_,.cons r t=>by obtain⟨tk,rfl⟩:=r;exact .cons n tk (intsAre_of t)
section
variable{X:Cx}{c:Call}{a:dc}{pa:P}{pos:Pos}
theorem boot_sorted:eP "sorted"=a7 (.builtin "sorted"):=by decide+kernel
end
end _H
namespace _H
open PySem _L Spec PyProof.Rows Calls
theorem BJ(l b:ce)(items a:List bx)(n G:Nat)(dd o:Option ce)(sl r:Array (Option bx))(is js:List Int)(hi:gL items is)(E:gL a js):ol (iE.«tuple.__lt__» ⟨[.ref l,.ref b],[]⟩) (λA R s=>s.heap.get? l=a7 {cls:=.type "tuple",dict:=dd,data:=.seq items.toArray n,slots:=sl}/\s.heap.get? b=a7 {cls:=.type "tuple",dict:=o,data:=.seq a.toArray G,slots:=r}/\R (.ok (.ret (.bool (bB is js)))) s):=.of_wp λprog w A R s h=>by
  obtain⟨v,g,d,tk,os⟩:=s;obtain⟨H,I,h⟩:=h;have f2:=AutoSeq1.sub_tuple_tuple;wp_walk using jI H,jI I,wpAny_forIn_list _ (λf b z=>b.1=none/\z=⟨v,g,d,tk,os⟩/\∃xs ys c j,f=xs.zip ys/\gL xs c/\gL ys j/\decide (items.length<a.length)=decide (c.length<j.length)/\R (.ok (.ret (.bool (bB c j)))) ⟨v,g,d,tk,os⟩) _;case turn=>rintro⟨y,x⟩f b z⟨i,rfl,xs,ys,c,j,hz,h1,k,B,m⟩;cases h1 with|nil=>cases hz|cons p t h1=>cases k with|nil=>cases hz|cons q u k=>
       injection hz with hyx hrest;cases hyx;refine bd (nK ?_);by_cases e:p=q;.subst e;rw[beq_self_eq_true];wp_walk;exact⟨rfl,rfl,_,_,_,_,hrest,h1,k,by rw[B];simp,by simpa[bB]using m⟩
       . rw[beq_eq_false_iff_ne.mpr e];have C:R (.ok (.ret (.bool (decide (p<q))))) ⟨v,g,d,tk,os⟩:=by simpa[bB,e]using m
         simp only[Bool.not_false,if_true];refine bd (ko ?_);refine bd (show cz (cK prog w) A.in1 (eR .Lt (fI p t) (fI q u)) _ _ _ from wpAny_lt_int ?_);refine bd (cx ?_);exact cx (cx ⟨_,rfl,C⟩)
  case fin=>
   rintro⟨b1,b2⟩z⟨i,rfl,xs,ys,c,j,hz,h1,k,B,m⟩;simp only at i;subst i;have e:bB c j=decide (items.length<a.length):=by rw[B];cases h1 with|nil=>cases k<;>simp[bB]|cons _ _ _=>cases k with|nil=>simp[bB]|cons _ _ _=>cases hz
   rw[e]at m;wp_walk;exact⟨_,rfl,by simpa[Builtin.Tuple.tupleCompareSizes]using m⟩
  case h=>exact⟨rfl,rfl,items,a,is,js,by simp,hi,E,by rw[kL hi,kL E],h⟩
section
variable{X:Cx}
theorem yq(hu:X.A.units+8<fT):jw X (eR .Lt) (rD X.K (CP .lt)):=by rintro f s σ H x y v u Q I E G⟨F,d,e,r,sm,J,L,he,k⟩;obtain⟨t,c,p⟩:=map_some (show(Z0 d e).map _=a7 r from he);subst p;cases d with
 |int i=>cases e with|int j=>exact VN f s σ H x y v u Q I E G ⟨F,.int i,.int j,_,sm,J,L,by have p:Om (λi j=>decide (i<j)) (.int i) (.int j)=a7 t:=c;simp only[p];rfl,k⟩|_=>cases c
 |tup xs=>cases e with|tup ys=>obtain⟨hc,c⟩:=bD (show(if(xs.all iC&&ys.all iC)=bT then a7 (bB (xs.map tL) (ys.map tL))else none)=a7 t from c);rw[fk]at hc;obtain⟨a,vs,rfl,h1,M,_⟩:=J.tup sm;obtain⟨b,ws,rfl,Y,N,_⟩:=L.tup sm;cases E;cases G;obtain⟨q,O,it,_⟩:=I.tuple h1;obtain⟨g,U,z,_⟩:=I.tuple Y;rw[all_ints hc.1]at M;rw[all_ints hc.2]at N;rw[j9 M]at O;rw[j9 N]at U;have Z:=intsAre_of O;have i2:=intsAre_of U;obtain⟨⟨cls,dd,data,sl⟩,ho,h,n,hd⟩:=it;obtain⟨⟨W,B,data2,C⟩,l,m,n2,o⟩:=z;simp only at h hd m o;subst h hd m o;refine(show cz (cK X.prog X.w) X.A (richCompare .Lt (.ref a) (.ref b)) _ _ s from richCompare_meets_room (op:=.Lt) ⟨_,ho,rfl⟩ ⟨_,l,rfl⟩ PySem.F.slot_tuple_lt PySem.F.entry_tuple_lt (PySem.F.args_tuple_lt_2 _ _) (BJ a b q g n n2 dd B sl C _ _ Z i2) ⟨ho,l,show jp _≠kS/\_ from⟨(λx=>nomatch x),⟨.bl t,H,I,by rw[<-c];rfl,cM.dC sm (iT _) k⟩⟩⟩ (by omega))|_=>cases c
 |_=>cases c
end
end _H
namespace _L
open PySem Spec PyProof.Rows
variable{y:V}{w:eg}{H:Hp}{Q:bx->b_->Prop}{pos:Pos}{X:Cx}
section
variable{κ:Type}[DecidableEq κ]
noncomputable def jY(kvs:List (κ×V))(k:κ):Option V:=(kvs.find? λa=>decide (a.1=k)).map (·.2)
noncomputable def putK(kvs:List (κ×V))(k:κ)(v:V):List (κ×V):=if(kvs.any λa=>decide (a.1=k))=bT then kvs.map (λa=>if a.1=k then(a.1,v)else a)else kvs++[(k,v)]
theorem m7{p:κ×V}{r:List (κ×V)}{k:κ}(e:p.1=k):jY (p::r) k=a7 p.2:=by simp[jY,fF,e]
theorem nZ{p:κ×V}{r:List (κ×V)}{k:κ}(e:¬ p.1=k):jY (p::r) k=jY r k:=by simp[jY,fF,e]
theorem tH(k:κ):∀kvs:List (κ×V),(kvs.any λa=>decide (a.1=k))=(jY kvs k).isSome
 |[]=>rfl|p::r=>by
   rw[l8];by_cases e:p.1=k;.simp only[m7 e,decide_eq_true e,Bool.true_or,Option.isSome_some]
   .rw[nZ e,decide_eq_false e,Bool.false_or];exact tH k r
theorem j6(kvs:List (κ×V))(k:κ)(v:V):(putK kvs k v).length<=kvs.length+1:=by
 unfold putK;split;.rw[ef];omega
 .rw[ei,dV,length_nil];omega
theorem qL.jk{o:Option V}{u:Option bx}(r:qL o u):o.isSome=u.isSome:=by cases o with
 |none=>cases u with|none=>rfl|some _=>exact(show False from r).elim
 |some _=>cases u with|none=>exact(show False from r).elim|some _=>rfl
theorem qL.getD{o:Option V}{u:Option bx}{d:V}{d':bx}(r:qL o u)(a:RelV d d'):RelV (o.getD d) (u.getD d'):=by cases o with
 |none=>cases u with|none=>exact a|some _=>exact(show False from r).elim
 |some _=>cases u with|none=>exact(show False from r).elim|some _=>exact r
theorem KV.val{kvs:List (κ×V)}{vs:List (κ×bx)}(r:KV kvs vs)(k:κ):qL (jY kvs k) (mI vs k):=by unfold KV at r;induction r with|nil=>exact kA|@cons p q ps a h t f=>
   obtain⟨h1,g⟩:=h;by_cases e:p.1=k
   . have c:q.1=k:=h1.symm.trans e;have b:mI (q::a) k=a7 q.2:=by simp[mI,fF,c]
     rw[m7 e,b];exact g
   . have c:¬ q.1=k:=λz=>e (h1.trans z);have b:mI (q::a) k=mI a k:=by simp[mI,fF,c]
     rw[nZ e,b];exact f
theorem KV.any{kvs:List (κ×V)}{vs:List (κ×bx)}(r:KV kvs vs)(k:κ):(kvs.any λa=>decide (a.1=k))=vs.any λa=>decide (a.1=k):=by unfold KV at r;induction r with|nil=>rfl|cons h t b=>rw[l8,l8,b,h.1]
theorem KV.repl{kvs:List (κ×V)}{vs:List (κ×bx)}(r:KV kvs vs)(k:κ){u:bx}(b:RelV y u):KV (kvs.map λa=>if a.1=k then(a.1,y)else a) (vs.map λa=>if a.1=k then(a.1,u)else a):=by unfold KV at r ⊢;induction r with|nil=>exact .nil|@cons p q ps g h t c=>
   rw[de,de];refine .cons ?_ c;obtain⟨h1,f⟩:=h;by_cases e:p.1=k;.rw[if_pos e,if_pos (h1.symm.trans e)];exact⟨h1,b⟩
   .rw[if_neg e,if_neg (λz=>e (h1.trans z))];exact⟨h1,f⟩
theorem KV.put{kvs:List (κ×V)}{vs:List (κ×bx)}(r:KV kvs vs)(k:κ){u:bx}(a:RelV y u):KV (putK kvs k y) (stored vs k u):=by
 unfold putK stored;rw[r.any k];by_cases e:(vs.any λb=>decide (b.1=k))=bT;.rw[if_pos e,if_pos e];exact r.repl k a
 .rw[if_neg e,if_neg e];exact Paired.snoc r ⟨rfl,a⟩
theorem KV.length{kvs:List (κ×V)}{vs:List (κ×bx)}(r:KV kvs vs):kvs.length=vs.length:=Paired.length r
end
theorem sr{P:da}{k:Key}{u:bx}(r:RelV (kV k) u):(aY P w).is k u=bT:=by cases k with|inl i=>obtain⟨t,e⟩:=(show ∃t,u=fI i t from r);subst e;exact yS P w i t|inr x=>obtain⟨t,e⟩:=(show ∃t,u=Value.str x t from r);subst e;exact zH P w x t
theorem vG{P:da}{w:eg}:∀{ks:List Key}{a:List bx},Vals (ks.map kV) a->ItemsAre (aY P w) ks a|[],_,r=>by rw[ow]at r;cases r;exact .nil|k::ks,_,r=>by rw[de]at r;cases r with|cons h t=>exact .cons (sr h) (vG t)
noncomputable abbrev KT(H:Hp):List (List Key×V)->List (List Key×ce×bx)->Prop:=Paired λp q=>p.1=q.1/\H q.2.1=a7 (.tup (p.1.map kV))/\RelV p.2 q.2.2
theorem KT.val{kvs:List (List Key×V)}{xs:List (List Key×ce×bx)}(r:KT H kvs xs)(k:List Key):qL (jY kvs k) ((o_ xs k).map (·.2)):=by induction r with|nil=>exact kA|@cons p q ps a h t f=>
   obtain⟨h1,_,g⟩:=h;by_cases e:p.1=k
   . have c:q.1=k:=h1.symm.trans e;have b:o_ (q::a) k=a7 q.2:=by simp[o_,fF,c]
     rw[m7 e,b];exact g
   . have c:¬ q.1=k:=λz=>e (h1.trans z);have b:o_ (q::a) k=o_ a k:=by simp[o_,fF,c]
     rw[nZ e,b];exact f
theorem KT.repl{kvs:List (List Key×V)}{xs:List (List Key×ce×bx)}(r:KT H kvs xs)(k:List Key){u:bx}(c:RelV y u):KT H (kvs.map λa=>if a.1=k then(a.1,y)else a) (xs.map (putAt k u)):=by induction r with|nil=>exact .nil|@cons p q ps i h t f=>
   rw[de,de];refine .cons ?_ f;obtain⟨h1,b,g⟩:=h;unfold putAt;by_cases e:p.1=k;.rw[if_pos e,if_pos (h1.symm.trans e)];exact⟨h1,b,c⟩
   .rw[if_neg e,if_neg (λz=>e (h1.trans z))];exact⟨h1,b,g⟩
theorem KT.put{kvs:List (List Key×V)}{xs:List (List Key×ce×bx)}(r:KT H kvs xs)(k:List Key){b:ce}{u:bx}(c:H b=a7 (.tup (k.map kV)))(a:RelV y u):KT H (putK kvs k y) (storedH xs k b u):=by
 have e:(kvs.any λf=>decide (f.1=k))=(o_ xs k).isSome:=by rw[tH,(r.val k).jk,isSome_map]
 unfold putK storedH;rw[e];by_cases q:(o_ xs k).isSome=bT;.rw[if_pos q,if_pos q];exact r.repl k a
 .rw[if_neg q,if_neg q];exact Paired.snoc r ⟨rfl,c,a⟩
theorem KT.keeps{a:Hp}{kvs:List (List Key×V)}{xs:List (List Key×ce×bx)}(r:KT H kvs xs)(ht:∀b ys,H b=a7 (.tup ys)->a b=a7 (.tup ys)):KT a kvs xs:=Paired.Wm r λ_ _ z=>⟨z.1,ht _ _ z.2.1,z.2.2⟩
section
variable{P:da}{w:eg}{H:Hp}{h:ej}{a:ce}
theorem Sg{u:HO}(ok:jX P w H h)(e:Rd H a u):bA P w H h a u:=e.ok ok
theorem p6{kvs:List (Key×V)}(ok:jX P w H h)(e:Rd H a (.dK kvs)):kvs.length<=sizeLine/\(a==hJ)=a_/\∃vs,KV kvs vs/\h.DictOf (aY P w) a vs:=show bA P w H h a (.dK kvs)from Sg ok e
theorem RP{kvs:List (Key×V)}(ok:jX P w H h)(e:H a=a7 (.dK kvs)):kvs.length<=sizeLine/\(a==hJ)=a_/\∃vs,KV kvs vs/\h.DictOf (aY P w) a vs:=p6 ok (.inl e)
theorem pO{ks:List Key}(ok:jX P w H h)(e:H a=a7 (.tup (ks.map kV))):(me (aY P w)).is h ks a:=by obtain⟨_,b,r,o,h1,c,n,f⟩:=(show bA P w H h a (.tup (ks.map kV))from ok a _ e);exact⟨o,b.toArray,n,h1,c,f,by simpa using vG r⟩
theorem ud{kvs:List (List Key×V)}(ok:jX P w H h)(e:Rd H a (.dT kvs)):kvs.length<=sizeLine/\(a==hJ)=a_/\∃xs,KT H kvs xs/\h.DictOfH (me (aY P w)) a xs:=by
 obtain⟨z,y,xs,r,o,es,ep,h1,c,f,g,i⟩:=(show bA P w H h a (.dT kvs)from Sg ok e);refine⟨z,y,xs,r,o,es,ep,h1,c,f,g,λx hx=>?_,i⟩;have all:∀{l:List (List Key×V)}{m:List (List Key×ce×bx)},KT H l m->∀x∈m,(me (aY P w)).is h x.1 x.2.1:=by intro l m q;induction q with|nil=>intro x hx;exact nomatch hx|@cons p q ps k b t j=>
    intro x hx;rcases c_.mp hx with e|hx;.subst e;exact pO ok (by rw[<-b.1];exact b.2.1)
    .exact j x hx
 exact all r x hx
theorem aa9{kvs:List (List Key×V)}(ok:jX P w H h)(e:H a=a7 (.dT kvs)):kvs.length<=sizeLine/\(a==hJ)=a_/\∃xs,KT H kvs xs/\h.DictOfH (me (aY P w)) a xs:=ud ok (.inl e)
end
noncomputable def pg(H:Hp)(a:ce)(y:V)(r:Option V):Prop:=(∃kvs k,Rd H a (.dK kvs)/\y=kV k/\r=jY kvs k)\/∃kvs k b,Rd H a (.dT kvs)/\y=.ref b/\H b=a7 (.tup (k.map kV))/\r=jY kvs k
noncomputable def aa7(H:Hp)(a:ce)(y v:V)(c:Hp):Prop:=(∃kvs k,H a=a7 (.dK kvs)/\y=kV k/\kvs.length<sizeLine/\c=upd H a (.dK (putK kvs k v)))\/∃kvs k b,H a=a7 (.dT kvs)/\y=.ref b/\H b=a7 (.tup (k.map kV))/\kvs.length<sizeLine/\c=upd H a (.dT (putK kvs k v))
section
variable{X:Cx}{pins:List (ce×Obj)}{σ:St}{H:Hp}{s:b_}{a:ce}{y v:V}{u r:bx}{o:Option V}{A:ek}{E:bx->b_->Prop}
theorem Inv.big(I:Inv X pins σ H s):hJ<s.heap.objs.size:=by have h:cN<s.heap.objs.size:=(I.mod.glob.keeps I.bk).lt;exact pf (by decide) h
theorem pB(x:A.units+1<fT)(I:Inv X pins σ H s)(g:pg H a y (a7 v))(q:RelV y u)(h:∀f t,Inv X pins σ H t->RelV v f->Q f t):cz (cK X.prog X.w) A (ke (.ref a) u) Q E s:=by
 rcases g with⟨kvs,k,e,i,l⟩|⟨kvs,k,b,e,i,B,l⟩;.subst i;obtain⟨z,hd,vs,c,dd⟩:=p6 I.hok e;obtain⟨f,j,m⟩:=qL.some_of (v:=v) (o:=mI vs k) (by rw[l];exact c.val k);exact wpAny_getItem_of (sr q) dd.mapOf j (h f _ (I.tok _) m)
 .subst i;cases(show u=dr b from q);obtain⟨z,hd,xs,c,dd⟩:=ud I.hok e;obtain⟨f,j,m⟩:=qL.some_of (v:=v) (o:=(o_ xs k).map (·.2)) (by rw[l];exact c.val k);obtain⟨p,C,n⟩:=eT.mp j;refine wpAny_getItem_heap (iF x) (pO I.hok B) dd C ?_;rw[n];exact h f _ (I.tok _) m
theorem abz(m:A.units+1<fT)(I:Inv X pins σ H s)(g:pg H a y o)(i:RelV y u)(h:∀j,Inv X pins σ H j->Q (.bool o.isSome) j):cz (cK X.prog X.w) A (eR .In u (.ref a)) Q E s:=by
 rcases g with⟨kvs,k,e,f,l⟩|⟨kvs,k,b,e,f,n,l⟩;.subst f;obtain⟨z,hd,vs,c,dd⟩:=p6 I.hok e;refine wpAny_in_of (sr i) hd dd.mapOf ?_;rw[<-(c.val k).jk,<-l];exact h _ (I.tok _)
 .subst f;cases(show u=dr b from i);obtain⟨z,hd,xs,c,dd⟩:=ud I.hok e;refine wpAny_in_heap (iF m) (pO I.hok n) hd dd ?_;have q:=(c.val k).jk;rw[isSome_map]at q;rw[<-q,<-l];exact h _ (I.tok _)
theorem DQ(m:A.units+1<fT)(I:Inv X pins σ H s)(g:pg H a y o)(i:RelV y u)(h:∀j,Inv X pins σ H j->Q (.bool (!o.isSome)) j):cz (cK X.prog X.w) A (eR .NotIn u (.ref a)) Q E s:=by
 rcases g with⟨kvs,k,e,f,l⟩|⟨kvs,k,b,e,f,n,l⟩;.subst f;obtain⟨z,hd,vs,c,dd⟩:=p6 I.hok e;refine wpAny_notIn_of (sr i) hd dd.mapOf ?_;rw[<-(c.val k).jk,<-l];exact h _ (I.tok _)
 .subst f;cases(show u=dr b from i);obtain⟨z,hd,xs,c,dd⟩:=ud I.hok e;refine wpAny_notIn_heap (iF m) (pO I.hok n) hd dd ?_;have q:=(c.val k).jk;rw[isSome_map]at q;rw[<-q,<-l];exact h _ (I.tok _)
theorem wW{h':ej}{t':Nat}{c:HO}(I:Inv X pins σ H s)(f:Mut (H a))(hs:rf a s.heap h')(he:∃q,h'.get? a=a7 q)(new:bA X.prog X.w (upd H a c) h' a c):Inv X pins σ (upd H a c) {s with heap:=h',toks:=t'}:=I.write (x:=a) (e:=a) f (.inl rfl) (λb q g z=>(hs.2 b g).trans z) he new
theorem Mq{P:da}{c:Hp}{h':ej}{kvs:List (Key×V)}{vs:List (Key×bx)}(z:kvs.length<=sizeLine)(hd:(a==hJ)=a_)(b:KV kvs vs)(dd:h'.DictOf (aY P w) a vs):bA P w c h' a (.dK kvs):=⟨z,hd,vs,b,dd⟩
theorem Hl{t:Hp}{Q:Unit->b_->Prop}(L:A.units+1<fT)(I:Inv X pins σ H s)(g:aa7 H a y v t)(x:RelV y u)(B:RelV v r)(h:∀C,Inv X pins σ t C->Q () C):cz (cK X.prog X.w) A (ot (.ref a) u r) Q E s:=by
 rcases g with⟨kvs,k,e,m,l,n⟩|⟨kvs,k,b,e,m,G,l,n⟩
 . subst m n;obtain⟨z,hd,vs,f,dd⟩:=RP I.hok e;have hz:vs.length<=sizeLine:=by rw[<-f.length];exact z
   have p:(putK kvs k v).length<=sizeLine:=by have:=j6 kvs k v;omega
   refine wpAny_setItem_pairs (hsz:=hz) (sr x) dd λh' i hs=>h _ ?_;have he:∃q,h'.get? a=a7 q:=let⟨q,_,_,j,_⟩:=i;⟨q,j⟩;exact wW I (by rw[e];exact kA) hs he (Mq p hd (f.put k B) i)
 . subst m n;cases(show u=dr b from x);obtain⟨z,hd,xs,f,dd⟩:=aa9 I.hok e;have hz:xs.length<=sizeLine:=by rw[<-Paired.length f];exact z
   have p:(putK kvs k v).length<=sizeLine:=by have:=j6 kvs k v;omega
   refine wpAny_setItem_heap (hsz:=hz) (iF L) (pO I.hok G) dd λh' i hs=>h _ ?_;obtain⟨q,es,ep,j,M,N,O,_,U⟩:=i;refine wW I (by rw[e];exact kA) hs ⟨q,j⟩ ⟨p,hd,_,(f.put k G B).keeps λc ys J=>?_,q,es,ep,j,M,N,O,U⟩;rw[aA (Z4 J e (λz=>nomatch z))];exact J
end
noncomputable def Qy(i:dc):Prop:=∀ov iv,n7 i a_ ov iv=operate [ov,iv] (ke ov iv)
theorem Ge{prog:da}{A:ek}{E:bx->b_->Prop}{s:b_}{env:Env}{a slice:dc}{T id:String}(l:oC (.type T) "__getitem__"=eS (a7 (.builtin id)))(hs:Qy slice)(h:cz (cK prog w) A (er a env) (λo e=>cz (cK prog w) A (er slice env) (λi b=>b.TypeIs o T/\cz (cK prog w) A (ke o i) Q E b) E e) E s):cz (cK prog w) A (er (.Subscript a slice pos) env) Q E s:=by
 refine Subscript_ (d_ h (λo e g=>d_ g (λi b c=>?_) λ_ _ x=>x) λ_ _ x=>x);obtain⟨k,c⟩:=c;unfold p9;refine bd ?_;rw[getitemInPython_of_ne k.not_modules];refine bd (oo k l ?_);have fin:cz (cK prog w) A (n7 slice a_ o i) (λr f=>cz (cK prog w) A (letTemporaryGo a o r>>=λ_=>eS r) Q E f) E b:=by rw[hs o i];exact wpAny_operating (d_ c (λr f j=>bd (wpAny_letTemporaryGo (cx j))) λ_ _ x=>x)
 first|exact cx (bd fin)|exact bd (cx (bd fin))|exact bd fin
theorem kZ{c:List (ce×Obj)}{σ:St}{s:b_}{a:ce}{o:Option V}(I:Inv X c σ H s)(g:pg H a y o):s.TypeIs (.ref a) "dict":=by
 rcases g with⟨kvs,k,e,_,_⟩|⟨kvs,k,b,e,_,_,_⟩;.obtain⟨_,_,vs,_,dd⟩:=p6 I.hok e;exact dd.typeIs
 .obtain⟨_,_,xs,_,dd⟩:=ud I.hok e;exact dd.typeIs
noncomputable def abm(c ty:TE):TE:=λσ H Q=>c σ H λx e=>ty σ e λy b=>∃a v,x=.ref a/\pg b a y (a7 v)/\Q v b
noncomputable def aeZ(ty c:TE):TE:=λσ H Q=>ty σ H λy e=>c σ e λx b=>∃a o,x=.ref a/\pg b a y o/\Q (.bl o.isSome) b
noncomputable def Rb(ty c:TE):TE:=λσ H Q=>ty σ H λy e=>c σ e λx b=>∃a o,x=.ref a/\pg b a y o/\Q (.bl (!o.isSome)) b
noncomputable def aaw(c ty e:TE):TS:=λD σ H=>e σ H λv f=>c σ f λx g=>ty σ g λy h=>∃a b,x=.ref a/\aa7 h a y v b/\D.nx σ b
section
variable{X:Cx}{o i e value:dc}{pos pos' tpos:Pos}{td ty tv:TE}
theorem Qw(c:X.A.units+1<fT)(ho:PE X o td)(hi:PE X i ty)(hs:Qy i):PE X (.Subscript o i pos) (abm td ty):=by intro b s σ H Q I h;refine Ge PySem.F.slot_dict_getitem.lookup hs (cC (ho b s σ H _ I h) λu s1⟨x,H1,I1,rx,q1⟩=>cC (hi b s1 σ H1 _ I1 q1) λiv s2⟨y,H2,I2,ry,a,v,ex,g,q2⟩=>?_);subst ex;obtain rfl:u=dr a:=rx;exact⟨kZ I2 g,pB c I2 g ry λk s3 f j=>⟨v,H2,f,j,q2⟩⟩
theorem Ur(c:X.A.units+1<fT)(hi:PE X i ty)(ho:PE X o td):PC X .In i o (aeZ ty td):=by intro b s σ H Q I h;refine cC (hi b s σ H _ I h) λiv s1⟨y,H1,I1,ry,q1⟩=>cC (ho b s1 σ H1 _ I1 q1) λu s2⟨x,H2,I2,rx,a,ov,ex,g,q2⟩=>?_;subst ex;obtain rfl:u=dr a:=rx;exact abz c I2 g ry λs3 f=>⟨.bl ov.isSome,H2,f,rfl,q2⟩
theorem G5(c:X.A.units+1<fT)(hi:PE X i ty)(ho:PE X o td):PC X .NotIn i o (Rb ty td):=by intro b s σ H Q I h;refine cC (hi b s σ H _ I h) λiv s1⟨y,H1,I1,ry,q1⟩=>cC (ho b s1 σ H1 _ I1 q1) λu s2⟨x,H2,I2,rx,a,ov,ex,g,q2⟩=>?_;subst ex;obtain rfl:u=dr a:=rx;exact DQ c I2 g ry λs3 f=>⟨.bl (!ov.isSome),H2,f,rfl,q2⟩
theorem DX(c:X.A.units+1<fT)(ho:PE X o td)(hi:PE X i ty)(f:PE X value tv)(hs:fy value (a7 (.Subscript o i pos')) pos.line X.env=eS a_):PS X (.Assign [.Subscript o i pos'] value pos) (aaw td ty tv):=by intro b s σ H D I h;refine wpAny_Assign_Subscript (cC (f b s σ H _ I h) λr s1⟨v,H1,I1,rv,q1⟩=>cC (ho b s1 σ H1 _ I1 q1) λu s2⟨x,H2,I2,rx,q2⟩=>cC (hi b s2 σ H2 _ I2 q2) λiv s3⟨y,H3,I3,ry,a,H4,ex,g,q3⟩=>?_) hs;subst ex;obtain rfl:u=dr a:=rx;exact Hl c I3 g ry rv λs4 j=>⟨σ,H4,j,q3⟩
end
theorem zW{P:da}(h:ej)(a:hJ<h.objs.size):bA P w H (h.push {cls:=.type "dict",data:=.dict #[]}) h.objs.size (.dK []):=⟨uO,beq_eq_false_iff_ne.mpr (fN (ec a)),[],.nil,Heap.DictOf.new h⟩
noncomputable def Vz:TE:=λ_ H Q=>∀p,H p=none->Q (.ref p) (upd H p (.dK []))
section
variable{X:Cx}{pos:Pos}
theorem zb:PE X (.Dict [] [] pos) Vz:=λb s σ H Q I h=>wpAny_Dict_empty ⟨.ref s.heap.objs.size,_,I.laid (a:=s.heap.objs.size) (o:=.dK []) (t':=s.toks) (λ_ _ q=>eG q) (dU) (zW s.heap I.big),rfl,h _ (I.hok.fresh (dU))⟩
end
noncomputable def BP:List (TE×TE)->St->Hp->(List (V×V)->Hp->Prop)->Prop|[],_,H,Q=>Q [] H|(tk,a)::r,σ,H,Q=>tk σ H λx b=>a σ b λy c=>BP r σ c λps e=>Q ((x,y)::ps) e
noncomputable abbrev VV:List (V×V)->List (bx×bx)->Prop:=Paired λp q=>RelV p.1 q.1/\RelV p.2 q.2
noncomputable def PPs(X:Cx)(pos:Pos)(keys:List (Option dc))(a:List dc)(e:List (TE×TE)):Prop:=∀(b:List (ce × Obj))(s:b_)(σ:St)(H:Hp)(Q:List (V × V)->Hp->Prop),Inv X b σ H s->BP e σ H Q->cz (cK X.prog X.w) X.A (evalPairs (pairTrees keys a X.env pos)) (λvs f=>∃ps c,Inv X b σ c f/\VV ps vs/\Q ps c) X.xe s
theorem FT:PPs X pos [] [] []:=λa s σ H Q I h=>pairTrees_nil_walk ⟨[],H,I,.nil,h⟩
theorem Ae{k v:dc}{ks:List (Option dc)}{vs:List dc}{tk b:TE}{c:List (TE×TE)}(e:PE X k tk)(f:PE X v b)(hr:PPs X pos ks vs c):PPs X pos (a7 k::ks) (v::vs) ((tk,b)::c):=λa s σ H Q I h=>pairTrees_cons_walk (cC (e a s σ H _ I h) λu s1⟨x,H1,I1,rx,q1⟩=>cC (f a s1 σ H1 _ I1 q1) λg s2⟨y,H2,I2,ry,q2⟩=>cC (hr a s2 σ H2 _ I2 q2) λws s3⟨ps,H3,I3,rel,q3⟩=>⟨(x,y)::ps,H3,I3,.cons ⟨rx,ry⟩ rel,q3⟩)
noncomputable def pN(kvs more:List (Key×V)):List (Key×V):=more.foldl (λa b=>putK a b.1 b.2) kvs
theorem KV.merge:∀{more:List (Key×V)}{a:List (Key×bx)}{kvs:List (Key×V)}{vs:List (Key×bx)},KV more a->KV kvs vs->KV (pN kvs more) (merged vs a):=by intro more a kvs vs r;unfold KV at r;induction r generalizing kvs vs with|nil=>intro q;exact q|@cons p q ps c h t b=>
   intro r0;have e:KV (putK kvs p.1 p.2) (stored vs q.1 q.2):=by have:=r0.put p.1 h.2;rw[<-h.1];exact this
   exact b e
theorem mC:∀(more kvs:List (Key×V)),(pN kvs more).length<=kvs.length+more.length|[],kvs=>by show kvs.length<=kvs.length+0;omega|p::r,kvs=>by have h1:=mC r (putK kvs p.1 p.2);have a:=j6 kvs p.1 p.2;show(pN (putK kvs p.1 p.2) r).length<=_;rw[dV];omega
theorem tY{P:da}{w:eg}:∀{kvs:List (Key×V)}{ws:List (bx×bx)},VV (kvs.map λf=>(kV f.1,f.2)) ws->∃e,Carries (aY P w) ws e/\KV kvs e|[],_,r=>by rw[ow]at r;cases r;exact⟨[],kA,.nil⟩|p::kvs,_,r=>by rw[de]at r;cases r with|@cons a b as bs h t=>obtain⟨e,c,q⟩:=tY (P:=P) (w:=w) t;obtain⟨b1,b2⟩:=b;exact⟨(p.1,b2)::e,⟨sr h.1,rfl,c⟩,.cons ⟨rfl,h.2⟩ q⟩
noncomputable def abu(c:List (TE×TE)):TE:=λσ H Q=>∀p,H p=none->BP c σ (upd H p (.dK [])) λps a=>a p=a7 (.dK [])/\∃kvs:List (Key×V),ps=kvs.map (λb=>(kV b.1,b.2))/\kvs.length<=15/\Q (.ref p) (upd a p (.dK (pN [] kvs)))
theorem Em{keys:List (Option dc)}{b:List dc}{j:List (TE×TE)}(h:PPs X pos keys b j)(f:keys.all (·.isSome)=bT)(l:keys.length=b.length)(h0:keys≠[])(i:keys.length<=15):PE X (.Dict keys b pos) (abu j):=by
 intro g s σ H Q I q;have m:=I.hok.fresh (le_refl s.heap.objs.size);have n:=I.laid (a:=s.heap.objs.size) (o:=.dK []) (h':=s.heap.push {cls:=.type "dict",data:=.dict #[]}) (t':=s.toks) (λ_ _ q=>eG q) (dU) (zW s.heap I.big);refine wpAny_Dict_walk (knd:=aY X.prog X.w) f l h0 i (cC (h g _ σ _ _ n (q _ m)) λws s2⟨ps,H2,I2,rel,e,kvs,ep,lk,q2⟩=>?_);subst ep;obtain⟨p,c,r⟩:=tY (P:=X.prog) (w:=X.w) rel;obtain⟨z,hd,t,r0,dd⟩:=RP I2.hok e;cases r0;refine⟨p,c,dd,λh' k hs=>⟨.ref s.heap.objs.size,_,?_,rfl,q2⟩⟩;have hz:(pN [] kvs).length<=sizeLine:=by have h1:=mC kvs [];rw[length_nil]at h1;rw[fb];omega
 have he:∃q,h'.get? s.heap.objs.size=a7 q:=let⟨q,_,_,hq,_⟩:=k;⟨q,hq⟩;exact wW I2 (by rw[e];exact kA) hs he (Mq hz hd (r.merge .nil) k)
structure M2(X:Cx)(o:dc)(m:Str)(apos:Pos)(e f:dc)(cpos:Pos):Prop where
 base:iA o m X.env (er o X.env)=er o X.env
 few:((gI cpos (cv [e,f] X.env)).all (λx=>!x.1)&&(o3 cpos (l6 [] X.env)).all (λx=>x.1.isSome)&&decide (([e,f]:List dc).length+([]:List kC).length+(if([]:List kC).isEmpty then 0 else 1)<30))=bT
 line:(apos.endLine==cpos.line)=bT
 trees:gI cpos (cv [e,f] X.env)=[(a_,er e X.env),(a_,er f X.env)]
noncomputable def IsD(H:Hp)(a:ce):Prop:=(∃kvs,Rd H a (.dK kvs))\/∃kvs,Rd H a (.dT kvs)
theorem Wb{f:List (ce×Obj)}{σ:St}{s:b_}{a:ce}(I:Inv X f σ H s)(d:IsD H a):s.TypeIs (.ref a) "dict"/\(∀b,dr a=.ref b->∃c,s.heap.get? b=a7 c/\c.dict=none)/\(a==hJ)=a_:=by
 rcases d with⟨kvs,e⟩|⟨kvs,e⟩;.obtain⟨_,hd,vs,_,dd⟩:=p6 I.hok e;refine⟨dd.typeIs,λb q=>?_,hd⟩;cases q;obtain⟨c,_,_,h1,g,_⟩:=dd;exact⟨c,h1,g.2.1⟩
 .obtain⟨_,hd,xs,_,dd⟩:=ud I.hok e;refine⟨dd.typeIs,λb q=>?_,hd⟩;cases q;obtain⟨c,_,_,h1,g,_⟩:=dd;exact⟨c,h1,g.2.1⟩
section
variable{X:Cx}{pins:List (ce×Obj)}{σ:St}{H:Hp}{s:b_}{a:ce}{y d:V}{u r:bx}{o:Option V}{A:ek}{E:bx->b_->Prop}
theorem Xu(p:A.units+1<fT)(I:Inv X pins σ H s)(g:pg H a y o)(i:RelV y u)(j:RelV d r)(h:∀m n,Inv X pins σ H n->RelV (o.getD d) m->Q m n):cz (cK X.prog X.w) A (call (.builtin "dict.get") [.ref a,u,r]) Q E s:=by
 rcases g with⟨kvs,k,e,f,l⟩|⟨kvs,k,b,e,f,q,l⟩;.subst f;obtain⟨z,hd,vs,c,dd⟩:=p6 I.hok e;refine rd slot_dict_get dd.typeIs PySem.F.entry_dict_get (PySem.F.args_dict_get_3 _ _ _) (meets_dict_get_default (aY X.prog X.w) a (sr i) hd r) ⟨_,dd.mapOf,h _ _ (I.tok _) ?_⟩;rw[l];exact(c.val k).getD j
 .subst f;cases(show u=dr b from i);obtain⟨z,hd,xs,c,dd⟩:=ud I.hok e;refine rd slot_dict_get dd.typeIs PySem.F.entry_dict_get (PySem.F.args_dict_get_3 _ _ _) (meetsH_dict_get_default (me (aY X.prog X.w)) a b hd r) ⟨iF p,k,xs,pO I.hok q,dd,h _ _ (I.tok _) ?_⟩;rw[l];exact(c.val k).getD j
end
noncomputable def Wn(e ty f:TE):TE:=λσ H Q=>e σ H λx b=>∃a,x=.ref a/\IsD b a/\ty σ b λy g=>f σ g λz c=>∃o,pg c a y o/\Q (o.getD z) c
section
variable{X:Cx}{o e f:dc}{apos cpos:Pos}{td ty tx:TE}
theorem Mj(c:X.A.units+1<fT)(ho:PE X o td)(he:PE X e ty)(i:PE X f tx)(m:M2 X o "get" apos e f cpos):PE X (.Call (.Attribute o "get" apos) [e,f] [] cpos) (Wn td ty tx):=by intro b s σ H Q I h;refine wpAny_Call_method m.base m.few m.line PySem.F.plainAttrs_dict slot_dict_get PySem.F.type_dict_get (cC (ho b s σ H _ I h) λu s1⟨x,H1,I1,rx,a,ex,d,q1⟩=>?_);subst ex;obtain rfl:u=dr a:=rx;obtain⟨t1,t2,_⟩:=Wb I1 d;refine⟨t1,t2,?_⟩;rw[m.trees];refine kx rfl (kU (iq (cC (he b s1 σ H1 _ I1 q1) λiv s2⟨y,H2,I2,ry,q2⟩=>iq (cC (i b s2 σ H2 _ I2 q2) λl s3⟨z,H3,I3,rz,ov,g,q3⟩=>ka ?_))));exact Xu c I3 g ry rz λn s4 j k=>⟨_,H3,j,k,q3⟩
end
end _L
namespace _H
open PySem _L Spec PyProof.Rows
variable{kvs:List (Int×D)}{es:List (Key×V)}{k:Int}{i:Nat}
inductive KR(K:PySem.W.Frag)(F:Hp):List (Int×D)->List (Key×V)->Prop where|nil:KR K F [] []|cons{k:Int}{d:D}{v:V}{kvs:List (Int×D)}{es:List (Key×V)}(h:Rep K F v d)(t:KR K F kvs es):KR K F ((k,d)::kvs) ((dA k,v)::es)
section
variable{K:PySem.W.Frag}{F F':Hp}
noncomputable def ent(ks:List Int)(vs:List V):List (Key×V):=(ks.zip vs).map λp=>(dA p.1,p.2)
theorem KR.of:∀{kvs:List (Int×D)}{vs:List V},aH K F vs (kvs.map (·.2))->KR K F kvs (ent (kvs.map (·.1)) vs)|[],vs,h=>by rw[ow]at h;rw[h.gV];exact .nil|(k,d)::kvs,vs,h=>by obtain⟨v,r,rfl,h1,a⟩:=h.cL;exact .cons h1 (KR.of a)
theorem KR.to(h:KR K F kvs es):∃vs,es=ent (kvs.map (·.1)) vs/\aH K F vs (kvs.map (·.2)):=by induction h with|nil=>exact⟨[],rfl,.nil⟩|@cons k d v kvs es h t a=>obtain⟨vs,rfl,r⟩:=a;exact⟨v::vs,rfl,.cons h r⟩
theorem KR.oc(h:KR K F kvs es):mF K F (.dK es) (.v kvs):=by obtain⟨vs,rfl,r⟩:=h.to;exact⟨vs,rfl,r⟩
theorem KR.Xm{o:HO}(h:mF K F o (.v kvs)):∃es,o=.dK es/\KR K F kvs es:=by obtain⟨vs,rfl,r⟩:=h;exact⟨_,rfl,.of r⟩
theorem KR.len(h:KR K F kvs es):es.length=kvs.length:=by induction h with|nil=>rfl|cons h t a=>simp[a]
theorem KR.get{d:D}(h:KR K F kvs es)(e:mQ kvs k=a7 d):∃v,jY es (dA k:Key)=a7 v/\Rep K F v d:=by induction h with|nil=>cases e|@cons j d' v kvs es h t a=>
   unfold mQ at e a;rw[fF]at e;by_cases c:j=k;.simp[c]at e;subst e;exact⟨v,m7 (by rw[c]),h⟩
   .simp[c]at e;obtain⟨b,h1,f⟩:=a (by simpa using e);exact⟨b,by rw[nZ (by simpa using c)];exact h1,f⟩
theorem KR.any{kvs:List (Int×D)}{es:List (Key×V)}(k:Int)(h:KR K F kvs es):(es.any λa=>decide (a.1=(dA k:Key)))=kvs.any λp=>decide (p.1=k):=by induction h with|nil=>rfl|cons h t b=>simp[b]
theorem KR.has(k:Int)(h:KR K F kvs es):(jY es (dA k:Key)).isSome=(kvs.map (·.1)).contains k:=by rw[<-tH,h.any k];induction h with|nil=>rfl|@cons j d v kvs es h t a=>rw[l8,a,de,lA];congr 1;exact Bool.eq_iff_iff.mpr ⟨λz=>by simp at z ⊢;exact z.symm,λz=>by simp at z ⊢;exact z.symm⟩
theorem KR.repl{d:D}{v:V}(r:Rep K F v d)(h:KR K F kvs es):KR K F (kvs.map λp=>if p.1=k then(p.1,d)else p) (es.map λa=>if a.1=(dA k:Key)then(a.1,v)else a):=by induction h with|nil=>exact .nil|@cons j d' e kvs es h t b=>
   by_cases c:j=k;.subst c;simp;exact .cons r b
   . have:¬(dA j:Key)=dA k:=by simpa using c
     simp[c,this];exact .cons h b
theorem KR.snoc{d:D}{v:V}(r:Rep K F v d)(h:KR K F kvs es):KR K F (kvs++[(k,d)]) (es++[(dA k,v)]):=by induction h with|nil=>exact .cons r .nil|cons h t a=>exact .cons h a
theorem KR.put{d:D}{v:V}(r:Rep K F v d)(h:KR K F kvs es):KR K F (iB kvs k d) (putK es (dA k:Key) v):=by
 unfold iB putK;rw[h.any k];split;.exact h.repl r
 .exact h.snoc r
theorem KR.zip{ks:List Int}{a:List D}{vs:List V}(h:aH K F vs a)(b:ks.length=a.length):KR K F (ks.zip a) (ent ks vs):=by induction a generalizing ks vs with
 |nil=>rw[h.gV];cases ks with|nil=>exact .nil|cons _ _=>simp at b
 |cons d a c=>obtain⟨v,r,rfl,h1,e⟩:=h.cL;cases ks with|nil=>simp at b|cons k ks=>exact .cons h1 (c e (by simpa using b))
end
section
variable{K:PySem.W.Frag}{F F1 H H1:Hp}{ρ ρ1 ρ2:List Sl}{σ σ1:_L.St}
theorem GS.agC{x:Nat}{m p:Dc}{a:ce}(g:GS K F ρ σ H)(e:ρ[x]?=a7 (.gZ m))(r:σ[x]?=a7 (a7 (.ref a))):aq K F ρ σ H F (ρ.set x (.gZ p)) σ (upd H a p.ho):=by
 have hi:x<ρ.length:=(fu e).1;have v:aQ ρ σ x a:=⟨⟨_,_,e,rfl⟩,r⟩;obtain⟨G,I,h1,J,w,L⟩:=g.own x _ _ e rfl;rw[r]at h1;cases h1;have f:∀{j:Nat}{c:ce},aQ (ρ.set x (.gZ p)) σ j c->aQ ρ σ j c:=λ{j c}⟨⟨t,dt,h,s⟩,q3⟩=>by
  by_cases b:j=x;.subst b;exact⟨⟨_,_,e,rfl⟩,q3⟩
  .rw[fY b]at h;exact⟨⟨t,dt,h,s⟩,q3⟩
 refine⟨⟨λc o q=>?_,by simp[g.len],λj b' d q=>?_,λj t dt q u=>?_,λj k c h s=>g.dis j k c (f h) (f s)⟩,.refl _,λc n z=>absurd n z,λc o q n=>?_,λc⟨j,q⟩=>.inl ⟨j,f q⟩,by simp,λj t q l=>⟨rfl,?_⟩⟩
 . have:c≠a:=by rintro rfl;rw[w]at q;cases q
   rw[aA this];exact g.sub c o q
 . by_cases b:j=x;.subst b;rw[cu hi]at q;cases q
   .rw[fY b]at q;exact g.val j b' d q
 . by_cases b:j=x;.subst b;rw[cu hi]at q;cases q;cases u;exact⟨a,_,r,aL,w,rfl⟩
   . rw[fY b]at q;obtain⟨c,A,y,B,C,E⟩:=g.own j t dt q u;have:c≠a:=by rintro rfl;exact b (g.dis j x c ⟨⟨t,dt,q,u⟩,y⟩ v)
     exact⟨c,A,y,by rw[aA this];exact B,C,E⟩
 . have:c≠a:=by rintro rfl;exact n ⟨x,v⟩
   rw[aA this];exact q
 . by_cases b:j=x;.subst b;rw[e]at q;cases q;cases l
   .exact⟨t,by rw[fY b];exact q,.refl t⟩
theorem GS.newD{m:Dc}{a:ce}(g:GS K F ρ σ H)(e:ρ[i]?=a7 .aM)(r:H a=none):aq K F ρ σ H F (ρ.set i (.gZ m)) (σ.set i (a7 (.ref a))) (upd H a m.ho):=by
 have hi:i<ρ.length:=(fu e).1;have s:i<σ.length:=by rw[<-g.len];exact hi
 have w:F a=none:=by cases q:F a with|none=>rfl|some o=>rw[g.sub a o q]at r;cases r
 have f:∀{j:Nat}{c:ce},j≠i->aQ (ρ.set i (.gZ m)) (σ.set i (a7 (.ref a))) j c->aQ ρ σ j c:=λ{j c}b⟨⟨t,ds,e1,e2⟩,e3⟩=>by rw[fY b]at e1 e3;exact⟨⟨t,ds,e1,e2⟩,e3⟩
 have new:∀{c:ce},aQ (ρ.set i (.gZ m)) (σ.set i (a7 (.ref a))) i c->c=a:=λ{c}⟨_,e3⟩=>by rw[cu s]at e3;cases e3;rfl
 have no:∀{j:Nat},¬ aQ ρ σ j a:=λ{j}⟨⟨t,ds,e1,e2⟩,e3⟩=>by obtain⟨c,o,h,p,_⟩:=g.own j t ds e1 e2;rw[e3]at h;cases h;rw[r]at p;cases p
 refine⟨⟨λc o q=>?_,by simp[g.len],λj b' d q=>?_,λj t dt q x=>?_,λj k c h p=>?_⟩,.refl _,λc n y=>absurd n y,λc o q n=>?_,λc⟨j,q⟩=>?_,by simp,λj t q l=>?_⟩
 . have:c≠a:=by rintro rfl;rw[w]at q;cases q
   rw[aA this];exact g.sub c o q
 . by_cases b:j=i;.subst b;rw[cu hi]at q;cases q
   .rw[fY b]at q ⊢;exact g.val j b' d q
 . by_cases b:j=i;.subst b;rw[cu hi]at q;cases q;cases x;exact⟨a,_,cu s,aL,w,rfl⟩
   . rw[fY b]at q ⊢;obtain⟨c,o,z,v,A,B⟩:=g.own j t dt q x;have:c≠a:=by rintro rfl;rw[r]at v;cases v
     exact⟨c,o,z,by rw[aA this];exact v,A,B⟩
 . by_cases b:j=i
   . by_cases u:k=i;.rw[b,u]
     .subst b;rw[new h]at p;exact absurd (f u p) no
   . by_cases u:k=i;.subst u;rw[new p]at h;exact absurd (f b h) no
     .exact g.dis j k c (f b h) (f u p)
 . have:c≠a:=by rintro rfl;rw[r]at q;cases q
   rw[aA this];exact q
 . by_cases b:j=i;.subst b;rw[new q];exact .inr r
   .exact .inl ⟨j,f b q⟩
 . have b:j≠i:=by rintro rfl;rw[e]at q;cases q;cases l
   exact⟨by rw[fY b],t,by rw[fY b];exact q,.refl t⟩
end
noncomputable def uR(p:Int×Int):Key×V:=(dA p.1,V.int p.2)
theorem Jo(i:Int):∀kvs:List (Int×Int),jY (kvs.map uR) (dA i:Key)=((kvs.find? λb=>decide (b.1=i)).map (·.2)).map V.int
 |[]=>rfl|p::kvs=>by
   have a:=Jo i kvs;unfold jY at a ⊢;rw[de,fF,fF];by_cases h:p.1=i
   . have e:decide ((uR p).1=(dA i:Key))=bT:=by simp[uR,h]
     rw[e];simp[h,uR]
   . have e:decide ((uR p).1=(dA i:Key))=a_:=by simp[uR,h]
     rw[e];simp only[h,decide_false];exact a
theorem U6(i v:Int)(kvs:List (Int×Int)):putK (kvs.map uR) (dA i:Key) (V.int v)=(putD kvs i v).map uR:=by
 have e:((kvs.map uR).any λa=>decide (a.1=(dA i:Key)))=kvs.any λa=>decide (a.1=i):=by rw[List.any_map];congr 1;funext p;simp[uR]
 unfold putK putD;rw[e];split
 . rw[eJ,eJ];refine gu λp _=>?_;by_cases h:p.1=i;.simp[uR,h]
   .simp[uR,h]
 .rw[ig];rfl
section
variable{X:Cx}{c:Call}{n:Nat}{a b e:dc}{pa pb p:P}{pos:Pos}
theorem Ks{H:Hp}{q:ce}{m:Dc}{i:Int}{o:Option Int}(h:Rd H q m.ho)(e:m.get (.int i)=a7 o):pg H q (.int i) (o.map V.int):=by cases m with|k kvs=>cases e;exact .inl ⟨kvs.map uR,dA i,h,rfl,(Jo i kvs).symm⟩|t kvs=>cases e
theorem nU(hu:X.A.units+8<fT)(M:SX X c a pa)(N:SX X c b pb)(hs:Qy b):SX X c (.Subscript a b pos) (.bin .yF pa pb):=by refine xM (f:=zU) (λh1 O=>?_) M N (λρ=>rfl) rfl;intro l s σ H Q I h;refine Ge PySem.F.slot_dict_getitem.lookup hs (cC (h1 l s σ H _ I h) λu s1⟨x,H1,I1,rx,q1⟩=>cC (O l s1 σ H1 _ I1 q1) λiv s2⟨y,H2,I2,ry,q2⟩=>?_);obtain⟨F,d,e,r,sm,G,J,he,k⟩:=q2;cases d with
 |dI m=>have U:=cH (show(m.get e).bind (λo=>o.map λv=>R.val (.int v))=a7 r from he);clear he;obtain⟨o,w,he⟩:=U;cases o with|none=>cases he|some v=>
     cases he;obtain⟨i,rfl⟩:∃i,e=.int i:=by cases m with|t kvs=>cases e<;>cases w|k kvs=>cases e<;>first|exact⟨_,rfl⟩|cases w
     obtain⟨q,z,rfl,B⟩:=G.dI sm;rw[J.int]at ry;obtain rfl:u=dr q:=rx;have g:=Ks (.inr ⟨z,B⟩) w;exact⟨kZ I2 g,pB (by omega) I2 g ry λW s3 C E=>⟨.int v,H2,C,E,cM.dC sm (bW _) k⟩⟩
 |dv ks Y=>cases e with|int j=>obtain⟨d',Z,he⟩:=map_some (show(mQ (ks.zip Y) j).map R.val=a7 r from he);subst he;obtain⟨q,z,vs,rfl,B,rs,hl⟩:=G.dv sm;obtain⟨L,g1,g2⟩:=(KR.zip rs hl).get Z;rw[J.int]at ry;obtain rfl:u=dr q:=rx;have g:pg H2 q (.int j) (a7 L):=.inl ⟨_,dA j,.inr ⟨z,B⟩,rfl,g1.symm⟩;exact⟨kZ I2 g,pB (by omega) I2 g ry λW s3 C E=>⟨L,H2,C,E,cM.dC sm g2 k⟩⟩|_=>cases he
 |_=>cases he
theorem Fp{x:Str}{f p2:Pos}(h:X.N.Nodup)(hi:X.N[i]?=a7 x)(j:Loc X.env.scope x)(hs:fy (.Dict [] [] p2) (a7 (.Name x f)) pos.line X.env=eS a_:=by rfl)(l:X.fn x=bT\/X.env.scope.names.lookup x=a7 .local:=by first|(left;rfl)|(right;rfl)|assumption):SS X c n (.Assign [.Name x f] (.Dict [] [] p2) pos) (.Ik i a_):=by
 refine cO (o7 h hi j zb hs l) ?_;rintro D σ H⟨F,ρ,fl,o,g,e,k⟩;rw[_H.X19]at e;split at e;.rename_i q;cases e;exact λa r=>k F _ _ (g.newD (m:=.k []) q r)
 .cases e
theorem Mh{x:Str}{B f cpos:Pos}{pk C:P}(hu:X.A.units+8<fT)(W:X.N[i]?=a7 x)(Y:uQ X.env.scope x)(Z:SX X c a pk)(hb:SX X c b C)(m:M2 X (.Name x B) "get" f a b cpos)(hd:(x==("__debug__":Str))=a_:=by decide)(s:(x==("__classdict__":Str))=a_:=by decide):SX X c (.Call (.Attribute (.Name x B) "get" f) [a,b] [] cpos) (.XX i pk C):=by
 obtain⟨ta,h1,h2⟩:=Z.cZ;obtain⟨tb,h3,h4⟩:=hb.cZ;refine⟨dN (Mj (by omega) (dZ W Y hd s) h1 h3 m) ?_,λi h=>by cases h⟩;rintro σ H Q⟨F,ρ,r,ac,g,e,k⟩;rw[_H.E21]at e;split at e
 . rename_i m0 q;obtain⟨u,ae,e1,E⟩:=aa e;clear e;obtain⟨dd,af,e2,l⟩:=aa E;clear E;obtain⟨G,o0,I,J,w3,w4⟩:=g.own i _ _ q rfl;refine⟨.ref G,I,G,rfl,?_,?_⟩;.cases(show o0=m0.ho from w4);cases m0 with|k kvs=>exact .inl ⟨_,.inl J⟩|t kvs=>exact .inr ⟨_,.inl J⟩
   . refine h2 g e1 λv F1 H1 s1 pv=>h4 s1.gs e2 λz L H2 s2 M=>?_;split at l
     . rename_i m1 q1;obtain⟨O,e3⟩:=aF l;clear l;subst e3;obtain⟨o,y,eD⟩:=cH O;clear O;obtain⟨w,e5,e6⟩:=map_some eD;subst e6;obtain⟨a1,o1,U,y2,y3,y4⟩:=s2.gs.own i _ _ q1 rfl;rw[I]at U;cases U;cases(show o1=m1.ho from y4);obtain⟨j,rfl⟩:∃j,u=.int j:=by cases m1 with|t kvs=>cases u<;>cases y|k kvs=>cases u<;>first|exact⟨_,rfl⟩|cases y
       rw[dm e5]at M;rw[pv.int,M.int];refine⟨o.map V.int,Ks (.inl y2) y,?_⟩;have:(o.map V.int).getD (V.int w)=V.int (o.getD w):=by cases o<;>rfl
       rw[this];exact k _ L H2 (s1.trans s2) (show Rep X.K L _ _ from bW _)
     .cases l
 .cases e
theorem Fw{x:Str}{C f:Pos}{pk:P}(hu:X.A.units+8<fT)(J:X.N[i]?=a7 x)(L:uQ X.env.scope x)(M:SX X c a pk)(he:SX X c e p)(hs:fy e (a7 (.Subscript (.Name x C) a f)) pos.line X.env=eS a_:=by rfl)(hd:(x==("__debug__":Str))=a_:=by decide)(s:(x==("__classdict__":Str))=a_:=by decide):SS X c n (.Assign [.Subscript (.Name x C) a f] e pos) (.dput i pk p):=by
 obtain⟨ta,h1,O⟩:=M.cZ;refine cO (DX (by omega) (dZ J L hd s) h1 he.ev hs) ?_;rintro D σ H⟨F,ρ,fl,Q,g,e,k⟩;rw[_H.X20]at e;obtain⟨r,u,U,o⟩:=aa e;clear e;refine⟨F,ρ,r,u,g,U,λv F1 H1 s1 W=>?_⟩;split at o
 . rename_i m0 Y;obtain⟨E,Z,e2,h⟩:=aa o;clear o;obtain⟨z,o0,B,w2,w3,w4⟩:=s1.gs.own i _ _ Y rfl;refine⟨.ref z,B,O s1.gs e2 λy F2 H2 s2 py=>?_⟩;split at h
   . rename_i m w q;split at h;.rename_i G l;cases h;obtain⟨a1,o1,I,y2,y3,y4⟩:=s2.gs.own i _ _ q rfl;rw[B]at I;cases I;cases(show o1=m.ho from y4);cases(show v=.int w by have:Rep X.K F1 v (.int w):=W;rwa[Rep]at this);refine⟨z,upd H2 z G.ho,rfl,?_,k F2 σ _ ((s1.trans s2).trans (s2.gs.agC q B))⟩;cases m with|t kvs=>cases E<;>cases l|k kvs=>cases E with|int j=>obtain⟨hl,l⟩:=bD (show(if kvs.length<lim then a7 (Dc.k (putD kvs j w))else none)=a7 G from l);subst l;rw[py.int];refine .inl ⟨kvs.map uR,dA j,y2,rfl,by rw[ef,fb];exact hl,?_⟩;rw[U6];rfl|_=>cases l
     .cases h
   .cases h
 .cases o
end
end _H
namespace _L
open PySem Spec PyProof.Rows
noncomputable def Itk(a:ce)(b:Obj)(kvs:List (Key×V)):It:=⟨λi H=>H a=a7 (.dD b (.dK kvs))/\i<kvs.length,λi H x c=>c=H/\∃p,kvs[i]?=a7 p/\x=kV p.1,λi H=>H a=a7 (.dD b (.dK kvs))/\kvs.length<=i⟩
theorem KV.get:∀{κ:Type}{kvs:List (κ×V)}{vs:List (κ×bx)}{i:Nat}{p:κ×V},KV kvs vs->kvs[i]?=a7 p->∃v,vs[i]?=a7 (p.1,v)|_,_,_,_,_,.nil,e=>by simp at e|_,_,_,0,_,.cons r _,e=>by simp at e;subst e;exact⟨_,by rw[oq,r.1]⟩|_,_,_,i+1,p,.cons _ t,e=>by obtain⟨v,h⟩:=KV.get (i:=i) (p:=p) t (by simpa using e);exact⟨v,by simpa using h⟩
theorem vY{X:Cx}{b:List (ce×Obj)}{σ:St}{H:Hp}{s:b_}{a:ce}{c:Obj}{kvs:List (Key×V)}{es:Array DictEntry}{ep:Nat}(I:Inv X b σ H s)(h:H a=a7 (.dD c (.dK kvs)))(hd:c.data=.dict es ep):(a==hJ)=a_/\∃vs,KV kvs vs/\s.heap.DictAt (aY X.prog X.w) a vs ep:=by obtain⟨ho,hz,f,vs,r,dd⟩:=(show bA X.prog X.w H s.heap a (.dD c (.dK kvs))from I.hok a _ h);obtain⟨o,g,i,h1,j,e,k⟩:=dd;rw[ho]at h1;cases h1;rw[hd]at e;cases e;exact⟨f,vs,r,⟨c,es,ho,j,hd,k⟩⟩
theorem XJ{P:da}{w:eg}{k:Key}{u:bx}(h:(aY P w).is k u=bT):RelV (kV k) u:=by
 rcases bF h with⟨i,t,rfl,rfl⟩|⟨x,t,rfl,rfl⟩;.exact⟨t,rfl⟩
 .exact⟨t,rfl⟩
theorem Ig{P:da}{w:eg}{K:PySem.W.Frag}{B:dc}(a it:ce)(y:Obj)(kvs:List (Key×V))(es:Array DictEntry)(ep:Nat)(hd:y.data=.dict es ep):Turn P w K B (Itk a y kvs) [it] it (λi h=>h.IsKeyIter it a i kvs.length ep)where
 mem:=by simp
 obj:=λi h st b g=>by
  have e:b=it:=by simpa using g
  subst e;obtain⟨o,e,c,d⟩:=st;exact⟨o,e,λv z=>by rw[d]at z;cases z⟩
 keep:=λi h h' st k=>st.at λo e=>k it (by simp) o e;item:=by intro X n p q hc i f s σ H E I m st t;subst n p q;obtain⟨x,hi⟩:=t;obtain⟨C,vs,r,dd⟩:=vY I x hd;have l:vs.length=kvs.length:=(Paired.length r).symm;obtain⟨v,G⟩:=KV.get r (show kvs[i]?=a7 kvs[i]by simp[hi]);obtain⟨f0,f1,f2,f3,f4,f5⟩:=m it (by simp);refine wpAny_pyNext_dict_item (by rw[l];exact st) dd G λu h' J j L=>?_;have M:Inv X f σ H {s with heap:=h'}:=I.turned (t':=s.toks) (λb o g e=>(L.2 b g).trans e) f0 f1 f3 f4 f5;rw[l]at j;obtain⟨o,e,c,d⟩:=id j;exact⟨u,rfl,Gw (s:={s with heap:=h'}) e c d (by decide) ⟨_,H,M,XJ J,⟨rfl,_,by simp[hi],rfl⟩,j,λb g=>(m b g).1⟩⟩
 done:=by intro X n p q hc i f s σ H E I m st t;subst n p q;obtain⟨x,hi⟩:=t;obtain⟨C,vs,r,dd⟩:=vY I x hd;have l:vs.length=kvs.length:=(Paired.length r).symm;obtain⟨f0,f1,f2,f3,f4,f5⟩:=m it (by simp);refine wpAny_pyNext_dict_end (I.ok.hd hc) (by rw[l];exact st) dd (by simp[l,hi]) λh' he=>⟨rfl,?_⟩;exact I.turned (t':=s.toks) (λb o g e=>he b o g e) f0 f1 f3 f4 f5
 self:=λA i s Q E st N=>wpAny_pyIter_keyiter st N
section
variable{X:Cx}{tg:dc}
theorem Qf{l:dc}{k:TE}(n:PE X l k):PI X tg l (λσ H R=>k σ H λx f=>∃a c kvs,x=.ref a/\f a=a7 (.dD c (.dK kvs))/\R (Itk a c kvs) f):=by
 intro g s σ H R I h;refine cC (n g s σ H _ I h) ?_;rintro v s1⟨x,f,j,r1,a,c,kvs,e,p,q⟩;subst e;cases r1;obtain⟨ho,hz,t,vs,r,dd⟩:=(show bA X.prog X.w f s1.heap a (.dD c (.dK kvs))from j.hok a _ p);obtain⟨o,es,ep,h1,u,m,y⟩:=id dd;rw[ho]at h1;cases h1;have i:vs.length=kvs.length:=(Paired.length r).symm;refine wpAny_pyIter_dict (knd:=aY X.prog X.w) (kvs:=vs) (ep:=ep) t ⟨c,es,ho,u,m,y⟩ ?_;refine⟨s1.heap.objs.size,[s1.heap.objs.size],_,_,f,rfl,j.kept (t':=s1.toks) λb o e=>eG e,Ig a _ c kvs es ep m,⟨_,cy _ rfl,rfl,by rw[i];rfl⟩,λb z=>?_,q⟩;have e:b=s1.heap.objs.size:=by simpa using z
 subst e;exact j.Ie (dU) (j.hok.fresh (dU))
end
end _L
namespace _H
open PySem _L Spec PyProof.Rows
section
variable{X:Cx}{c:Call}{tg e:dc}{p:P}
theorem O3{ks:List Int}{es:List (Key×V)}{j:Nat}{p:Key×V}{i:Int}(h:es.map (·.1)=ks.map (dA:Int->Key))(a:es[j]?=a7 p)(b:ks[j]?=a7 i):p.1=dA i:=by
 have:(es.map (·.1))[j]?=(ks.map (dA:Int->Key))[j]?:=by rw[h]
 rw[eV,eV,a,b]at this;exact ez this
theorem ur:∀{ks:List Int}{vs:List V},ks.length=vs.length->(ent ks vs).map (·.1)=ks.map (dA:Int->Key)|[],[],_=>rfl|k::ks,v::vs,h=>by have:=ur (ks:=ks) (vs:=vs) (by simpa using h);unfold ent at this ⊢;simpa using this|[],_::_,h=>by simp at h|_::_,[],h=>by simp at h
theorem Pk(h:SX X c e p):SI X c tg e (.blt .keys [p]):=by
 unfold SI;obtain⟨ta,h1,W⟩:=h.cZ;refine nF (Qf h1) ?_;rintro σ H R⟨F,ρ,A,B,g,Y,k⟩;obtain⟨r,o,I,Z⟩:=aa (show((_H.ev c (.blt .keys [p]) ρ).bind λr ρ=>lift (items r.d) ρ)=.ok A B from Y);obtain⟨J,e3⟩:=aF Z;subst e3;rw[_H.E15]at I;obtain⟨d,ac,e1,eE⟩:=aa I;obtain⟨y,e4⟩:=aF eE;subst e4;refine W g e1 λv F' L s M=>?_;have hd:∃(ks:List Int)(es:List (Key×V))(a:ce)(b:Obj),A=ks.map D.int/\v=.ref a/\L a=a7 (.dD b (.dK es))/\es.map (·.1)=ks.map (dA:Int->Key):=by cases d with
  |dI m=>cases m with|k kvs=>cases y;cases J;obtain⟨a,b,rfl,f⟩:=M.dI s.gs.sub;exact⟨kvs.map (·.1),kvs.map uR,a,b,by rw[eJ];rfl,rfl,f,by rw[eJ,eJ];rfl⟩|t kvs=>cases y
  |dv ks ae=>cases y;cases J;obtain⟨a,b,vs,rfl,f,rs,hl⟩:=M.dv s.gs.sub;exact⟨ks,ent ks vs,a,b,rfl,rfl,f,ur (by rw[rs.length];exact hl)⟩|_=>cases y
 obtain⟨ks,es,a,b,rfl,rfl,f,u⟩:=hd;have C:es.length=ks.length:=by have:=congrArg k4 u;simpa using this
 refine⟨a,b,es,rfl,f,k _ F' L ⟨s.gs,λn j N o E H2 s2=>?_,λN o E H2 s2=>⟨s.trans s2,λv r rr=>rr.later s⟩⟩⟩;have gm:=s.gs.more (n:=n) (τ:=cp n none) (by simp);have w:=s2.keep a _ f λ⟨j,⟨t,dt,q1,q2⟩,q3⟩=>by obtain⟨a',o',O,Q,z3,G⟩:=gm.own j t dt q1 q2;rw[q3]at O;cases O;rw[f]at Q;cases Q;cases dt with|l A=>obtain⟨xs,z,_⟩:=G;cases z|d m=>cases m<;>cases G|v kvs=>obtain⟨xs,z,_⟩:=G;cases z
 refine⟨λd hd=>?_,λU=>⟨w,by rw[C];simpa using U⟩⟩;have U:j<ks.length:=by have:=(fu hd).1;simpa using this
 refine⟨⟨w,by omega⟩,λx oO⟨e5,q,e6,e7⟩=>?_⟩;subst e5;refine⟨N,.refl s2.gs.sub,?_⟩;rw[eV]at hd;obtain⟨i,e8,e9⟩:=map_some hd;rw[e7,O3 u e6 e8,<-e9];exact bW _
end
end _H
namespace _H
open PySem _L Spec PyProof.Rows Calls W
section
variable{X:Cx}{c:Call}{a:dc}{pa:P}{pos:Pos}
theorem nQ:∀{ns:List Int}{b:List bx},gL b ns->Vals (ns.map V.int) b|_,_,.nil=>.nil|_,_,.cons n t r=>.cons ⟨t,rfl⟩ (nQ r)
theorem vZ{K:PySem.W.Frag}{F:Hp}:∀ns:List Int,aH K F (ns.map V.int) (ns.map D.int)|[]=>.nil|n::ns=>.cons (bW n) (vZ ns)
end
end _H
namespace _H
open PySem _L Spec PyProof.Rows
theorem Inv.aek{X:Cx}{c:List (ce×Obj)}{σ:_L.St}{H:Hp}{s:b_}{a:ce}{kvs:List (List Key×V)}(I:_L.Inv X c σ H s)(h:H a=a7 (.dT kvs)):∃o,_L.Inv X c σ (upd H a (.dD o (.dT kvs))) s:=by obtain⟨z,y,xs,r,o,es,ep,h1,f,g,i,j⟩:=(show bA X.prog X.w H s.heap a (.dT kvs)from I.hok a _ h);refine⟨o,I.write (h':=s.heap) (t':=s.toks) (by rw[h];exact trivial) (.inl rfl) (λb u _ e=>e) ⟨o,h1⟩ ⟨h1,z,y,xs,KT.keeps r λb ys q=>?_,o,es,ep,h1,f,g,i,j⟩⟩;rw[aA (by rintro rfl;rw[h]at q;cases q)];exact q
section
variable{X:Cx}{c:Call}{n:Nat}{a b e:dc}{p pa pb:P}{pos:Pos}{es:List dc}{ps:List P}{x1:Nat}{tpos:Pos}
theorem Ab{i:Nat}{x:Str}{A:Pos}(B:X.N[i]?=a7 x)(C:uQ X.env.scope x)(hd:(x==("__debug__":Str))=a_:=by decide)(w:(x==("__classdict__":Str))=a_:=by decide):SX X c (.Name x A) (.vw i):=by
 have h:=dZ (X:=X) (pos:=A) B C hd w;refine⟨?_,λi h=>by cases h⟩;rintro f s σ H Q I⟨F,ρ,r,E,g,e,k⟩;rw[_H.E22]at e;split at e
 . rename_i m q;cases e;obtain⟨a,h1,j,l⟩:=g.Ez q;refine cC (h f s σ H (λv y=>v=.ref a/\y=H) I ⟨.ref a,h1,rfl,rfl⟩) λu s1⟨v,H1,I1,r1,e1,e2⟩=>?_;subst e1 e2;have G:∃o,_L.Inv X f σ (upd H1 a (.dD o m.ho)) s1:=by cases m with|k kvs=>exact Inv.Ma I1 j|t kvs=>exact Inv.aek I1 j
   obtain⟨o,z⟩:=G;exact⟨.ref a,_,z,r1,k _ _ _ (l o).1 (l o).2⟩
 .rename_i kvs q;cases e;obtain⟨a,vs,h1,j,l⟩:=g.Gv q;refine cC (h f s σ H (λv y=>v=.ref a/\y=H) I ⟨.ref a,h1,rfl,rfl⟩) λu s1⟨v,H1,I1,r1,e1,e2⟩=>?_;subst e1 e2;obtain⟨o,z⟩:=Inv.Ma I1 j;exact⟨.ref a,_,z,r1,k _ _ _ (l o).1 (l o).2⟩
 .rename_i b L q;cases e;obtain⟨v,J,h1,j,l⟩:=g.freeze q;exact h f s σ H Q I ⟨v,h1,k v J H j l⟩
 .rename_i b d q;cases e;obtain⟨v,h1,j⟩:=g.val i b d q;exact h f s σ H Q I ⟨v,h1,k v F H (.refl g) j⟩
 .cases e
end
end _H
namespace _H
open PySem _L Spec PyProof.Rows
section
variable{K:PySem.W.Frag}{F H F' H':Hp}{ρ ρ':List Sl}{σ σ':_L.St}
noncomputable def Kp(ρ:List Sl)(σ:_L.St)(H:Hp)(a:ce)(o:HO):Prop:=H a=a7 o/\¬ Own ρ σ a
theorem Kp.stp{a:ce}{o:HO}(h:Kp ρ σ H a o)(s:aq K F ρ σ H F' ρ' σ' H'):Kp ρ' σ' H' a o:=⟨s.keep a o h.1 h.2,λz=>(s.yL a z).elim h.2 λe=>by rw[h.1]at e;cases e⟩
structure Wt(K:PySem.W.Frag)(F:Hp)(ρ:List Sl)(σ:_L.St)(H:Hp)(a:ce)(ds:List D):Prop where
 ex:∃xs,Kp ρ σ H a (.lst xs)/\aH K F xs ds
 fr:F a=none
theorem Wt.stp{a:ce}{b:List D}(h:Wt K F ρ σ H a b)(s:aq K F ρ σ H F' ρ' σ' H'):Wt K F' ρ' σ' H' a b:=by obtain⟨⟨xs,h1,c⟩,e⟩:=h;refine⟨⟨xs,h1.stp s,c.mono s.bY⟩,?_⟩;cases q:F' a with|none=>rfl|some o=>
   rcases s.yK a e (by rw[q];simp)with z|z;.exact absurd z h1.2
   .rw[h1.1]at z;cases z
end
end _H
namespace _H
open PySem _L Spec PyProof.Rows
section
variable{X:Cx}{c:Call}{n:Nat}{e a b d elt tg:dc}{p pa pb pe:P}{pos:Pos}{elts:List dc}{x1:Nat}{tp:Pos}
noncomputable def aac(K:PySem.W.Frag)(i:Nat)(f:Ev):TI:=λσ H R=>∃F ρ j g h,GS K F ρ σ H/\JG i f ρ=.ok (j,g) h/\∀J F1 k,Walk K F ρ σ H (aP g (a7 i)) J j F1 h k->R J k
theorem O7{x:Str}{p':Pos}{i:Nat}(hx:x="zip")(hg:Gl X x)(hm:X.mg x=none)(hv:isVar pb=a7 i)(ha:SX X c a pa)(hb:SX X c b pb)(hs:cv [a,b] X.env=[(a_,er a X.env),(a_,er b X.env)]:=by rfl)(j:cv [b] X.env=[(a_,er b X.env)]:=by rfl):PI X (.Tuple elts x1 tp) (.Call (.Name x p') [a,b] [] pos) (aac X.K i (_H.ev c pa)):=by
 subst hx;refine nF (KD hg hm (bj ha.ev (bj (hb.var i hv) dw j) (by rw[hs,j])) hs j) ?_;rintro σ H R⟨F,ρ,ds,l,ac,g,e,k⟩;obtain⟨r,L,e1,e⟩:=aa e;obtain⟨es,m,I,e⟩:=aa e;have M:=aF I;clear I;obtain⟨I,e3⟩:=M;subst e3;refine⟨F,ρ,r,L,g,e1,λu N A s o=>?_⟩;obtain⟨F2,s2,_,ru⟩:=s.dD o;obtain⟨t2,O,ys,rfl,z,Q⟩:=ye ru I;split at e;.rename_i bb d' q;obtain⟨f,ae,J,e⟩:=aa e;have M:=aF J;clear J;obtain⟨J,e5⟩:=M;subst e5;cases e;obtain⟨v',h1,rv⟩:=s2.gs.val i bb d' q;obtain⟨t1,w,xs,rfl,q1,r1⟩:=ye rv J;refine⟨_,h1,t2,t1,O,w,rfl,⟨ys,aD.sq s2.gs.sub z⟩,⟨xs,aD.sq s2.gs.sub q1⟩,k _ _ _ ⟨s2.gs,λn k N B σ' A h=>rB (aD.sq h.gs.sub (aD.sq h.bY z)) (aD.sq h.gs.sub (aD.sq h.bY q1)) (Q.mono h.bY) (r1.mono h.bY) h.gs.sub k,λF3 m C H3 s3=>?_⟩⟩;unfold aP;dsimp only;rw[q];exact⟨s2.trans s3,λv r o=>o.later s2⟩
 . rename_i bb f q;cases e;have hi:i<l.length:=(fu q).1;have U:=s2.gs.lend q;have ql:(l.set i (.lent f))[i]?=a7 (.lent f):=cu hi;obtain⟨w,xs,h1,W,w3,w4⟩:=U.mZ i _ f ql rfl;refine⟨_,h1,t2,a_,O,w,rfl,⟨ys,aD.sq s2.gs.sub z⟩,⟨xs,gF.of W⟩,k _ _ _ ⟨U,λn k N B σ' A h=>?_,λF3 m C H3 s3=>?_⟩⟩;.obtain⟨E,t,Y,Z⟩:=h.lk i _ (by rw[cS (by simpa using hi)];exact ql) rfl;cases(show t=.lent f from Z);rw[cS (by rw[<-U.len];simpa using hi),h1]at E;obtain⟨a',y,G,u2,u3,u4⟩:=h.gs.mZ i _ f Y rfl;rw[E]at G;cases G;exact rB (aD.sq h.gs.sub (aD.sq h.bY z)) (show Sq a_ X.K A w y from gF.of u2) (Q.mono h.bY) u4 h.gs.sub k
   .unfold aP;dsimp only;rw[q];obtain⟨y1,y2⟩:=aq.aP s2.gs q s3;exact⟨s2.trans y1,λv r o=>(y2 v r o).later s2⟩
 . rename_i f q;cases e;have hi:i<l.length:=(fu q).1;obtain⟨w,xs,h1,W,w3,w4⟩:=s2.gs.mZ i _ f q rfl;refine⟨_,h1,t2,a_,O,w,rfl,⟨ys,aD.sq s2.gs.sub z⟩,⟨xs,gF.of W⟩,k _ _ _ ⟨s2.gs,λn k N B σ' A h=>?_,λF3 m C H3 s3=>?_⟩⟩;.obtain⟨E,t,Y,Z⟩:=h.lk i _ (by rw[cS hi];exact q) rfl;cases(show t=.lent f from Z);rw[cS (by rw[<-s2.gs.len];exact hi),h1]at E;obtain⟨a',y,G,u2,u3,u4⟩:=h.gs.mZ i _ f Y rfl;rw[E]at G;cases G;exact rB (aD.sq h.gs.sub (aD.sq h.bY z)) (show Sq a_ X.K A w y from gF.of u2) (Q.mono h.bY) u4 h.gs.sub k
   .unfold aP;dsimp only;rw[q];exact⟨s2.trans s3,λv r o=>o.later s2⟩
 .cases e
variable{scope:iO}{N':List Str}{ifs:List dc}{iter:dc}
theorem Ms{g:TG}{i:Nat}{is:List Nat}{one:Bool}{t:Option P}(hc:X.calm=bT)(ok:gj X scope N' n)(hi:PI X tg iter (aac X.K i (_H.ev c pb)))(o:∀cl C s₀ H₀ ex,PG (sW X scope N' cl C s₀ H₀ ex) tg g)(j:nG X.K X.N.length is one g)(ht:∀cl C s₀ H₀ ex,SQ (sW X scope N' cl C s₀ H₀ ex) c ifs t)(he:∀cl C s₀ H₀ ex,SX (sW X scope N' cl C s₀ H₀ ex) c elt pe)(hs:∀x,eN iter X.env x=eS x:=by intro _;rfl):SX X c (.ListComp elt [⟨tg,iter,ifs,0⟩] scope pos) (.wj i pb n is one t pe):=by
 refine⟨Lz (xJ (tt:=Iw X.K (uN c t)) (te:=yI X.K (_H.ev c pe)) hc ok hi o ht (λcl C s₀ H₀ ex=>(he cl C s₀ H₀ ex).ev) hs) ?_,λi h=>by cases h⟩;rintro σ H Q q⟨F,ρ,r,s,u,e,k⟩;rw[_H.E26]at e;obtain⟨⟨v,l⟩,m,w,e⟩:=aa e;dsimp only at e;split at e;.rename_i f;obtain⟨xs,y,z,e⟩:=aa e;cases e;exact Al q j (λR h=>⟨F,ρ,v,l,m,u,w,h⟩) f z k
 .cases e
end
end _H
namespace _H
open PySem PyProof.Rows
section
variable{M:oj}{A:ek}{E:bx->b_->Prop}{s:b_}{κ:i5}{ok:gl->Prop}{K:gl->Int}
theorem HF(R:Rk M A E s κ ok K){st b:iL}{xs:Array gl}{lo n:Nat}{Q:Option Nat->iL->Prop}(h:Sx κ ok st xs b)(f:lo+n<=xs.size)(h1:1<=n)(sg:Seg K xs lo (lo+n))(q:Q (a7 n) b):wpS M A E s (countRun' lo n) Q b:=by
 have one:∀ys:Array gl,Seg K ys lo (lo+1):=λys i j k l o=>by rw[show i=j by omega];exact fh _
 show wpS M A E s (_>>=_) Q b;refine hV (Vc (a:=1) (n:=n) R h f (le_refl 1) h1 (one xs) λm m1 p sm e=>?_);dsimp only;have c1:m=n:=by
  by_cases c:m=n;.exact c
  .have g:=e.resolve_left c;have:=sg (lo+m-1) (lo+m) (by omega) (by omega) (by omega);omega
 subst c1;rw[if_pos (by simp)];exact kl q
theorem SR.aap{x0 ys:Array gl}{l:List Rn}{lo n:Nat}{st:iL}(h:SR κ ok K x0 ys l lo st)(h1:1<=n)(a:lo+n<=ys.size)(hs:Seg K ys lo (lo+n)):SR κ ok K x0 ys (l++[(lo,n,0)]) (lo+n) (setPending st ((kf st).push (lo,n,0))):=⟨h.kind,h.arr,h.fail,by show((kf st).push (lo,n,0)).toList=_;rw[Array.toList_push,h.pend],h.perm,h.ok,yl.mpr ⟨lo,h.rns,rfl,h1,hs,rfl⟩,a⟩
theorem vy:∀(f n r:Nat),r<=1->n<64\/n<=f->q_ f n r<=n+r/\(64<=n->q_ f n r<=n)
 |0,n,r,hr,h=>by have e:q_ 0 n r=n+r:=rfl;rw[e];exact⟨dU,λz=>by omega⟩|f+1,n,r,hr,h=>by
   rw[minRun'_succ];by_cases c:n<64;.rw[if_pos c];exact⟨dU,λz=>by omega⟩
   .rw[if_neg c];have a:=vy f (n/2) (max r (n%2)) (by omega) (by omega);exact⟨by omega,λ_=>by omega⟩
theorem Mr(R:Rk M A E s κ ok K){x0:Array gl}{Q:Unit->iL->Prop}{st:iL}(h:SR κ ok K x0 x0 [] 0 st)(sg:Seg K x0 0 x0.size)(h1:1<=x0.size)(q:∀a,r6 a=x0->rV a=none->Q () a):wpS M A E s sortRuns' Q st:=by
 rw[sortRuns'_eq];refine hV (qr ?_);dsimp only;simp only[h.arr];have j:q_ x0.size x0.size 0<=x0.size:=(vy x0.size x0.size 0 (by omega) (.inr (dU))).1;generalize q_ x0.size x0.size 0=o at j;refine hV (wpS_mono (qv (I:=λx c a=>(c=(none,0)/\SR κ ok K x0 x0 [] 0 a/\x=0)\/(c=(none,x0.size)/\SR κ ok K x0 x0 [(0,x0.size,0)] x0.size a)) (Q:=λc a=>c=(none,x0.size)/\SR κ ok K x0 x0 [(0,x0.size,0)] x0.size a) ?_ ?_ (.inl ⟨rfl,h,rfl⟩)) ?_)
 . rintro x c f _ k(⟨rfl,b,rfl⟩|⟨rfl,b⟩)
   . dsimp only;rw[if_neg (by omega)];refine hV (HF R b.sx (lo:=0) (n:=x0.size-0) (by omega) (by omega) (by simpa using sg) ?_);dsimp only;rw[if_neg (by omega)];refine hV (qr ?_);have l:(kf f).back?=none:=by have:kf f=#[]:=mn.mp b.pend;rw[this];rfl
     rw[l];dsimp only;refine hV (wpS_modify (kl (.inr ⟨by simp,?_⟩)));have:=b.aap (n:=x0.size-0) (by omega) (by omega) (by simpa using sg);simpa using this
   .dsimp only;rw[if_pos (dU)];exact kl ⟨rfl,b⟩
 . rintro c f(⟨rfl,b,e⟩|⟨rfl,b⟩);.omega
   .exact⟨rfl,b⟩
 . rintro c f⟨rfl,b⟩;dsimp only;refine hV (wpS_mono (qv (I:=λx c a=>c=(none,())/\SR κ ok K x0 x0 [(0,x0.size,0)] x0.size a) (Q:=λc a=>c=(none,())/\SR κ ok K x0 x0 [(0,x0.size,0)] x0.size a) ?_ (λ_ _ h=>h) ⟨rfl,b⟩) ?_)
   . rintro x c g _ k⟨rfl,i⟩;refine hV (qr ?_);try dsimp only
     have m:(kf g).size<=1:=by rw[<-jd,i.pend];simp
     rw[if_pos m];exact kl ⟨rfl,i⟩
   .rintro c g⟨rfl,i⟩;dsimp only;exact kl (q g i.arr i.fail)
end
end _H
namespace _H
open PySem W PyProof.Rows Calls _L Spec
section
variable{prog:da}{w:eg}{A:ek}{E:bx->b_->Prop}{s:b_}{vs:List bx}{κ:i5}{P:bx->D->Prop}{ds:List D}
theorem Ky{a:ce}{n:Nat}{O:PySem.Fin->b_->Prop}(ho:s.heap.get? a=a7 (qS "list" vs.toArray n))(so:sortable ds=bT)(hz:vs.length<=16777216)(J:Paired P vs ds)(fn:∀u d e,P u d->P u e->dj d=dj e)(z:ds.Pairwise λa b=>oG a b=bT)(M:∀h',(∀b o,b≠a->s.heap.get? b=a7 o->h'.get? b=a7 o)->∀C:i5->b_->Prop,C κ {s with heap:=h'}->2<=vs.length->cz (cK prog w) A (keyKind' vs.toArray) C (λ_ _=>False) {s with heap:=h'})(hl:∀h',(∀b o,b≠a->s.heap.get? b=a7 o->h'.get? b=a7 o)->∀u v d e,P u d->P v e->∀C:Bool->b_->Prop,C (bB (dj d) (dj e)) {s with heap:=h'}->cz (cK prog w) A (keyLt' κ u v) C (λ_ _=>False) {s with heap:=h'})(h:∀h' c p,(∀b o,b≠a->s.heap.get? b=a7 o->h'.get? b=a7 o)->p.Perm (dL vs.length)->pick .non p ds=Tp ds->h'.get? a=a7 (qS "list" (pick .none p vs).toArray c)->O (.done (.ret .none)) {s with heap:=h'}):cz (cK prog w) A (iE.«list.sort» ⟨[.ref a],[]⟩) O E s:=by
 have ha:a<s.heap.objs.size:=du ho;have B:vs.length=ds.length:=Paired.length J;obtain⟨l,G⟩:∃l,(s.heap.update a (gc λ_=>(#[]:Array bx))).get? a=a7 (qS "list" #[] l):=⟨_,get?_update_seq ho λ_=>#[]⟩;rw[list_sort_plain];refine bd (listItems_at ho rfl ?_);refine bd (qa ho rfl ?_ (by rw[cE,fb];omega) (uO));refine bd (rL G rfl ?_);refine bd (wpAny_newTuple ?_ (by show vs.length<=_;rw[fb];omega));refine bd (wpAny_newList ?_ (uO));refine gd ?_;generalize hH:(((s.heap.update a (gc λ_=>(#[]:Array bx))).push {cls:=.type "tuple",data:=.seq vs.toArray}).push {cls:=.type "list",data:=.seq #[]}:ej)=m;have g:m.get? a=a7 (qS "list" #[] l):=by rw[<-hH];exact eG (eG G)
 have keep:∀b o,b≠a->s.heap.get? b=a7 o->m.get? b=a7 o:=λb o L e=>by rw[<-hH];exact eG (eG ((ea _ _ (fN L)).trans e))
 have fin:∀p:List Nat,p.Perm (dL vs.length)->pick .non p ds=Tp ds->O (.done (.ret .none)) {s with heap:=m.update a (gc λ_=>qA (pick .none p vs))}:=by intro p h1 f;obtain⟨c2,N⟩:∃c2,(m.update a (gc λ_=>qA (pick dE p vs))).get? a=a7 (qS "list" (pick dE p vs).toArray c2):=⟨_,get?_update_seq g λ_=>qA (pick dE p vs)⟩;exact h _ c2 p (λb o L e=>(ea _ _ (fN L)).trans (keep b o L e)) h1 f N
 show cz (cK prog w) A _ O E {s with heap:=m};dsimp only;by_cases f:vs.toArray.size<2
 . rw[if_pos f,if_pos f];refine bd (cx ?_);rw[StateT.run_pure];refine bd (cx ?_);dsimp only;have eo:(r6 (SortSt.mk' general' (vs.toArray.zip vs.toArray) #[] 7 none)).map (·.2)=qA (pick dE (dL vs.length) vs):=by rw[nj];apply mn.mp;show((vs.toArray.zip vs.toArray).map (·.2)).toList=vs;simp[List.map_snd_zip]
   rw[eo];refine bd (rL g rfl ?_);refine bd (qa g rfl ?_ (uO) (by rw[cE,tW (.refl _),fb];omega));simp only[bne_self_eq_false,gE,if_false];refine cx (fin _ (.refl _) ?_);rw[B,nj];refine ue so (.refl _) ?_;match ds,(show ds.length<2 by simp at f;omega)with|[],_=>exact .nil|[_],_=>exact List.pairwise_singleton ..|_::_::_,f=>simp at f;omega
 . rw[if_neg f,if_neg f];have U:2<=vs.length:=by simpa using f
   refine bd (M m keep _ ?_ U|>λq=>d_ q (λ_ _ x=>x) λ_ _ x=>x.elim);have ZV:(vs.toArray.zip vs.toArray).toList=(dL vs.length).map λi=>(vs.getD i dE,vs.getD i dE):=by
    refine oa (by simp) λi h1 f=>?_;have:i<vs.length:=by simpa using f
    simp[this]
   have W:∀x∈(vs.toArray.zip vs.toArray).toList,∃d,d∈ds/\P x.1 d:=λx hx=>by rw[ZV]at hx;obtain⟨i,hi,rfl⟩:=df.mp hx;have:=lJ J i (List.mem_range.mp hi);exact⟨_,this.2,this.1⟩
   have R:Rk (cK prog w) A E {s with heap:=m} κ (λx=>∃d,d∈ds/\P x.1 d) (rkK P ds):=⟨by rintro x y Q st⟨d,d1,d2⟩⟨e,l,t⟩X hq;rw[Fb fn d1 d2,Fb fn l t,JQ d1]at hq;rw[lt'_eq];refine hV (qr ?_);rw[X];refine hV (wpS_lift (kD (d_ (hl m keep x.1 y.1 d e d2 t (λb Y=>Y={s with heap:=m}/\b=bB (dj d) (dj e)) ⟨rfl,rfl⟩) ?_ λ_ _ h=>h.elim)));rintro b Y⟨rfl,rfl⟩;exact⟨rfl,kl hq⟩⟩;have at':∀k,k<vs.length->it (vs.toArray.zip vs.toArray) k=(vs.getD k .none,vs.getD k .none):=λk M=>by rw[Ph,ZV];simp[M]
   have hsz:(vs.toArray.zip vs.toArray).size=vs.length:=by simp
   have sg:Seg (rkK P ds) (vs.toArray.zip vs.toArray) 0 (vs.toArray.zip vs.toArray).size:=λi j _ ij Z=>by
    rw[hsz]at Z;rw[at' i (by omega),at' j Z];have a1:=lJ J i (by omega);have a2:=lJ J j Z;rw[Fb fn a1.2 a1.1,Fb fn a2.2 a2.1];by_cases e:i=j;.rw[e];exact fh _
    . have H:=nX.mp z i j (by omega) (by omega) (by omega);simp only[oG,k_]at H;have l:ds.getD i .non=ds[i]'(by omega):=by simp[show i<ds.length by omega]
      have t:ds.getD j .non=ds[j]'(by omega):=by simp[show j<ds.length by omega]
      rw[<-l,<-t,<-JQ a2.2,decide_eq_false_iff_not]at H;omega
   have run:=Mr R (x0:=vs.toArray.zip vs.toArray) (st:=SortSt.mk' κ (vs.toArray.zip vs.toArray) #[] 7 none) (Q:=λ_ r=>∃p:List Nat,p.Perm (dL vs.length)/\pick .non p ds=Tp ds/\(r6 r).map (·.2)=(pick dE p vs).toArray/\rV r=none) ⟨rfl,rfl,rfl,rfl,.refl _,W,rfl,uO⟩ sg (by rw[hsz];omega) λr l t=>by
     refine⟨dL vs.length,.refl _,?_,?_,t⟩;.rw[B,nj];exact ue so (.refl _) z
     .rw[l,nj];apply mn.mp;simp[List.map_snd_zip]
   refine bd (d_ run ?_ λ_ _ e=>e);rintro⟨⟨⟩,r⟩Y⟨rfl,p,p1,p2,I,hf⟩;dsimp only;rw[I];refine bd (rL g rfl ?_);refine bd (qa g rfl ?_ (uO) (by rw[cE,tW p1,fb];omega));rw[hf];simp only[bne_self_eq_false,gE,if_false];exact cx (fin _ p1 p2)
end
end _H
namespace _H
open PySem _L Spec PyProof.Rows Calls W
noncomputable def Bd(nw:ce->Option HO)(H:Hp):Hp:=λa=>match nw a with|some o=>a7 o|none=>H a
theorem yC{nw:ce->Option HO}{H:Hp}{a:ce}{o:HO}(h:nw a=a7 o):Bd nw H a=a7 o:=by unfold Bd;rw[h]
theorem iU{nw:ce->Option HO}{H:Hp}{a:ce}(h:nw a=none):Bd nw H a=H a:=by unfold Bd;rw[h]
theorem abn{X:Cx}{g:List (ce×Obj)}{σ:_L.St}{H:Hp}{s:b_}{h':ej}{t':Nat}{nw:ce->Option HO}(I:_L.Inv X g σ H s)(k:∀b u,s.heap.get? b=a7 u->h'.get? b=a7 u)(h:∀a o,nw a=a7 o->s.heap.objs.size<=a)(new:∀a o,nw a=a7 o->bA X.prog X.w (Bd nw H) h' a o):_L.Inv X g σ (Bd nw H) {s with heap:=h',toks:=t'}:=by
 have no:∀a,a<s.heap.objs.size->nw a=none:=λa i=>by cases q:nw a with|none=>rfl|some o=>exact absurd (h a o q) (Nat.not_le_of_lt i)
 have f:∀a o,H a=a7 o->Bd nw H a=a7 o:=λa o e=>by rw[iU (no a (I.hok.lt e))];exact e
 refine I.un ⟨λb u q _ _ _=>k b u q,λb u q _ _ _=>⟨u.slots,k b u q⟩,λb u q n _=>?_,λb u q _=>⟨u,k b u q⟩,λb xs q=>f b _ q,λb u xs q=>f b _ q,λb ps q=>⟨#[],by rw[f b _ q];simp⟩⟩ λb u e=>?_;.rw[iU (no b (du q))];exact n
 .cases q:nw b with|some o=>rw[yC q]at e;cases e;exact new b _ q|none=>rw[iU q]at e;exact(I.hok b u e).stay (λc v _ z=>k c v z) (λc z=>f c _ z) λc xs z=>f c _ z
noncomputable def iv(l d:ce):ej->Prop:=λh=>h.IsItemsView l d
noncomputable def Nq:V->List V->Hp->VK->Prop:=λx xs H Q=>∃q a kvs,x=.ref q/\xs=[]/\H q=a7 (.dD a (.dK (map uR kvs)))/\∀l,H l=none->Q (.ref l) (upd H l (.ext (iv l q)))
noncomputable def rIt(X:Cx):List V->Hp->VK->Prop:=λxs H Q=>∃l q f kvs,xs=[.ref l]/\H l=a7 (.ext (iv l q))/\H q=a7 (.dD f (.dK (map uR kvs)))/\(kvs.length<=16777216/\kvs.Pairwise (λa b=>a.1<b.1))/\∃F,aD F H/\∀v e c,Ext F H e c->cM X.K e c H v (.own (kvs.map gO))->Q v c
theorem Ad{P:da}{w:eg}{h:ej}:∀{kvs:List (Int×Int)}{vs:List (Key×bx)}{as:List ce},KV (kvs.map uR) vs->as.length=vs.length->(∀(j:Nat)(a:ce),as[j]?=a7 a->∃key k x,vs[j]?=a7 (k,x)/\(aY P w).is k key=bT/\h.get? a=a7 {cls:=.type "tuple",data:=.seq #[key,x]})->∀(j:Nat)(a:ce),as[j]?=a7 a->∃p,kvs[j]?=a7 p/\∃t u,h.get? a=a7 {cls:=.type "tuple",data:=.seq #[fI p.1 t,fI p.2 u]}
 |[],_,as,.nil,f,_,j,a,e=>by cases as with|nil=>cases e|cons _ _=>simp at f
 |p::kvs,_,as,.cons (b:=q) r t,f,hk,j,a,e=>by cases as with|nil=>cases e|cons b as=>cases j with
     |zero=>
       obtain⟨key,k,x,g,m,n⟩:=hk 0 a e;simp at g;have o:k=dA p.1:=by have z:=r.1;rw[g]at z;exact z.symm
       have s:∃u,x=fI p.2 u:=by have z:=r.2;rw[g]at z;exact z
       subst o;obtain⟨u,rfl⟩:=s;obtain⟨i,tk,l,rfl⟩|⟨_,_,l,_⟩:=bF (show pY (dA p.1) key=bT from m);.cases l;exact⟨p,rfl,tk,u,n⟩
       .cases l|succ j=>exact Ad t (by simpa using f) (λi c z=>by simpa using hk (i+1) c (by simpa using z)) j a (by simpa using e)
noncomputable def tpV(p:Int×Int):HO:=.tup [.int p.1,.int p.2]
noncomputable def rM:List ce->List (Int×Int)->ce->Option HO|a::as,p::ps,b=>if b=a then a7 (tpV p)else rM as ps b|_,_,_=>none
theorem qY:∀{as:List ce}{ps:List (Int×Int)}{b:ce}{o:HO},rM as ps b=a7 o->∃(j:Nat)(p:Int×Int),as[j]?=a7 b/\ps[j]?=a7 p/\o=tpV p
 |a::as,p::ps,b,o,h=>by
   unfold rM at h;split at h;.rename_i e;cases h;subst e;exact⟨0,p,rfl,rfl,rfl⟩
   .obtain⟨j,q,h1,c,f⟩:=qY h;exact⟨j+1,q,by simpa using h1,by simpa using c,f⟩|[],_,_,_,h=>by simp[rM]at h|_::_,[],_,_,h=>by simp[rM]at h
theorem Gp:∀{as:List ce}{ps:List (Int×Int)},as.Pairwise (·<·)->∀{j:Nat}{b:ce}{p:Int×Int},as[j]?=a7 b->ps[j]?=a7 p->rM as ps b=a7 (tpV p)|[],_,_,_,_,_,h,_=>by simp at h|_::_,[],_,_,_,_,_,h=>by simp at h|a::as,q::ps,c,j,b,p,h1,f=>by unfold rM;cases j with|zero=>cases h1;cases f;rw[if_pos rfl]|succ j=>
     have h1:as[j]?=a7 b:=by simpa using h1
     have:=(h8.mp c).1 b (dQ h1);rw[if_neg (λe=>by rw[e]at this;exact h_ _ this)];exact Gp (h8.mp c).2 h1 (by simpa using f)
theorem tG:∀as:List ce,Vals (as.map V.ref) (as.map dr)|[]=>.nil|_::as=>.cons rfl (tG as)
theorem Ef{K:PySem.W.Frag}{F:Hp}:∀{as:List ce}{ps:List (Int×Int)},as.length=ps.length->(∀(j:Nat)(b:ce)(p:Int×Int),as[j]?=a7 b->ps[j]?=a7 p->F b=a7 (tpV p))->aH K F (as.map V.ref) (ps.map gO)|[],[],_,_=>.nil|a::as,p::ps,c,h=>.cons (by have:=h 0 a p rfl rfl;rw[show gO p=.tup [.int p.1,.int p.2]from rfl,Rep];refine⟨a,_,rfl,.inl (.inl this),.cons (by rw[Rep]) (.cons (by rw[Rep]) .nil)⟩) (Ef (by simpa using c) λj b q h1 e=>h (j+1) b q (by simpa using h1) (by simpa using e))|[],_::_,c,_=>by simp at c|_::_,[],c,_=>by simp at c
theorem FP{h:ej}:∀{as:List ce}{ps:List (Int×Int)},as.length=ps.length->(∀(j:Nat)(b:ce),as[j]?=a7 b->∃p,ps[j]?=a7 p/\∃t u,h.get? b=a7 {cls:=.type "tuple",data:=.seq #[fI p.1 t,fI p.2 u]})->Paired (qK h) (as.map dr) (ps.map gO)|[],[],_,_=>.nil|a::as,p::ps,c,h=>.cons (by obtain⟨q,e,t,u,g⟩:=h 0 a rfl;cases e;exact⟨a,[fI p.1 t,fI p.2 u],[p.1,p.2],rfl,⟨_,g,rfl,0,rfl⟩,.cons _ _ (.cons _ _ .nil),by simp,rfl⟩) (FP (by simpa using c) λj b h1=>by simpa using h (j+1) b (by simpa using h1))|[],_::_,c,_=>by simp at c|_::_,[],c,_=>by simp at c
theorem zB{prog:da}{w:eg}{A:ek}{E:bx->b_->Prop}{s:b_}{v d:ce}{kvs:List (Key×bx)}{ep:Nat}{Q:List bx->b_->Prop}(m:A.handled=none)(h:s.heap.IsItemsView v d)(i:s.heap.DictAt (aY prog w) d kvs ep)(n:kvs.length<=sizeLine)(p:∀(h':ej)(tk:Nat)(as:List ce),(∀b o,s.heap.get? b=a7 o->h'.get? b=a7 o)->s.heap.objs.size<h'.objs.size->as.length=kvs.length->KdxG (aY prog w) kvs s.heap.objs.size h' as->Q (as.map dr) {s with heap:=h',toks:=tk}):cz (cK prog w) A (collect (.ref v)) Q E s:=by
 have f:v<s.heap.objs.size:=let⟨_,h1,_⟩:=h;du h1;have g:d<s.heap.objs.size:=i.lt_size;unfold collect;refine bd (wpAny_runValue (lw F.entry_proto_collect ?_));rw[iX F.plain_proto_collect _];show cz _ A.in1 (newList []>>=λl=>again (.builtin "list.__iadd__" ⟨[l,.ref v],[]⟩)) _ _ s;refine bd (et (cx ⟨ms F.plain_list_iadd _,lw F.entry_list_iadd ?_⟩));rw[iX F.plain_list_iadd _];show cz _ A.in1 (lS (.ref s.heap.objs.size) (.ref v) (.ref s.heap.objs.size)) _ _ _;refine kdx_extend (A:=A) (R:=λr j=>match r with
  |.ok (.ret v)=>cz (cK prog w) A (match v with
   |.ref a=>do let o<-load a match o.data with|.seq xs _=>eS xs.toList|_=>n5 "internal:collect"
   |_=>n5 "internal:collect") Q E j|.ok _=>False|.error e=>E e j) (s:={s with heap:=s.heap.push {cls:=.type "list",data:=.seq #[]}}) m (let⟨o,h1,q⟩:=h;⟨o,eG h1,q⟩) (i.at' λo e=>eG e) s.heap.objs.size (oQ f) (ec g) _ 0 (cy _ rfl) (λh' tk t z as u k x y c=>?_) n;refine bd (wpAny_load k (cx ?_));rw[c];exact p h' tk as (λb o e=>u b o (ec (du e)) (eG e)) (du k) x (y.low (by rw[size_push'];exact Nat.le_succ _))
section
variable{X:Cx}{c:Call}{a:dc}{pa:P}{pos:Pos}
theorem J3:MtR X "dict.items" Nq:=by rintro f s σ H x xs v t Q I g h⟨q,i,kvs,rfl,rfl,j,k⟩;cases g;cases h;obtain⟨ho,hz,l,vs,r,dd⟩:=(show bA X.prog X.w H s.heap q (.dD i (.dK (kvs.map uR)))from I.hok q _ j);refine rd PySem.F.slot_dict_items dd.typeIs PySem.F.entry_dict_items (PySem.F.args_dict_items_1 _) (meets_dict_items _ q l) ⟨⟨vs,dd⟩,?_⟩;have m:(s.heap.push {cls:=.type "dict_items",data:=.fields #[.ref q]}).IsItemsView s.heap.objs.size q:=⟨_,cy _ rfl,rfl,rfl⟩;refine⟨.ref s.heap.objs.size,_,I.laid (t':=s.toks) (o:=.ext (iv s.heap.objs.size q)) (λb o e=>eG e) (dU) ⟨m,⟨_,cy _ rfl⟩,λh1 u z k=>?_⟩,rfl,k _ (I.hok.fresh (dU))⟩;obtain⟨o,n,p⟩:=z;exact⟨o,k o n,p⟩
theorem Wa(hc:X.calm=bT):dY X (.builtin "sorted") (rIt X):=by
 rintro am s σ H xs us Q I r⟨l,q,ob,kvs,hx,hl,hq,⟨ap,ac⟩,F,sm,k⟩;subst hx;have so:sortable (kvs.map gO)=bT:=by
  have:(kvs.map gO).all zM=bT:=by rw[fw];intro x hx;obtain⟨p,_,rfl⟩:=df.mp hx;rfl
  simp only[sortable,ef,this,Bool.or_true,Bool.and_true,decide_eq_true_eq];omega
 have J:(kvs.map gO).Pairwise λa b=>oG a b=bT:=by rw[m2];refine ac.imp λ{a b}h=>?_;show(!bB [b.1,b.2] [a.1,a.2])=bT;simp[bB];omega
 have ae:Tp (kvs.map gO)=kvs.map gO:=(ue so (.refl _) J).symm;rw[<-ae]at k;obtain⟨u,rfl,rx⟩:=r.one;cases rx;obtain⟨af,_,_⟩:=(show bA X.prog X.w H s.heap l (.ext (iv l q))from I.hok l _ hl);obtain⟨ho,hz,hS,vs,rv,dd⟩:=(show bA X.prog X.w H s.heap q (.dD ob (.dK (kvs.map uR)))from I.hok q _ hq);have L:vs.length=kvs.length:=by rw[<-Paired.length rv,ef]
 obtain⟨f,es,ep,d1,d2,d3,d4⟩:=dd;have dat:s.heap.DictAt (aY X.prog X.w) q vs ep:=⟨f,es,d1,d2,d3,d4⟩;refine Calls.call_function_entry kind_sorted plain_sorted entry_sorted (args_sorted1 _) ?_;unfold iE.«sorted»;refine bd (m:=checkCount "sorted" 1 1 _) (cx ?_);refine bd (zB (A:=X.A.in1) (I.ok.hd hc) af dat (by rw[L,fb];omega) λh1 tk as kp hsz M hG=>?_);have hsz:=lT hsz;have g:as.length=kvs.length:=M.trans L;have pr:=Ad rv M hG.pairs;have tt:Paired (qK h1) (as.map dr) (kvs.map gO):=FP g pr;have N:∀a o,rM as kvs a=a7 o->s.heap.objs.size<=a:=λa o e=>by obtain⟨j,p,O,_,_⟩:=qY e;exact lT (hG.above a (dQ O))
 have i:∀a o,rM as kvs a=a7 o->H a=none:=λa o e=>I.hok.fresh (N a o e);have B:aD H (Bd (rM as kvs) H):=λb o e=>by cases z:rM as kvs b with|none=>rw[iU z];exact e|some f=>rw[i b f z]at e;cases e
 have e0:Ext F H (Bd (rM as kvs) F) (Bd (rM as kvs) H):=by
  refine⟨B,λb o e=>?_,λb o e=>?_,λb n n'=>?_⟩;.cases z:rM as kvs b with|none=>rw[iU z];exact e|some f=>have n0:=i b f z;rw[sm b o e]at n0;cases n0
  .cases z:rM as kvs b with|none=>rw[iU z]at e ⊢;exact sm b o e|some f=>rw[yC z]at e ⊢;exact e
  .cases z:rM as kvs b with|none=>rw[iU z]at n';exact absurd n n'|some f=>rw[i b f z];rfl
 have rs:aH X.K (Bd (rM as kvs) F) (as.map V.ref) (kvs.map gO):=Ef g λj b p h1 h2=>yC (Gp hG.rise h1 h2);have vv:=tG as;have ag:∀b∈as,b<h1.objs.size:=λb hb=>hG.there hb;have U:(as.map dr).length=kvs.length:=by rw[ef];exact g
 refine bd (wpAny_newList ?_ (by rw[U,fb];omega));generalize W:(h1.push {cls:=.type "list",data:=.seq (as.map dr).toArray}:ej)=G;have Y:G.get? h1.objs.size=a7 (qS "list" (as.map dr).toArray 0):=by rw[<-W];exact cy _ rfl
 have NZ:∀b o,h1.get? b=a7 o->G.get? b=a7 o:=λb o e=>by rw[<-W];exact eG e
 have E:∀b o,h1.get? b=a7 o->b≠h1.objs.size:=λb o e=>ec (du e);show cz _ _ _ _ _ {s with heap:=G,toks:=tk};refine bd (gd (gS slot_list_sort ⟨_,Y,rfl⟩ entry_list_sort ?body (args_list_sort _)));case body=>
  refine Ky (s:={s with heap:=G,toks:=tk}) (κ:=tuples' (gJ "int"!=gJ "tuple")) Y so (by omega) tt Py J (λh' Z C hC h2=>?_) (λh' Z u v d e hd he C hC=>?_) λh' cc p Z p1 p2 e=>?_;.exact Hv (s:={s with heap:=h',toks:=tk}) (vC (λb o z=>Z b o (E b o z) (NZ b o z)) tt) h2 hC
  .have kk:∀b o,h1.get? b=a7 o->h'.get? b=a7 o:=λb o z=>Z b o (E b o z) (NZ b o z);exact Qn (s:={s with heap:=h',toks:=tk}) (oY kk hd) (oY kk he) hC
  . refine⟨_,rfl,cx ⟨_,rfl,?_⟩⟩;have kk:∀b o,h1.get? b=a7 o->h'.get? b=a7 o:=λb o z=>Z b o (E b o z) (NZ b o z);have hL:rM as kvs h1.objs.size=none:=by cases z:rM as kvs h1.objs.size with|none=>rfl|some o=>obtain⟨j,p,O,_,_⟩:=qY z;exact absurd (ag _ (dQ O)) (h_ _)
    have ah:upd (Bd (rM as kvs) H) h1.objs.size (.lst (pick .non p (as.map V.ref)))=Bd (λb=>if b=h1.objs.size then a7 (.lst (pick .non p (as.map V.ref)))else rM as kvs b) H:=by
     funext b;unfold upd Bd;by_cases z:b=h1.objs.size;.rw[if_pos z];simp only[if_pos z]
     .rw[if_neg z];simp only[if_neg z]
    have I':=abn (t':=tk) (h':=h') (nw:=λb=>if b=h1.objs.size then a7 (.lst (pick .non p (as.map V.ref)))else rM as kvs b) I (λb o z=>kk b o (kp b o z)) (λa o z=>by
     by_cases y:a=h1.objs.size;.rw[y];exact hsz
     .simp only[if_neg y]at z;exact N a o z) (λa o z=>by
     by_cases y:a=h1.objs.size;.simp only[if_pos y]at z;cases z;subst y;exact⟨by rw[tW p1,U,fb];omega,pick .none p (as.map dr),cc,JH vv,e⟩
     .simp only[if_neg y]at z;obtain⟨j,p',O,e2,rfl⟩:=qY z;obtain⟨ar,e3,t,u,e4⟩:=pr j a O;rw[e2]at e3;cases e3;exact⟨by rw[fb];simp,[fI p'.1 t,fI p'.2 u],.cons ⟨t,rfl⟩ (.cons ⟨u,rfl⟩ .nil),⟨_,kk _ _ e4,rfl,0,rfl⟩⟩);rw[<-ah]at I';refine⟨.ref h1.objs.size,_,I',rfl,?_⟩;have ai:aH X.K (Bd (rM as kvs) F) (pick .non p (as.map V.ref)) (Tp (kvs.map gO)):=by rw[<-p2];exact JW rs
    refine CK e0.sub ai (by rw[iU hL];exact I.hok.fresh hsz) λv F2 G x rn=>k v F2 G ⟨e0.hs.trans x.hs,e0.fs.trans x.fs,x.sub,λc n n'=>?_⟩ ?_
    . by_cases e:Bd (rM as kvs) F c=none;.have:=x.gr c e n';cases z:H c with|none=>rfl|some o=>rw[B c o z]at this;exact this
      .exact e0.gr c n e
    obtain⟨b,xs,q1,q2,q3,q4,q5⟩:=rn;refine⟨b,xs,q1,q2,q3,q4,?_⟩;cases z:H b with|none=>rfl|some o=>rw[B b o z]at q5;cases q5
theorem Ml{o:dc}{to:TE}{f cpos:Pos}(ho:PE X o to)(i:iA o "items" X.env (er o X.env)=er o X.env:=by rfl)(j:(f.endLine==cpos.line)=bT:=by rfl):PE X (.Call (.Attribute o "items" f) [] [] cpos) (λσ H Q=>to σ H λx l=>Nq x [] l Q):=by intro g s σ H Q I h;refine wpAny_Call_method0_late i j (cC (ho g s σ H _ I h) λv s1⟨x,l,I1,r1,q1⟩=>?_);obtain⟨q,t,kvs,rfl,_,u,k⟩:=id q1;cases r1;obtain⟨ho,hz,y,vs,r,m,es,ep,n,p,z⟩:=(show bA X.prog X.w l s1.heap q (.dD t (.dK (kvs.map uR)))from I1.hok q _ u);refine⟨"dict","dict.items",PySem.F.plainAttrs_dict,PySem.F.slot_dict_items,PySem.F.type_dict_items,⟨m,n,p.1⟩,λb e=>?_,kx rfl (PySem.evalArgs_none (J3 g s1 σ l (.ref q) [] _ [] Q I1 rfl .nil q1))⟩;cases e;exact⟨m,n,p.2.1⟩
theorem Qo{x:Str}{p' f cpos:Pos}{o:dc}(O:x="sorted")(hc:X.calm=bT)(U:Gl X x)(W:X.mg x=none)(j:(f.endLine==cpos.line)=bT)(Y:SX X c o pa)(p:iA o "items" X.env (er o X.env)=er o X.env:=by rfl):SX X c (.Call (.Name x p') [.Call (.Attribute o "items" f) [] [] cpos] [] pos) (.blt .Ny [pa]):=by
 subst O;obtain⟨ta,h1,Z⟩:=Y.cZ;refine⟨dN (dq (Wa hc) U W boot_sorted (bj (Ml h1 p j) dw)) ?_,λi h=>by cases h⟩;rintro σ H Q⟨F,ρ,r,B,g,e,k⟩;have e:((cZ (isVar pa) (_H.ev c pa) ρ).bind λx ρ=>lift (blt .Ny [x]) ρ)=.ok r B:=e;obtain⟨d,ac,e1,s⟩:=aa e;have zz:=aF s;clear s;obtain⟨s,e3⟩:=zz;subst e3;refine Z g e1 λv I u st pv=>?_;obtain⟨kvs,rfl⟩:∃kvs,d=.dI (.k kvs):=by cases d with
  |dI m=>cases m with|k kvs=>exact⟨kvs,rfl⟩|t kvs=>cases s
  |_=>cases s
 obtain⟨so,he⟩:=bD (show(if kvs.length<=16777216/\kvs.Pairwise (λa b=>a.1<b.1)then a7 (R.own (kvs.map gO))else none)=a7 r from s);subst he;obtain⟨q,J,rfl,L⟩:=pv.dI st.gs.sub;refine⟨q,J,kvs,rfl,rfl,L,λl y=>⟨l,q,J,kvs,rfl,aL,aD.cI y q _ L,so,I,λb o e=>aD.cI y b o (st.gs.sub b o e),λw C E A rn=>?_⟩⟩;have sm:aD u (upd u l (.ext (iv l q))):=aD.cI y;have x3:Ext I u C E:=⟨sm.trans A.hs,A.fs,A.sub,λb n n'=>by
  have:=A.gr b n n';by_cases M:b=l;.subst M;rw[y];rfl
  .rw[aA M]at this;exact this⟩;have G:cM X.K C E u w (.own (kvs.map gO)):=by obtain⟨b,xs,q1,q2,q3,q4,N⟩:=rn;refine⟨b,xs,q1,q2,q3,q4,?_⟩;cases z:u b with|none=>rfl|some o=>rw[sm b o z]at N;cases N
 exact k w C E (st.trans (x3.stp st.gs)) (.later st (G.uo st.gs))
end
end _H
namespace _H
open PySem _L Spec PyProof.Rows
variable{o:Option V}{rows:List (List D)}
section
variable{K:PySem.W.Frag}{F F' F1 H H' H1 F0 H0:Hp}{ρ ρ' ρ1 ρ0:List Sl}{σ σ' σ1 σ0:_L.St}{x:Nat}{q:ce}{as:List ce}{rows qy:List (List D)}
noncomputable def Jy:Sl->Bool|.aM=>bT|.hold _=>bT|_=>a_
theorem iy{s:Sl}{i:Nat}{b:ce}(g:Jy s=bT)(h:aQ (ρ.set x s) (σ.set x o) i b):aQ ρ σ i b/\i≠x:=by
 obtain⟨⟨t,j,e,a⟩,f⟩:=h;by_cases c:x=i
 . subst c;rw[lc]at e;rw[if_pos rfl]at e;split at e;.cases e;cases s<;>first|(cases a;done)|(cases g;done)
   .cases e
 .rw[ew c]at e f;exact⟨⟨⟨t,j,e,a⟩,f⟩,λz=>c z.symm⟩
theorem GS.Gf{s:Sl}(f:Jy s=bT)(g:GS K F ρ σ H):GS K F (ρ.set x s) (σ.set x o) H:=by
 refine⟨g.sub,by simp[g.len],λi b d e=>?_,λi t k e h=>?_,λi j a h1 l=>g.dis i j a (iy f h1).1 (iy f l).1⟩
 . by_cases c:x=i
   . subst c;rw[lc,if_pos rfl]at e;split at e;.cases e;cases f
     .cases e
   .rw[ew c]at e ⊢;exact g.val i b d e
 . by_cases c:x=i
   . subst c;rw[lc,if_pos rfl]at e;split at e;.cases e;cases s<;>first|(cases h;done)|(cases f;done)
     .cases e
   .rw[ew c]at e ⊢;exact g.own i t k e h
theorem aq.Gf{s:Sl}{o:Option V}(a:Jy s=bT)(t:aq K F ρ σ H F1 ρ1 σ1 H1)(f:∀s0,ρ[x]?=a7 s0->uL s0=a_):aq K F ρ σ H F1 (ρ1.set x s) (σ1.set x o) H1:=by
 refine⟨t.gs.Gf a,t.bY,t.yK,t.keep,λb⟨i,h⟩=>t.yL b ⟨i,(iy a h).1⟩,by simp[t.len],λi g e l=>?_⟩;have c:x≠i:=by rintro rfl;rw[f _ e]at l;cases l
 obtain⟨j,s2,k,m⟩:=t.lk i g e l;exact⟨by rw[ew c];exact j,s2,by rw[ew c];exact k,m⟩
theorem aq.free{i:Nat}{s1:Sl}(t:aq K F ρ σ H F1 ρ1 σ1 H1)(h:ρ1[i]?=a7 s1)(a:uL s1=a_):∀s0,ρ[i]?=a7 s0->uL s0=a_:=λs0 e=>by cases z:uL s0 with|false=>rfl|true=>obtain⟨_,s2,b,c⟩:=t.lk i s0 e z;rw[h]at b;cases b;rw[c.uL z]at a;cases a
structure Wq(F:Hp)(ρ:List Sl)(σ:_L.St)(H:Hp)(a:ce)(xs:List V):Prop where kp:Kp ρ σ H a (.lst xs)fr:F a=none
theorem Wq.stp{a:ce}{xs:List V}(h:Wq F ρ σ H a xs)(s:aq K F ρ σ H F' ρ' σ' H'):Wq F' ρ' σ' H' a xs:=by refine⟨h.kp.stp s,?_⟩;cases z:F' a with|none=>rfl|some o=>
   rcases s.yK a h.fr (by rw[z];simp)with y|y;.exact absurd y h.kp.2
   .rw[h.kp.1]at y;cases y
structure Nw(K:PySem.W.Frag)(x:Nat)(q:ce)(as:List ce)(F:Hp)(ρ:List Sl)(σ:_L.St)(H:Hp)(rows:List (List D)):Prop where
 slot:ρ[x]?=a7 (.hold rows)val:σ[x]?=a7 (a7 (.ref q))out:Wq F ρ σ H q (as.map V.ref)nd:(q::as).Nodup
 len:as.length=rows.length
 row:∀(k:Nat)(a:ce)(ds:List D),as[k]?=a7 a->rows[k]?=a7 ds->Wt K F ρ σ H a ds
theorem Nw.stp(w:Nw K x q as F ρ σ H rows)(s:aq K F ρ σ H F' ρ' σ' H'):Nw K x q as F' ρ' σ' H' rows:=by obtain⟨b,s2,c,e⟩:=s.lk x _ w.slot rfl;cases(show s2=.hold rows from e);exact⟨c,b.trans w.val,w.out.stp s,w.nd,w.len,λk a f h1 g=>(w.row k a f h1 g).stp s⟩
structure NB(K:PySem.W.Frag)(x:Nat)(q:ce)(as:List ce)(F0:Hp)(ρ0:List Sl)(σ0:_L.St)(H0:Hp)(F:Hp)(ρ:List Sl)(σ:_L.St)(H:Hp)(rows:List (List D)):Prop where
 stp:aq K F0 ρ0 σ0 H0 F ρ σ H
 fresh:∀b,b∈q::as->Own ρ0 σ0 b\/H0 b=none
 free:∀s0,ρ0[x]?=a7 s0->uL s0=a_
 nw:Nw K x q as F ρ σ H rows
theorem NB.step(b:NB K x q as F0 ρ0 σ0 H0 F ρ σ H rows)(s:aq K F ρ σ H F' ρ' σ' H'):NB K x q as F0 ρ0 σ0 H0 F' ρ' σ' H' rows:=⟨b.stp.trans s,b.fresh,b.free,b.nw.stp s⟩
theorem Dy{s:Sl}{a:ce}{b:HO}(c:Jy s=bT)(h:Kp ρ σ H a b):Kp (ρ.set x s) (σ.set x o) H a b:=⟨h.1,λ⟨i,z⟩=>h.2 ⟨i,(iy c z).1⟩⟩
theorem Qm{s:Sl}{a:ce}{b:List D}(c:Jy s=bT)(h:Wt K F ρ σ H a b):Wt K F (ρ.set x s) (σ.set x o) H a b:=by obtain⟨⟨xs,h1,e⟩,f⟩:=h;exact⟨⟨xs,Dy c h1,e⟩,f⟩
theorem aq.agu{Da:ce}{o:HO}(s:aq K F ρ σ H F1 ρ1 σ1 H1)(h:Own ρ σ Da\/H Da=none)(j:F1 Da=none)(ho:¬ Own ρ1 σ1 Da):aq K F ρ σ H F1 ρ1 σ1 (upd H1 Da o):=by
 refine⟨⟨λb u e=>?_,s.gs.len,s.gs.val,λi t c e f=>?_,s.gs.dis⟩,s.bY,s.yK,λb u e n=>?_,s.yL,s.len,s.lk⟩
 . have:b≠Da:=by rintro rfl;rw[j]at e;cases e
   rw[aA this];exact s.gs.sub b u e
 . obtain⟨a,xs,g,k,l,m⟩:=s.gs.own i t c e f;have:a≠Da:=by rintro rfl;exact ho ⟨i,⟨t,c,e,f⟩,g⟩
   exact⟨a,xs,g,by rw[aA this];exact k,l,m⟩
 . have:b≠Da:=by
    rintro rfl;rcases h with h|h;.exact n h
    .rw[h]at e;cases e
   rw[aA this];exact s.keep b u e n
theorem NB.mut{r:Nat}{a:ce}{row e:List D}{ys:List V}(b:NB K x q as F0 ρ0 σ0 H0 F ρ σ H rows)(g:as[r]?=a7 a)(hr:rows[r]?=a7 row)(l:aH K F ys e):NB K x q as F0 ρ0 σ0 H0 F (ρ.set x (.hold (rows.set r e))) σ (upd H a (.lst ys)) (rows.set r e):=by
 have w:=b.nw.row r a row g hr;obtain⟨⟨xs,k1,r1⟩,f1⟩:=w;have m:x<ρ.length:=(fu b.nw.slot).1;have sx:σ.set x (a7 (.ref q))=σ:=by have:=b.nw.val;obtain⟨h1,f⟩:=fu this;rw[<-f];simp
 have mem:a∈q::as:=dS _ (dQ g);have s1:=(b.stp.agu (o:=.lst ys) (b.fresh a mem) f1 k1.2).Gf (x:=x) (s:=.hold (rows.set r e)) (o:=a7 (.ref q)) rfl b.free;rw[sx]at s1;have n:q≠a:=by have:=(eH.mp b.nw.nd).1;rintro rfl;exact this (dQ g)
 have own:∀{c:ce},¬ Own ρ σ c->¬ Own (ρ.set x (.hold (rows.set r e))) σ c:=λ{c}h⟨i,z⟩=>h ⟨i,by have:=iy (x:=x) (s:=.hold (rows.set r e)) (o:=a7 (.ref q)) (σ:=σ) (ρ:=ρ) rfl (b:=c) (i:=i) (by rw[sx];exact z);exact this.1⟩;refine⟨s1,b.fresh,b.free,⟨cu m,b.nw.val,⟨⟨by rw[aA n];exact b.nw.out.kp.1,own b.nw.out.kp.2⟩,b.nw.out.fr⟩,b.nw.nd,by simp[b.nw.len],λk c p h1 f=>?_⟩⟩;by_cases j:k=r;.subst j;rw[g]at h1;cases h1;have t:k<rows.length:=(fu hr).1;rw[cu t]at f;cases f;exact⟨⟨ys,⟨aL,own k1.2⟩,l⟩,f1⟩
 . rw[ew (λz=>j z.symm)]at f;obtain⟨⟨u,k2,v⟩,f2⟩:=b.nw.row k c p h1 f;have nc:c≠a:=by rintro rfl;have nd:=(eH.mp b.nw.nd).2;obtain⟨B,y⟩:=fu h1;obtain⟨l2,A⟩:=fu g;exact j ((List.getElem_inj nd).mp (y.trans A.symm))
   exact⟨⟨u,⟨by rw[aA nc];exact k2.1,own k2.2⟩,v⟩,f2⟩
noncomputable def Fz(F H:Hp)(bs:List ce):Hp:=λb=>if b∈bs then H b else F b
theorem vB{G:Hp}:∀{as:List ce}{rows:List (List D)},as.length=rows.length->(∀(k:Nat)(a:ce)(c:List D),as[k]?=a7 a->rows[k]?=a7 c->Rep K G (.ref a) (.lst c))->aH K G (as.map V.ref) (rows.map D.lst)|[],[],_,_=>.nil|a::as,c::rows,h,k=>.cons (k 0 a c rfl rfl) (vB (by simpa using h) λj b es h1 e=>k (j+1) b es (by simpa using h1) (by simpa using e))|[],_::_,h,_=>by simp at h|_::_,[],h,_=>by simp at h
theorem Nw.RQ(w:Nw K x q as F ρ σ H rows){b:ce}(hb:b∈q::as):F b=none/\¬ Own ρ σ b:=by
 rcases c_.mp hb with rfl|hb;.exact⟨w.out.fr,w.out.kp.2⟩
 . obtain⟨k,a⟩:=lp hb;have c:k<rows.length:=by rw[<-w.len];exact(fu a).1
   obtain⟨⟨xs,k1,_⟩,f1⟩:=w.row k b rows[k] a (by simp[c]);exact⟨f1,k1.2⟩
theorem Nw.fz(w:Nw K x q as F ρ σ H rows)(sm:aD F H):aD F (Fz F H (q::as))/\aD (Fz F H (q::as)) H/\Rep K (Fz F H (q::as)) (.ref q) (.lst (rows.map D.lst)):=by
 have s1:aD F (Fz F H (q::as)):=λb o e=>by unfold Fz;rw[if_neg λc=>by rw[(w.RQ c).1]at e;cases e];exact e
 refine⟨s1,λb o e=>?_,?_⟩
 . unfold Fz at e;split at e;.exact e
   .exact sm b o e
 .rw[Rep];refine⟨q,as.map V.ref,rfl,gF.of (by unfold Fz;rw[if_pos h9];exact w.out.kp.1),vB w.len λk a f h1 g=>?_⟩;obtain⟨⟨xs,k1,r1⟩,f1⟩:=w.row k a f h1 g;rw[Rep];exact⟨a,xs,rfl,gF.of (by unfold Fz;rw[if_pos (dS _ (dQ h1))];exact k1.1),r1.mono s1⟩
theorem NB.dD(b:NB K x q as F0 ρ0 σ0 H0 F ρ σ H rows):aq K F0 ρ0 σ0 H0 (Fz F H (q::as)) (ρ.set x (.val a_ (.lst (rows.map D.lst)))) σ H:=by
 obtain⟨s1,s2,w⟩:=b.nw.fz b.stp.gs.sub;have g:=b.stp.gs;have s:x<ρ.length:=(fu b.nw.slot).1;have k:∀{j:Nat}{c:ce},aQ (ρ.set x (.val a_ (.lst (rows.map D.lst)))) σ j c->aQ ρ σ j c/\x≠j:=λ{j c}⟨⟨t,r,e,m⟩,e1⟩=>by
  by_cases f:x=j;.subst f;rw[cu s]at e;cases e;cases m
  .rw[ew f]at e;exact⟨⟨⟨t,r,e,m⟩,e1⟩,f⟩
 refine⟨⟨s2,by simp[g.len],λi y d e=>?_,λi t r e m=>?_,λi j c h1 p=>g.dis i j c (k h1).1 (k p).1⟩,b.stp.bY.trans s1,λc n u=>?_,b.stp.keep,λc⟨j,h⟩=>b.stp.yL c ⟨j,(k h).1⟩,by simp[b.stp.len],λi t e l=>?_⟩
 . by_cases f:x=i;.subst f;rw[cu s]at e;cases e;exact⟨_,b.nw.val,w⟩
   .rw[ew f]at e;obtain⟨v,h1,p⟩:=g.val i y d e;exact⟨v,h1,p.mono s1⟩
 . by_cases f:x=i;.subst f;rw[cu s]at e;cases e;cases m
   .rw[ew f]at e;obtain⟨a,o,h1,p,z,A⟩:=g.own i t r e m;refine⟨a,o,h1,p,?_,A.mono s1⟩;unfold Fz;rw[if_neg λB=>(b.nw.RQ B).2 ⟨i,⟨t,r,e,m⟩,h1⟩];exact z
 . by_cases hc:c∈q::as;.exact(b.fresh c hc).imp id lK
   . have:Fz F H (q::as) c=F c:=by unfold Fz;rw[if_neg hc]
     rw[this]at u;exact b.stp.yK c n u
 . have c:x≠i:=by rintro rfl;rw[b.free _ e]at l;cases l
   obtain⟨C,s3,E,G⟩:=b.stp.lk i t e l;exact⟨C,s3,by rw[ew c];exact E,G⟩
end
inductive Wo(K:PySem.W.Frag)(x:Nat)(f:List Sl->Res Fl)(E:Ends)(σ:_L.St)(H:Hp):Prop where|mk(F0:Hp)(ρ0:List Sl)(σ0:_L.St)(H0 F:Hp)(ρ:List Sl)(q:ce)(as:List ce)(rows:List (List D))(fl:Fl)(ρ':List Sl)(b:NB K x q as F0 ρ0 σ0 H0 F ρ σ H rows)(e:f ρ=.ok fl ρ')(k:∀F' σ' H',aq K F0 ρ0 σ0 H0 F' ρ' σ' H'->aD F F'->((∀r,fl≠.ret r)->∃qy,NB K x q as F0 ρ0 σ0 H0 F' ρ' σ' H' qy)->Kr K E F' ρ' σ' H' ρ0 σ0 H0 fl)
inductive ZZ(K:PySem.W.Frag)(x:Nat)(f:List Sl->Res Fl)(E:Ends)(σ:_L.St)(H:Hp):Prop where|mk(F0:Hp)(ρ0:List Sl)(σ0:_L.St)(H0 F:Hp)(ρ:List Sl)(q:ce)(as:List ce)(rows:List (List D))(fl:Fl)(ρ':List Sl)(b:NB K x q as F0 ρ0 σ0 H0 F ρ σ H rows)(e:f ρ=.ok fl ρ')(k:∀F' σ' H',aq K F0 ρ0 σ0 H0 F' ρ' σ' H'->Kr K E F' ρ' σ' H' ρ0 σ0 H0 fl)
structure SSN(X:Cx)(c:Call)(n x:Nat)(st:ey)(s:S):Prop where p:PS X st (Wo X.K x (ex c n s))
structure Zm(X:Cx)(c:Call)(n x:Nat)(st:List ey)(s:List S):Prop where p:qi X st (Wo X.K x (fW c n s))
structure SBT(X:Cx)(c:Call)(n x:Nat)(st:List ey)(s:List S):Prop where p:qi X st (ZZ X.K x (fW c n s))
section
variable{X:Cx}{c:Call}{n x:Nat}{e a b d tg iter:dc}{p pa pb pd:P}{pos:Pos}{body:List ey}{ss:List S}{st:ey}{s:S}{sts:List ey}
theorem qX:Zm X c n x [] []:=⟨iz qT λD σ H⟨f,ρ0,σ0,H0,F,ρ,q,as,rows,fl,ρ',nb,e,k⟩=>by rw[xs0]at e;cases e;exact k F σ H nb.stp (.refl _) λ_=>⟨rows,nb⟩⟩
theorem sO(h1:SSN X c n x st s)(w:Zm X c n x sts ss):Zm X c n x (st::sts) (s::ss):=by refine⟨iz (jj h1.p w.p) ?_⟩;rintro D σ H⟨h,f,g,i,F,ρ,q,as,rows,fl,t,l,e,k⟩;rw[Wv]at e;obtain⟨f1,j,m,e⟩:=aa e;cases f1 with|next=>refine⟨h,f,g,i,F,ρ,q,as,rows,.next,j,l,m,λF1 y I s1 sm nn=>?_⟩;obtain⟨A,B⟩:=nn (λr z=>by cases z);exact⟨h,f,g,i,F1,j,q,as,A,fl,t,B,e,λC u E s2 G v=>k C u E s2 (sm.trans G) v⟩|brk=>cases e;exact⟨h,f,g,i,F,ρ,q,as,rows,.brk,_,l,m,k⟩|cont=>cases e;exact⟨h,f,g,i,F,ρ,q,as,rows,.cont,_,l,m,k⟩|ret r=>cases e;exact⟨h,f,g,i,F,ρ,q,as,rows,.ret r,_,l,m,k⟩
theorem KN(h1:SSN X c n x st s)(w:SBT X c n x sts ss):SBT X c n x (st::sts) (s::ss):=by refine⟨iz (jj h1.p w.p) ?_⟩;rintro D σ H⟨j,g,h,l,F,ρ,q,as,rows,fl,v,t,e,k⟩;rw[Wv]at e;obtain⟨f1,m,u,e⟩:=aa e;cases f1 with|next=>refine⟨j,g,h,l,F,ρ,q,as,rows,.next,m,t,u,λF1 f i s1 sm nn=>?_⟩;obtain⟨y,A⟩:=nn (λr z=>by cases z);exact⟨j,g,h,l,F1,m,q,as,y,fl,v,A,e,k⟩|brk=>cases e;exact⟨j,g,h,l,F,ρ,q,as,rows,.brk,_,t,u,λF1 f i s1 _ _=>k F1 f i s1⟩|cont=>cases e;exact⟨j,g,h,l,F,ρ,q,as,rows,.cont,_,t,u,λF1 f i s1 _ _=>k F1 f i s1⟩|ret r=>cases e;exact⟨j,g,h,l,F,ρ,q,as,rows,.ret r,_,t,u,λF1 f i s1 _ _=>k F1 f i s1⟩
theorem Rc(h:SB X c n sts ss):SBT X c n x sts (.dD x::ss):=by refine⟨iz h ?_⟩;rintro D σ H⟨A,j,l,B,F,ρ,q,as,rows,fl,f,g,e,k⟩;rw[Wv]at e;obtain⟨f1,m,i,e⟩:=aa e;rw[_H.X26,g.nw.slot]at i;cases i;have t:=g.dD;refine⟨_,_,fl,f,t.gs,e,λu σ' w s=>?_⟩;have z:=k u σ' w (t.trans s);cases fl with|next=>exact z|brk=>exact z|cont=>exact z|ret r=>exact λv y=>z v (y.later t)
theorem Xb{r u:List ey}{v tb:List S}(hc:ST X c e p)(y:Zm X c n x r v)(z:Zm X c n x u tb):SSN X c n x (.If e r u pos) (.ifs p v tb):=by refine⟨cO (Eo hc y.p z.p) ?_⟩;rintro D σ H⟨A,j,l,B,F,ρ,q,as,rows,fl,i,w,e,k⟩;rw[_H.X13]at e;obtain⟨t,g,C,e⟩:=aa e;refine⟨F,ρ,t,g,w.stp.gs,C,λF1 E s1=>?_⟩;have go:∀{f:List Sl->Res Fl},f g=.ok fl i->Wo X.K x f D σ E:=λ{f}h=>⟨A,j,l,B,F1,g,q,as,rows,fl,i,w.step s1,h,λG m I s2 sm nn=>k G m I s2 (s1.bY.trans sm) nn⟩;cases t with|true=>rw[if_pos rfl]at e;exact go e|false=>rw[if_neg eh]at e;exact go e
theorem Lr{ρ:List Sl}(h:jU ρ x=a7 rows):ρ[x]?=a7 (.hold rows):=by
 unfold jU at h;split at h;.rename_i z;cases h;exact z
 .cases h
noncomputable def WalkN(K:PySem.W.Frag)(J:It)(i:List D)(F1:Hp):Prop:=∀(k:Nat)(h f:Hp),aD F1 h->aD h f->(∀d,i[k]?=a7 d->J.go k f/\∀x j,J.Oo k f x j->∃g,Ext h f g j/\Rep K g x d)/\(i.length<=k->J.stop k f)
inductive afz(K:PySem.W.Frag)(f:Ev)(σ:_L.St)(H:Hp)(R:It->Hp->Prop):Prop where|mk(F:Hp)(ρ:List Sl)(r:_H.R)(ρ1:List Sl)(ds:List D)(g:GS K F ρ σ H)(e:f ρ=.ok r ρ1)(e2:items r.d=a7 ds)(k:∀J F1 H1,aq K F ρ σ H F1 ρ1 σ H1->WalkN K J ds F1->R J H1)
structure SIN(X:Cx)(c:Call)(tg e:dc)(p:P):Prop where p:PI X tg e (afz X.K (_H.ev c p))
theorem Pr(h:SX X c e p):SIN X c tg e p:=by refine⟨nF (wR h.ev) ?_⟩;rintro σ H R⟨F,ρ,r,m,y,g,e,i,k⟩;refine⟨F,ρ,r,m,g,e,λv z A s t=>?_⟩;obtain⟨B,s2,_,j⟩:=s.dD t;cases hd:r.d with|tup es=>rw[hd]at j i;cases i;rw[Rep]at j;obtain⟨a,xs,rfl,h1,q⟩:=j;exact⟨a,rfl,.inr ⟨⟨xs,aD.jo s2.gs.sub h1⟩,k _ _ _ s2 λk u w f l=>Ep (aD.jo l (aD.jo f h1)) (q.mono f) l k⟩⟩|lst es=>rw[hd]at j i;cases i;rw[Rep]at j;obtain⟨a,xs,rfl,h1,q⟩:=j;exact⟨a,rfl,.inl ⟨⟨xs,s2.gs.sub.seq h1⟩,k _ _ _ s2 λk u w f l=>tD (l.seq (f.seq h1)) (q.mono f) l k⟩⟩|_=>rw[hd]at i;cases i
theorem GF{K:PySem.W.Frag}{F1:Hp}(i j:Int):WalkN K (Zj i (j-i).toNat) ((dL (j-i).toNat).map λ(k:Nat)=>D.int (i+(k:Int))) F1:=by
 refine λk g u _ sm=>⟨λd hd=>?_,λh=>?_⟩;.rw[eV]at hd;obtain⟨m,l,q⟩:=map_some hd;obtain⟨h1,f⟩:=fu l;rw[List.getElem_range]at f;subst f;subst q;rw[kb]at h1;refine⟨h1,?_⟩;rintro x v⟨r,t⟩;subst r;subst t;exact⟨g,.refl sm,bW _⟩
 .rw[ef,kb]at h;exact h
theorem M5{x:Str}{p':Pos}(q:x="range")(t:Gl X x)(u:X.mg x=none)(w:SX X c a pa)(hs:cv [a] X.env=[(a_,er a X.env)]:=by rfl):SIN X c tg (.Call (.Name x p') [a] [] pos) (.uZ (.con (.int 0)) pa):=by
 subst q;obtain⟨N,h1,y⟩:=w.cZ;refine⟨nF (wg t u (bj h1 dw hs) hs) ?_⟩;rintro σ H R⟨F,ρ,r,z,O,g,l,A,k⟩;rw[_H.E19]at l;obtain⟨Q,B,C,f⟩:=aa l;have E:=aF f;clear f;obtain⟨f,G⟩:=E;subst G;obtain⟨U,I,J,h⟩:=aa C;cases h;obtain⟨i,f1,f⟩:=cH f;obtain⟨j,f2,f⟩:=cH f;obtain⟨⟨b1,b2,b3,b4⟩,f⟩:=bD f;have f1:i=0:=by cases f1;rfl
 subst f1;subst f;cases A;cases dm f2;refine y g J λv m L s M=>⟨j,by rw[M.int],by omega,by omega,?_⟩;have:=GF (K:=X.K) (F1:=m) 0 j;rw[mP]at this;refine k _ m L s ?_;rw[mP];exact this
theorem EY{g:TG}{is:List Nat}{one:Bool}(hp:ip (cK X.prog X.w) X.A X.env X.xe)(hc:X.calm=bT)(hi:SIN X c tg iter p)(hg:PG X tg g)(af:GX X.K (λρ d=>cA ρ is one d) g)(hb:Zm X c n x body ss)(hs:∀x,eN iter X.env x=eS x:=by intro _;rfl):SSN X c n x (.For tg iter body [] pos) (.Il p is one ss):=by
 refine⟨cO (Cd hp hc hi.p hg hb.p hs) ?_⟩;rintro D σ H⟨F0,G,I,H0,F,ρ,q,as,rows,fl,U,nb,e,k⟩;rw[_H.X25]at e;obtain⟨r,W,e1,e⟩:=aa e;obtain⟨j,am,e9,e2⟩:=aa e;have zz:=aF e9;clear e9;obtain⟨e9,ag⟩:=zz;subst ag;refine⟨F,ρ,r,W,j,nb.stp.gs,e1,e9,λJ F1 H1 s1 w=>?_⟩;refine⟨λi m u Hi=>∃E f Q,NB X.K x q as F0 G I H0 E f u Hi Q/\aD F1 E/\m=j.length-i/\i<=j.length/\jM is one (fW c n ss) (j.drop i) f=.ok fl U,⟨_,F1,W,rows,nb.step s1,.refl _,rfl,uO,e2⟩,?_⟩;rintro i m u Hi⟨E,f,Q,t,L,rfl,ap,l⟩;obtain⟨w1,w2⟩:=w i E Hi L t.stp.gs.sub;by_cases B:i<j.length
 . right;have hd:j[i]?=a7 j[i]:=by simp[B]
   obtain⟨go,step⟩:=w1 _ hd;refine⟨go,λσ' Y=>∃m',m'<j.length-i/\∃E f Q,NB X.K x q as F0 G I H0 E f σ' Y Q/\aD F1 E/\m'=j.length-(i+1)/\i+1<=j.length/\jM is one (fW c n ss) (j.drop (i+1)) f=.ok fl U,λσ' Y z=>z,λy Y yy=>?_⟩;obtain⟨F2,ext,rx⟩:=step y Y yy;have t2:=ext.stp t.stp.gs;rw[gz B,CQ]at l;cases hbd:cA f is one j[i]with|none=>rw[hbd]at l;cases l|some Z=>rw[hbd]at l;obtain⟨ac,M,eb,l⟩:=aa l;refine af y _ F2 f Z u Y _ t2.gs rx hbd λar sb=>?_;have t3:=t2.trans sb;refine⟨F0,G,I,H0,F2,Z,q,as,Q,ac,M,t.step t3,eb,λF4 ae H4 s4 ah N=>?_⟩;have C:aD F1 F4:=L.trans (ext.fs.trans ah);cases ac with|next=>obtain⟨N6,O⟩:=N (λr z=>by cases z);exact⟨_,by omega,F4,M,N6,O,C,rfl,B,l⟩|cont=>obtain⟨N6,O⟩:=N (λr z=>by cases z);exact⟨_,by omega,F4,M,N6,O,C,rfl,B,l⟩|brk=>cases l;exact k F4 ae H4 s4 (s1.bY.trans C) λ_=>N (λr z=>by cases z)|ret r=>cases l;exact λv rr=>k F4 ae H4 s4 (s1.bY.trans C) (λh=>(h r rfl).elim) v rr
 . left;have ai:j.drop i=[]:=by rw[jW];omega
   rw[ai,Lw]at l;cases l;exact⟨w2 (by omega),k E u Hi t.stp (s1.bY.trans L) λ_=>⟨Q,t⟩⟩
end
section
variable{X:Cx}{c:Call}{n:Nat}{e a b d i j:dc}{p pa pb pd pi pj:P}{pos:Pos}
theorem QZ{ρ f:List Sl}{x:Nat}{o:Option (List (List D))}{fl:Fl}(h:Hs ρ x o=.ok fl f):∃rows,o=a7 rows/\fl=.next/\f=ρ.set x (.hold rows):=by cases o with|none=>cases h|some rows=>cases h;exact⟨rows,rfl,rfl,rfl⟩
section
variable{K:PySem.W.Frag}{F H F0 H0:Hp}{ρ ρ0:List Sl}{σ σ0:_L.St}{x:Nat}{q:ce}{as:List ce}{rows qy:List (List D)}
theorem NB.hold(f:NB K x q as F0 ρ0 σ0 H0 F ρ σ H rows)(h:jU ρ x=a7 qy):qy=rows:=by have:=Lr h;rw[f.nw.slot]at this;cases this;rfl
theorem NB.at{k:Int}{r:Nat}{row:List D}(f:NB K x q as F0 ρ0 σ0 H0 F ρ σ H rows)(h1:_H.jm rows.length k=a7 r)(h:rows[r]?=a7 row):∃a ys,as[r]?=a7 a/\Ji (as.map V.ref) k=a7 (.ref a)/\H a=a7 (.lst ys)/\aH K F ys row:=by
 have g:r<as.length:=by rw[f.nw.len];exact(fu h).1
 obtain⟨⟨ys,k1,r1⟩,_⟩:=f.nw.row r as[r] row (by simp[g]) h;refine⟨as[r],ys,by simp[g],?_,k1.1,r1⟩;unfold Ji;rw[ef,f.nw.len];rw[show _L.jm rows.length k=a7 r from h1];simp[g]
theorem NB.xR{g:D}{row:List D}(l:NB K x q as F0 ρ0 σ0 H0 F ρ σ H rows)(h:_H.xR ρ x g=a7 row):∃k a,(∃r:Nat,as[r]?=a7 a)/\Ji (as.map V.ref) k=a7 (.ref a)/\g=.int k/\∃ys,H a=a7 (.lst ys)/\aH K F ys row:=by unfold _H.xR at h;obtain⟨f,h1,h⟩:=cH h;cases l.hold h1;obtain⟨k,m,h⟩:=cH h;obtain⟨r,s,t⟩:=cH h;obtain⟨a,ys,u,v,w,y⟩:=l.at s t;exact⟨k,a,⟨r,u⟩,v,dm m,ys,w,y⟩
end
theorem Hk{l:List (List D)}{k:Int}{f:List D->Option (List D)}(h:lu rows k f=a7 l):∃r row g,_H.jm rows.length k=a7 r/\rows[r]?=a7 row/\f row=a7 g/\l=rows.set r g:=by unfold lu at h;obtain⟨r,h1,h⟩:=cH h;obtain⟨row,m,h⟩:=cH h;obtain⟨g,q,h⟩:=map_some h;exact⟨r,row,g,h1,m,q,h.symm⟩
theorem Nk{x:Str}{k:Nat}{t f g cpos:Pos}(hN:X.N[k]?=a7 x)(hv:uQ X.env.scope x)(hi:SX X c i pi)(he:SX X c e p)(G:wX i:=by intro _ _;rfl)(h:(g.endLine==cpos.line)=bT:=by rfl)(hs:cv [e] X.env=(a_,er e X.env)::cv [] X.env:=by rfl)(l:iA (.Subscript (.Name x t) i f) "append" X.env (er (.Subscript (.Name x t) i f) X.env)=er (.Subscript (.Name x t) i f) X.env:=by rfl)(u:((gI cpos (cv [e] X.env)).all (λx=>!x.1)&&(o3 cpos (l6 [] X.env)).all (λx=>x.1.isSome)&&decide ([e].length+([]:List kC).length+(if([]:List kC).isEmpty then 0 else 1)<30))=bT:=by rfl)(I:fy (.Call (.Attribute (.Subscript (.Name x t) i f) "append" g) [e] [] cpos) none pos.line X.env=eS a_:=by rfl)(hd:(x==("__debug__":Str))=a_:=by decide)(J:(x==("__classdict__":Str))=a_:=by decide):SSN X c n k (.Expr (.Call (.Attribute (.Subscript (.Name x t) i f) "append" g) [e] [] cpos) pos) (.NT k pi p):=by obtain⟨ti,L,M⟩:=hi.cZ;refine⟨cO (wQ (KQ plainAttrs_list PySem.F.slot_list_append PySem.F.type_list_append pP (Th Gn (dZ hN hv hd J) L G) (bj he.ev dw hs) l u h hs) I) ?_⟩;rintro E σ H⟨F0,ai,am,H0,F,ρ,q,as,rows,fl,ap,O,e,kk⟩;rw[_H.X24]at e;obtain⟨dk,Q,e2,e⟩:=aa e;obtain⟨ag,ah,B,e⟩:=aa e;have zz:=aF B;clear B;obtain⟨B,U⟩:=zz;subst U;obtain⟨r,W,e3,e⟩:=aa e;obtain⟨rs,w,rfl,rfl⟩:=QZ e;refine⟨.ref q,O.nw.val,M O.stp.gs e2 λvi F1 H1 s1 pi=>?_⟩;have C:=O.step s1;obtain⟨k0,a,g1,g2,g0,ys,g3,g4⟩:=C.xR B;rw[g0]at pi;refine⟨q,_,k0,_,rfl,pi.int,gF.of C.nw.out.kp.1,g2,.inl ⟨rfl,ys,gF.of g3⟩,F1,Q,r,W,C.stp.gs,e3,λv F2 H2 s2 rr=>?_⟩;obtain⟨F3,s3,_,rp⟩:=s2.dD rr;have s:=C.step s3;obtain⟨Y,e5,w⟩:=cH w;cases s.hold e5;obtain⟨k1,e6,w⟩:=cH w;obtain⟨m,row,my,f1,f2,f3,rfl⟩:=Hk w;obtain⟨Z,rfl⟩:=bD f3;have:=dm e6;rw[g0]at this;cases this;obtain⟨a',ac,ae,y,af,z⟩:=s.at f1 f2;rw[g2]at y;cases y;have A:=s.mut ae f2 (z.append (.cons rp .nil));exact⟨a,ac,v,rfl,rfl,af,by rw[z.length];exact Z,kk F3 σ _ A.stp (s1.bY.trans s3.bY) λ_=>⟨_,A⟩⟩
end
section
variable{K:PySem.W.Frag}{F H F1 H1:Hp}{ρ ρ1:List Sl}{σ σ1:_L.St}
theorem aq.since{b:ce}(s:aq K F ρ σ H F1 ρ1 σ1 H1)(h:H1 b=none):Own ρ σ b\/H b=none:=by
 by_cases ho:Own ρ σ b;.exact .inl ho
 .right;cases e:H b with|none=>rfl|some o=>rw[s.keep b o e ho]at h;cases h
theorem NB.mk'{x:Nat}{q:ce}{as:List ce}{s1:Sl}(s:aq K F ρ σ H F1 ρ1 σ1 H1)(e:ρ1[x]?=a7 s1)(g:uL s1=a_)(h:Wq F1 ρ1 σ1 H1 q (as.map V.ref))(nd:(q::as).Nodup)(len:as.length=rows.length)(row:∀(k:Nat)(a:ce)(c:List D),as[k]?=a7 a->rows[k]?=a7 c->Wt K F1 ρ1 σ1 H1 a c)(fr:∀b,b∈q::as->Own ρ σ b\/H b=none):NB K x q as F ρ σ H F1 (ρ1.set x (.hold rows)) (σ1.set x (a7 (.ref q))) H1 rows:=by
 have hi:x<ρ1.length:=(fu e).1;have f:x<σ1.length:=by rw[<-s.gs.len];exact hi
 exact⟨s.Gf rfl (s.free e g),fr,s.free e g,⟨cu hi,cu f,⟨Dy rfl h.kp,h.fr⟩,nd,len,λk a c h1 i=>Qm rfl (row k a c h1 i)⟩⟩
end
theorem Mu{K:PySem.W.Frag}{F H:Hp}{ρ e l:List Sl}{σ:_L.St}{ul:List Sl->List Sl}{ti:TI}{is:List Nat}{one:Bool}{c:Call}{el:Ev}{g:TG}{Q:VK}{f:List D}{m n:Nat}(hm:σ.length=m)(ax:nG K m is one g)(ay:∀R:It->Hp->Prop,(∀J F1 X,Walk K F ρ σ H ul J f F1 e X->R J X)->ti σ H R)(bi:f.length<=lim)(e2:iI is one el f [] (e++cp n .aM)=.ok rows l)(k:∀ q as F' H',aq K F ρ σ H F' (ul (l.take e.length)) σ H'->Wq F' (ul (l.take e.length)) σ H' q (as.map V.ref)->(q::as).Nodup->as.length=rows.length->(∀(k:Nat)(a:ce)(f:List D),as[k]?=a7 a->rows[k]?=a7 f->Wt K F' (ul (l.take e.length)) σ H' a f)->(∀b,b∈q::as->Own ρ σ b\/H b=none)->Q (.ref q) H'):v8 n ti g (Iw K (uN c none)) (yI K el) σ H Q:=by
 refine ay _ λJ F1 X w Da Y=>?_;have aE:e.length=σ.length:=w.gs.len;have gm:=w.gs.more (n:=n) (τ:=cp n none) (by simp);have fD:F1 Da=none:=by cases q:F1 Da with|none=>rfl|some o=>rw[w.gs.sub Da o q]at Y;cases Y
 have nO:¬ Own (e++cp n .aM) (σ++cp n none) Da:=λ⟨i,⟨t,dt,q1,q2⟩,q3⟩=>by obtain⟨a,ys,z1,z2,_⟩:=gm.own i t dt q1 q2;rw[q3]at z1;cases z1;rw[Y]at z2;cases z2
 refine⟨λi mm ys j M=>∃N u B as,aq K F1 (e++cp n .aM) (σ++cp n none) X N u j M/\j.take m=σ/\ys=as.map V.ref/\M Da=a7 (.lst ys)/\N Da=none/\¬ Own u j Da/\(Da::as).Nodup/\as.length=B.length/\(∀(k:Nat)(a:ce)(f:List D),as[k]?=a7 a->B[k]?=a7 f->Wt K N u j M a f/\(Own (e++cp n .aM) (σ++cp n none) a\/X a=none))/\B.length<=i/\mm=f.length-i/\i<=f.length/\iI is one el (f.drop i) B u=.ok rows l,⟨_,F1,_,[],[],(aq.refl gm).Kh Y fD nO,by rw[mE (by omega),kB (by omega)],rfl,aL,fD,nO,by simp,rfl,λk a f h=>by simp at h,uO,rfl,uO,e2⟩,?_⟩;rintro i mm ys j M⟨N,u,B,as,si,ap,Z,hD,hF,hO,ac,C,I,bn,rfl,bo,G⟩;refine⟨hD,?_⟩;have stay:∀{F2 H2:Hp}{ae:List Sl}{L:_L.St},aq K N u j M F2 ae L H2->H2 Da=a7 (.lst ys)/\F2 Da=none/\¬ Own ae L Da:=λ{F2 H2 ae L}s=>by have:=(Wq.stp (xs:=ys) ⟨⟨hD,hO⟩,hF⟩ s);exact⟨this.kp.1,this.fr,this.kp.2⟩
 obtain⟨s1,s2⟩:=w.src n i N u j M si;by_cases af:i<f.length
 . right;have hd:f[i]?=a7 f[i]:=by simp[af]
   obtain⟨go,step⟩:=s1 _ hd;refine⟨go,λx H2 y=>?_⟩;obtain⟨F2,ext,rx⟩:=step x H2 y;have t2:=ext.stp si.gs;rw[gz af,J7]at G;cases hbd:cA u is one f[i]with|none=>rw[hbd]at G;cases G|some U=>rw[hbd]at G;obtain⟨re,ag,ee,G⟩:=aa G;cases re with|val _=>cases G|own ah=>
     replace G:iI is one el (f.drop (i+1)) (B++[ah]) ag=.ok rows l:=G;refine ax x _ F2 u U j H2 _ t2.gs rx hbd λL sb aI=>?_;have t3:=t2.trans sb;refine⟨F2,U,bT,U,t3.gs,by rw[uN],λF4 H4 s4=>?_⟩;have t4:=t3.trans s4;refine(show yI K el L H4 _ from⟨F4,U,.own ah,ag,t4.gs,ee,λv F5 H5 s5 rr=>?_⟩);have t6:=t4.trans s5;obtain⟨y1,y2,y3⟩:=stay t6;obtain⟨z1,z2,z3⟩:=stay t4;have ai:ys.length<sizeLine:=by have O:lim=sizeLine:=rfl;rw[Z,ef];omega
     obtain⟨A,xs,rfl,a1,a2,a3,a4,a5⟩:=rr;have ar:A≠Da:=by
      rintro rfl;rcases a5 with z|z;.exact z3 z
      .rw[z1]at z;cases z
     have nA:A∉as:=λhA=>by
      obtain⟨k0,E⟩:=lp hA;have am:k0<B.length:=by rw[<-C];exact(fu E).1
      obtain⟨⟨zs,k1,_⟩,_⟩:=(I k0 A B[k0] E (by simp[am])).1.stp t4;rcases a5 with z|z;.exact k1.2 z
      .rw[k1.1]at z;cases z
     have fA:Own (e++cp n .aM) (σ++cp n none) A\/X A=none:=by
      have t:=si.trans t4;rcases a5 with z|z;.exact t.yL A z
      .exact t.since z
     refine⟨y1,ai,_,by omega,F5,ag,B++[ah],as++[A],(si.trans t6).Kh Y y2 y3,aI.trans ap,by rw[Z];simp,aL,y2,y3,?_,by simp[C],λk0 a0 aS h1 O=>?_,by simp;omega,rfl,af,G⟩
     . rw[<-iN,lb];refine⟨ac,by simp,λp hp r hr=>?_⟩;simp at hr;subst hr;rcases c_.mp hp with rfl|hp;.exact λz=>ar z.symm
       .rintro rfl;exact nA hp
     . by_cases E:k0<as.length
       . rw[cS E]at h1;rw[cS (by omega)]at O;obtain⟨w0,f0⟩:=I k0 a0 aS h1 O;obtain⟨⟨zs,k1,r1⟩,g1⟩:=w0.stp t6;have na:a0≠Da:=by rintro rfl;exact(eH.mp ac).1 (dQ h1)
         exact⟨⟨⟨zs,⟨by rw[aA na];exact k1.1,k1.2⟩,r1⟩,g1⟩,f0⟩
       . rw[fg (by omega)]at h1;rw[fg (by omega)]at O;have:k0-as.length=0:=by have:=(fu h1).1;simp at this;exact this
         rw[this]at h1;rw[<-C,this]at O;cases h1;cases O;exact⟨⟨⟨xs,⟨by rw[aA ar];exact a1,a4⟩,a3⟩,a2⟩,fA⟩
 . left;have aT:f.drop i=[]:=by rw[jW];omega
   rw[aT,JM]at G;cases G;refine⟨s2 (by omega),?_⟩;have hst:j.take e.length=σ:=by rw[aE,hm];exact ap
   obtain⟨l1,l2⟩:=aq.less (m:=e.length) rfl w.gs (by simp) si;rw[hst]at l1;obtain⟨z1,z2⟩:=w.fin _ _ _ _ l1--the outer list:with nothing in it,it is like any new one
   have a8:=si.Kh (o:=.lst []) Y hF hO;obtain⟨av,ZQ⟩:=aq.less (m:=e.length) rfl w.gs (by simp) a8;rw[hst]at av;obtain⟨bp,a9⟩:=w.fin _ _ _ _ av;have rr:di K N l j (upd M Da (.lst [])) (e++cp n .aM) (σ++cp n none) X (.ref Da) (.own []):=⟨Da,[],rfl,aL,hF,.nil,hO,.inr Y⟩;have Ub:=ZQ _ _ rr;rw[hst]at Ub;obtain⟨_,_,q0,_,q3,_,q5,q6⟩:=a9 _ _ Ub;cases q0;have aw:∀(k:Nat)(a:ce)(f:List D),as[k]?=a7 a->rows[k]?=a7 f->Wt K N (ul (l.take e.length)) σ M a f/\(Own ρ σ a\/H a=none):=λk a f h1 O=>by obtain⟨⟨⟨xs,k1,r1⟩,f1⟩,f2⟩:=I k a f h1 O;have rr:di K N l j M (e++cp n .aM) (σ++cp n none) X (.ref a) (.own f):=⟨a,xs,rfl,k1.1,f1,r1,k1.2,f2⟩;have Ub:=l2 _ _ rr;rw[hst]at Ub;obtain⟨a',ba,q0,q2,q3,q4,q5,q6⟩:=z2 _ _ Ub;cases q0;exact⟨⟨⟨ba,⟨q2,q5⟩,q4⟩,q3⟩,q6⟩
   refine k Da as N M z1 ⟨⟨by rw[hD,Z],q5⟩,q3⟩ ac C (λk a f h1 O=>(aw k a f h1 O).1) λb hb=>?_;rcases c_.mp hb with rfl|hb;.exact q6
   . obtain⟨k0,E⟩:=lp hb;have am:k0<rows.length:=by rw[<-C];exact(fu E).1
     exact(aw k0 b rows[k0] E (by simp[am])).2
section
variable{X:Cx}{c:Call}{nn n:Nat}{tg iter elt:dc}{ps pe:P}{pos:Pos}{sts:List ey}{ss:List S}{scope:iO}{N':List Str}
theorem QJ{i:Nat}{x:Str}{b f:Pos}{g:TG}{is:List Nat}{one:Bool}(hc:X.calm=bT)(A:X.N.Nodup)(m:X.N[i]?=a7 x)(B:Loc X.env.scope x)(ok:gj X scope N' n)(hi:SI X c tg iter ps)(E:∀cl C s₀ H₀ ex,PG (sW X scope N' cl C s₀ H₀ ex) tg g)(r:nG X.K X.N.length is one g)(ht:∀cl C s₀ H₀ ex,SQ (sW X scope N' cl C s₀ H₀ ex) c [] none)(he:∀cl C s₀ H₀ ex,SX (sW X scope N' cl C s₀ H₀ ex) c elt pe)(G:SBT X c nn i sts ss)(t:fy (.ListComp elt [⟨tg,iter,[],0⟩] scope pos) (a7 (.Name x b)) f.line X.env=eS bT:=by rfl)(hs:∀x,eN iter X.env x=eS x:=by intro _;rfl)(J:X.fn x=bT\/X.env.scope.names.lookup x=a7 .local:=by first|(left;rfl)|(right;rfl)|assumption):SB X c nn (.Assign [.Name x b] (.ListComp elt [⟨tg,iter,[],0⟩] scope pos) f::sts) (.NQ i ps n is one pe::ss):=by
 have h0:=Ow (tt:=Iw X.K (uN c none)) (te:=yI X.K (_H.ev c pe)) hc A m B ok hi E ht (λcl C s₀ H₀ ex=>(he cl C s₀ H₀ ex).ev) t hs J;refine λj s σ H D I q=>jj h0 G.p j s σ H D I ?_;have L:σ.length=X.N.length:=I.len;obtain⟨F,ρ,fl,u,M,e,kk⟩:=q;rw[Wv]at e;obtain⟨f1,O,a,e⟩:=aa e;rw[_H.X23]at a;obtain⟨Q,w,U,a⟩:=aa a;split at a;.rename_i k;obtain⟨rows,W,Y,a⟩:=aa a;obtain⟨Z,z,l,a⟩:=aa a;cases a;have zz:=aF l;clear l;obtain⟨l,_⟩:=zz;obtain⟨s1,h1,h2,rfl⟩:=yc l;refine(show v8 n (tIt X.K (isVar ps) (_H.ev c ps)) g (Iw X.K (uN c none)) (yI X.K (_H.ev c pe)) σ H (λv H1=>lg i v σ H1 (ZZ X.K i (fW c nn ss) D))from Mu (c:=c) (ul:=aP ρ (isVar ps)) L r (λR h=>⟨F,ρ,Q,w,M,U,h⟩) k Y λq as F' H' s wq nd len row fr=>?_);exact⟨F,ρ,σ,H,F',_,q,as,rows,fl,u,NB.mk' s h1 h2 wq nd len row fr,e,λF2 y H2 s2=>kk F2 y H2 s2⟩
 .cases a
end
end _H
namespace _H
open PySem _L Spec PyProof.Rows Calls W
variable{i:Nat}{x:Str}
section
variable{K:PySem.W.Frag}{F F1 H H1:Hp}{ρ ρ1 ρ2:List Sl}{σ σ1:_L.St}
theorem GS.agK{x:Nat}{kvs f:List (Int×D)}{a:ce}{w:HO}(g:GS K F ρ σ H)(e:ρ[x]?=a7 (.cY kvs))(p:σ[x]?=a7 (a7 (.ref a)))(r:mF K F w (.v f)):aq K F ρ σ H F (ρ.set x (.cY f)) σ (upd H a w):=by
 have hi:x<ρ.length:=(fu e).1;have y:aQ ρ σ x a:=⟨⟨_,_,e,rfl⟩,p⟩;obtain⟨J,L,h1,M,z,N⟩:=g.own x _ _ e rfl;rw[p]at h1;cases h1;have h:∀{j:Nat}{c:ce},aQ (ρ.set x (.cY f)) σ j c->aQ ρ σ j c:=λ{j c}⟨⟨t,dt,m,s⟩,q3⟩=>by
  by_cases b:j=x;.subst b;exact⟨⟨_,_,e,rfl⟩,q3⟩
  .rw[fY b]at m;exact⟨⟨t,dt,m,s⟩,q3⟩
 refine⟨⟨λc o q=>?_,by simp[g.len],λj b' d q=>?_,λj t dt q u=>?_,λj k c m s=>g.dis j k c (h m) (h s)⟩,.refl _,λc n B=>absurd n B,λc o q n=>?_,λc⟨j,q⟩=>.inl ⟨j,h q⟩,by simp,λj t q l=>⟨rfl,?_⟩⟩
 . have:c≠a:=by rintro rfl;rw[z]at q;cases q
   rw[aA this];exact g.sub c o q
 . by_cases b:j=x;.subst b;rw[cu hi]at q;cases q
   .rw[fY b]at q;exact g.val j b' d q
 . by_cases b:j=x;.subst b;rw[cu hi]at q;cases q;cases u;exact⟨a,_,p,aL,z,r⟩
   . rw[fY b]at q;obtain⟨c,C,A,E,G,I⟩:=g.own j t dt q u;have:c≠a:=by rintro rfl;exact b (g.dis j x c ⟨⟨t,dt,q,u⟩,A⟩ y)
     exact⟨c,C,A,by rw[aA this];exact E,G,I⟩
 . have:c≠a:=by rintro rfl;exact n ⟨x,y⟩
   rw[aA this];exact q
 . by_cases b:j=x;.subst b;rw[e]at q;cases q;cases l
   .exact⟨t,by rw[fY b];exact q,.refl t⟩
theorem GS.newV{kvs:List (Int×D)}{a:ce}{z:HO}{s0:Sl}(g:GS K F ρ σ H)(e:ρ[i]?=a7 s0)(w:uL s0=a_)(r:mF K F z (.v kvs))(p:H a=none):aq K F ρ σ H F (ρ.set i (.cY kvs)) (σ.set i (a7 (.ref a))) (upd H a z):=by
 have hi:i<ρ.length:=(fu e).1;have s:i<σ.length:=by rw[<-g.len];exact hi
 have A:F a=none:=by cases q:F a with|none=>rfl|some o=>rw[g.sub a o q]at p;cases p
 have f:∀{j:Nat}{c:ce},j≠i->aQ (ρ.set i (.cY kvs)) (σ.set i (a7 (.ref a))) j c->aQ ρ σ j c:=λ{j c}b⟨⟨t,ds,e1,e2⟩,e3⟩=>by rw[fY b]at e1 e3;exact⟨⟨t,ds,e1,e2⟩,e3⟩
 have new:∀{c:ce},aQ (ρ.set i (.cY kvs)) (σ.set i (a7 (.ref a))) i c->c=a:=λ{c}⟨_,e3⟩=>by rw[cu s]at e3;cases e3;rfl
 have no:∀{j:Nat},¬ aQ ρ σ j a:=λ{j}⟨⟨t,ds,e1,e2⟩,e3⟩=>by obtain⟨c,o,h,m,_⟩:=g.own j t ds e1 e2;rw[e3]at h;cases h;rw[p]at m;cases m
 refine⟨⟨λc o q=>?_,by simp[g.len],λj b' d q=>?_,λj t dt q B=>?_,λj k c h m=>?_⟩,.refl _,λc n C=>absurd n C,λc o q n=>?_,λc⟨j,q⟩=>?_,by simp,λj t q l=>?_⟩
 . have:c≠a:=by rintro rfl;rw[A]at q;cases q
   rw[aA this];exact g.sub c o q
 . by_cases b:j=i;.subst b;rw[cu hi]at q;cases q
   .rw[fY b]at q ⊢;exact g.val j b' d q
 . by_cases b:j=i;.subst b;rw[cu hi]at q;cases q;cases B;exact⟨a,_,cu s,aL,A,r⟩
   . rw[fY b]at q ⊢;obtain⟨c,o,E,y,G,I⟩:=g.own j t dt q B;have:c≠a:=by rintro rfl;rw[p]at y;cases y
     exact⟨c,o,E,by rw[aA this];exact y,G,I⟩
 . by_cases b:j=i
   . by_cases u:k=i;.rw[b,u]
     .subst b;rw[new h]at m;exact absurd (f u m) no
   . by_cases u:k=i;.subst u;rw[new m]at h;exact absurd (f b h) no
     .exact g.dis j k c (f b h) (f u m)
 . have:c≠a:=by rintro rfl;rw[p]at q;cases q
   rw[aA this];exact q
 . by_cases b:j=i;.subst b;rw[new q];exact .inr p
   .exact .inl ⟨j,f b q⟩
 . have b:j≠i:=by rintro rfl;rw[e]at q;cases q;rw[w]at l;cases l
   exact⟨by rw[fY b],t,by rw[fY b];exact q,.refl t⟩
end
section
variable{X:Cx}{c:Call}{n:Nat}{a b e:dc}{pa pb p:P}{pos:Pos}
theorem Fg{f p2:Pos}(m:X.N.Nodup)(hi:X.N[i]?=a7 x)(o:Loc X.env.scope x)(hs:fy (.Dict [] [] p2) (a7 (.Name x f)) pos.line X.env=eS a_:=by rfl)(r:X.fn x=bT\/X.env.scope.names.lookup x=a7 .local:=by first|(left;rfl)|(right;rfl)|assumption):SS X c n (.Assign [.Name x f] (.Dict [] [] p2) pos) (.Im i):=by
 refine cO (o7 m hi o zb hs r) ?_;rintro D σ H⟨F,ρ,fl,h,g,e,k⟩;rw[_H.X27]at e;have go:∀s0,ρ[i]?=a7 s0->uL s0=a_->fl=.next->h=ρ.set i (.cY [])->∀a,H a=none->D.nx (σ.set i (a7 (.ref a))) (upd H a (.dK [])):=λs0 q s j l a t=>by subst j l;exact k F _ _ (g.newV (kvs:=[]) q s (KR.oc .nil) t)
 split at e;.rename_i q;cases e;exact go _ q rfl rfl rfl
 .rename_i q;cases e;exact go _ q rfl rfl rfl
 .rename_i q;cases e;exact go _ q rfl rfl rfl
 .cases e
theorem rG{w f:Pos}{pk:P}(hu:X.A.units+8<fT)(C:X.N[i]?=a7 x)(E:uQ X.env.scope x)(G:SX X c a pk)(he:SX X c e p)(hs:fy e (a7 (.Subscript (.Name x w) a f)) pos.line X.env=eS a_:=by rfl)(hd:(x==("__debug__":Str))=a_:=by decide)(m:(x==("__classdict__":Str))=a_:=by decide):SS X c n (.Assign [.Subscript (.Name x w) a f] e pos) (.iB i pk p):=by
 obtain⟨ta,h1,I⟩:=G.cZ;refine cO (DX (by omega) (dZ C E hd m) h1 he.ev hs) ?_;rintro D σ H⟨F,ρ,fl,J,g,e,k⟩;rw[_H.X29]at e;obtain⟨r,o,L,l⟩:=aa e;clear e;refine⟨F,ρ,r,o,g,L,λv F1 H1 s1 M=>?_⟩;obtain⟨F2,s2,_,O⟩:=s1.dD M;split at l
 . rename_i iJ Q;obtain⟨kd,U,W,h⟩:=aa l;clear l;obtain⟨s,o0,t,w2,w3,w4⟩:=s2.gs.own i _ _ Q rfl;refine⟨.ref s,t,I s2.gs W λy Y Z s3 py=>?_⟩;split at h
   . rename_i kvs j q;split at h;.rename_i hl;cases h;obtain⟨a1,o1,z,y2,y3,y4⟩:=s3.gs.own i _ _ q rfl;rw[t]at z;cases z;obtain⟨es,rfl,B⟩:=KR.Xm y4;have u:=B.put (k:=j) (O.mono s3.bY);refine⟨s,upd Z s (.dK (putK es (dA j:Key) v)),rfl,?_,k Y σ _ ((s2.trans s3).trans (s3.gs.agK q t u.oc))⟩;rw[py.int];exact .inl ⟨es,dA j,y2,rfl,by rw[B.len,fb];exact hl,rfl⟩
     .cases h
   .cases h
 .cases l
theorem Cz{y:Pos}{pk:P}(hu:X.A.units+8<fT)(z:X.N[i]?=a7 x)(B:uQ X.env.scope x)(C:SX X c a pk)(hs:Qy a)(hd:(x==("__debug__":Str))=a_:=by decide)(l:(x==("__classdict__":Str))=a_:=by decide):SX X c (.Subscript (.Name x y) a pos) (.T5 i pk):=by
 obtain⟨ta,h1,E⟩:=C.cZ;refine⟨dN (Qw (by omega) (dZ z B hd l) h1 hs) ?_,λi h=>by cases h⟩;rintro σ H Q⟨F,ρ,r,G,g,e,k⟩;rw[_H.E23]at e;split at e
 . rename_i iJ q;obtain⟨kd,I,J,f⟩:=aa e;clear e;obtain⟨m,o0,o,w2,w3,w4⟩:=g.own i _ _ q rfl;refine⟨.ref m,o,E g J λv F1 L s1 s=>?_⟩;split at f;.rename_i kvs M;obtain⟨t,O⟩:=aF f;clear f;subst O;obtain⟨j,U,W⟩:=cH t;clear t;obtain⟨d,Y,Z⟩:=map_some W;subst Z;rw[dm U]at s;obtain⟨a1,o1,u,y2,y3,y4⟩:=s1.gs.own i _ _ M rfl;rw[o]at u;cases u;obtain⟨es,rfl,kr⟩:=KR.Xm y4;obtain⟨w,g1,g2⟩:=kr.get Y;rw[s.int];exact⟨m,w,rfl,.inl ⟨es,dA j,.inl y2,rfl,g1.symm⟩,k w F1 L s1 (show Rep X.K F1 _ _ from g2)⟩
   .cases f
 .cases e
theorem Up{G:Pos}{pk:P}{neg:Bool}{op:nz}(t:(op=.In/\neg=a_)\/(op=.NotIn/\neg=bT))(hu:X.A.units+8<fT)(w:X.N[i]?=a7 x)(z:uQ X.env.scope x)(J:SX X c a pk)(hd:(x==("__debug__":Str))=a_:=by decide)(m:(x==("__classdict__":Str))=a_:=by decide):PC X op a (.Name x G) (yI X.K (_H.ev c (.T6 i pk neg))):=by
 obtain⟨L,h1,M⟩:=J.cZ;have l:∀{σ:_L.St}{H:Hp}{Q:VK},yI X.K (_H.ev c (.T6 i pk neg)) σ H Q->L σ H λy u=>U0 i σ u λx B=>∃a o,x=.ref a/\pg B a y o/\Q (.bl (if neg then !o.isSome else o.isSome)) B:=λ{σ H Q}⟨F,ρ,r,ρ',g,e,k⟩=>by
  rw[_H.E24]at e;obtain⟨kd,O,U,q⟩:=aa e;clear e;refine M g U λv F1 u s1 C=>?_;split at q;.rename_i kvs W;obtain⟨Y,Z⟩:=aF q;clear q;subst Z;obtain⟨j,e4,e5⟩:=map_some Y;subst e5;rw[dm e4]at C;obtain⟨E,o1,y1,y2,y3,y4⟩:=s1.gs.own i _ _ W rfl;obtain⟨es,rfl,kr⟩:=KR.Xm y4;rw[C.int];refine⟨.ref E,y1,E,_,rfl,.inl ⟨es,dA j,.inl y2,rfl,rfl⟩,?_⟩;rw[kr.has j];exact k _ F1 u s1 (show Rep X.K F1 _ _ from iT _)
  .cases q
 rcases t with⟨rfl,rfl⟩|⟨rfl,rfl⟩;.exact λf s σ H Q I h=>Ur (by omega) h1 (dZ w z hd m) f s σ H Q I (l h)
 .exact λf s σ H Q I h=>G5 (by omega) h1 (dZ w z hd m) f s σ H Q I (l h)
end
theorem qw{P:da}{w:eg}:∀{ks:List Int}{es:List (Key×V)}{vs:List (Key×bx)}{a:List bx},es.map (·.1)=ks.map (dA:Int->Key)->KV es vs->a.length=vs.length->(∀(j:Nat)(v:bx),a[j]?=a7 v->∃(k:Key)(x:bx),vs[j]?=a7 (k,x)/\(aY P w).is k v=bT)->gL a ks
 |[],es,_,a,he,r,h,_=>by cases es with
   |nil=>cases r;cases a with|nil=>exact .nil|cons _ _=>simp at h
   |cons _ _=>simp at he
 |i::ks,es,_,a,he,r,h,k=>by cases es with|nil=>simp at he|cons p es=>cases r with|@cons _ q _ _ r t=>rw[de,de]at he;cases a with|nil=>simp at h|cons v a=>
         obtain⟨f,x,c,g⟩:=k 0 v rfl;simp at c;have l:f=dA i:=by have z:=r.1;rw[c]at z;rw[<-(List.cons.inj he).1];exact z.symm
         subst l;obtain⟨m,tk,b,rfl⟩|⟨_,_,b,_⟩:=bF (show pY (dA i) v=bT from g);.cases b;exact .cons _ tk (qw (List.cons.inj he).2 t (by simpa using h) λj v e=>k (j+1) v (by simpa using e))
         .cases b
section
variable{X:Cx}{c:Call}{n:Nat}{a b e:dc}{pa pb p:P}{pos:Pos}
theorem aaq(hc:X.calm=bT):dY X (.type "list") (QM X.K λx=>blt .ZP [x]):=by rintro m s σ H xs Y Q I r⟨x,z,F,d,A,sm,B,he,k⟩;cases d with|dv ks Z=>
   obtain⟨C,he⟩:=bD (show(if ks.length<=16777216 then a7 (R.own (ks.map D.int))else none)=a7 A from he);subst he;obtain⟨q,E,g,rfl,G,J,L⟩:=B.dv sm;subst z;obtain⟨u,rfl,M⟩:=r.one;cases M;obtain⟨ho,hz,N,vs,t,dd⟩:=(show bA X.prog X.w H s.heap q (.dD E (.dK (ent ks g)))from I.hok q _ G);obtain⟨ep,dd⟩:=dd.dictAt;have y:=ur (ks:=ks) (vs:=g) (by rw[J.length];exact L);have l:vs.length=ks.length:=by rw[<-Paired.length t];have:=congrArg k4 y;simpa using this
   refine kdl_call (kdl_dict (knd:=aY X.prog X.w) (kvs:=vs) (ep:=ep) N) (I.ok.hd hc) dd (by rw[l,fb];omega) λh' tk h O kp U f=>?_;have W:gL h.toList ks:=qw (P:=X.prog) (w:=X.w) y t (by rw[jd];exact f.1) λj v e=>f.2 j v (by rw[<-Array.getElem?_toList];exact e);refine⟨.ref s.heap.objs.size,_,I.laid (t':=tk) (o:=.lst (ks.map V.int)) (h':=h') kp (dU) ⟨by rw[ef,fb];omega,h.toList,O,nQ W,by rw[Array.toArray_toList];exact U⟩,rfl,?_⟩;exact CK sm (vZ ks) (I.hok.fresh (dU)) k|_=>cases he
theorem Kz{p':Pos}(f:x="list")(hc:X.calm=bT)(g:Gl X x)(j:X.mg x=none)(k:SX X c a pa)(hs:cv [a] X.env=(a_,er a X.env)::cv [] X.env:=by rfl):SX X c (.Call (.Name x p') [a] [] pos) (.blt .ZP [pa]):=by subst f;exact qp (λh=>o6 (aaq hc) g j (by decide+kernel) h (he:=hs)) k (λρ=>rfl) rfl hs
theorem Ov{neg:Bool}{op:nz}(f:(op=.In/\neg=a_)\/(op=.NotIn/\neg=bT))(L:X.A.units+8<fT):jw X (eR op) (rD X.K (zJ neg)):=by rintro m s σ H x y v u Q I h t⟨F,d,e,r,sm,w,z,he,k⟩;cases d with
 |int j=>cases e with|dv ks M=>
     cases he;obtain⟨q,B,vs,rfl,C,E,G⟩:=z.dv sm;have J:=KR.zip E G;rw[w.int]at h;obtain rfl:u=dr q:=t;have g:pg H q (.int j) (jY (ent ks vs) (dA j:Key)):=.inl ⟨_,dA j,.inr ⟨B,C⟩,rfl,rfl⟩;have o:(jY (ent ks vs) (dA j:Key)).isSome=ks.contains j:=by rw[J.has j];congr 1;rw[List.map_fst_zip (by omega)]
     rcases f with⟨rfl,rfl⟩|⟨rfl,rfl⟩;.refine abz (by omega) I g h λs3 l=>⟨.bl (jY (ent ks vs) (dA j:Key)).isSome,H,l,rfl,?_⟩;rw[o];exact cM.dC sm (iT _) k
     .refine DQ (by omega) I g h λs3 l=>⟨.bl (!(jY (ent ks vs) (dA j:Key)).isSome),H,l,rfl,?_⟩;rw[o];exact cM.dC sm (iT _) k|_=>cases he
 |_=>cases he
end
end _H
namespace PySem
section
variable{prog:da}{w:eg}{A:ek}{E:bx->b_->Prop}{s:b_}
theorem xf{Q:List bx->b_->Prop}{I l:ce}{items:Array bx}(t:A.handled=none)(f:s.heap.IsRevIter I l ((items.size:Int)-1))(n:s.heap.IsList l items)(k:l≠I)(g:items.size<=2^24)(u:∀h' tk c,(∀b o,b≠I->s.heap.get? b=a7 o->h'.get? b=a7 o)->s.heap.objs.size<h'.objs.size->ItemsOf (λi v=>items[items.size-1-i]?=a7 v) c items.size->Q c.toList {s with heap:=h',toks:=tk}):
 cz (cK prog w) A (collect (.ref I)) Q E s:=by have h:I<s.heap.objs.size:=let⟨_,ho,_⟩:=f;du ho;have m:l<s.heap.objs.size:=let⟨_,ho,_⟩:=n;du ho;unfold collect;refine bd (wpAny_runValue (lw F.entry_proto_collect ?_));rw[iX F.plain_proto_collect _];show cz _ A.in1 (newList []>>=λl=>again (.builtin "list.__iadd__" ⟨[l,.ref I],[]⟩)) _ _ s;refine bd (et ?_);refine cx ⟨ms F.plain_list_iadd _,lw F.entry_list_iadd ?_⟩;rw[iX F.plain_list_iadd _];show cz _ A.in1 (lS (.ref s.heap.objs.size) (.ref I) (.ref s.heap.objs.size)) _ _ _;refine nY (A:=A) (R:=λr p=>match r with
  |.ok (.ret v)=>cz (cK prog w) A (match v with
   |.ref a=>do let o<-load a match o.data with|.seq xs _=>eS xs.toList|_=>n5 "internal:collect"
   |_=>n5 "internal:collect") Q E p|.ok _=>False|.error e=>E e p) (s:={s with heap:=s.heap.push {cls:=.type "list",data:=.seq #[]}}) t (f.at λo e=>eG e) (n.at λo e=>eG e) k g s.heap.objs.size (fN (ec h)) (fN (ec m)) _ 0 (cy _ rfl) λh' tk c z x q j=>?_;refine bd (wpAny_load q ?_);exact cx (u h' tk c (λb o y e=>x b o (ec (du e)) y (eG e)) (du q) j)
end
theorem kW(I l:ce)(items:Array bx)(i:l≠I)(hsz:items.size<=2^24):ol (iE.«tuple.__new__» ⟨[.type "tuple",.ref I],[]⟩) (λA R s=>A.handled=none/\s.heap.IsRevIter I l ((items.size:Int)-1)/\s.heap.IsList l items/\∀(h':ej)(tk:Nat),(∀b o,b≠I->s.heap.get? b=a7 o->h'.get? b=a7 o)->s.heap.objs.size<h'.objs.size->∀a:Array bx,a=items.reverse->R (.ok (.ret (.ref h'.objs.size))) {s with heap:=h'.push {cls:=.type "tuple",data:=.seq a},toks:=tk}):=.of_wp λprog w A R s h=>by
  obtain⟨q,f,r,h⟩:=h;have p:=sub_tuple_self;have k:=init_tuple_lookup;have t:=madeHere_tuple;have u:Shared.TypeIs s (.ref I) "list_reverseiterator":=f.typeIs;obtain⟨o,ho,hc,hd⟩:=id f;obtain⟨B,g,d,tk,os⟩:=s;wp_walk using AutoSeq1.wpAny_loadPart' ho,k9 u,xf (A:=A.in1) q f r i hsz;intro h' m a x n c;show cz _ _ (i9 a.toList.toArray>>=λv=>ret v) _ _ _;have e:a.toList.toArray=a:=by simp
  have y:a=items.reverse:=by refine Array.ext (by rw[c.1,Array.size_reverse]) λj h1 C=>?_;have:=c.2 j _ (Array.getElem?_eq_getElem h1);rw[Array.getElem_reverse];have z:=f_.mp this;exact z.2.symm
  rw[e];unfold i9;refine bd (et ?_ (by show a.size<=sizeLine;rw[c.1,fb];omega));exact cx ⟨_,rfl,h h' m x n a y⟩
section
variable{prog:da}{w:eg}{A:ek}{E:bx->b_->Prop}{s:b_}
theorem qI{I l:ce}{items:Array bx}{Q:bx->b_->Prop}(g:A.handled=none)(a:s.heap.IsRevIter I l ((items.size:Int)-1))(i:s.heap.IsList l items)(c:l≠I)(hsz:items.size<=2^24)(h:∀(h':ej)(tk:Nat),(∀b o,b≠I->s.heap.get? b=a7 o->h'.get? b=a7 o)->s.heap.objs.size<h'.objs.size->Q (.ref h'.objs.size) {s with heap:=h'.push {cls:=.type "tuple",data:=.seq items.reverse},toks:=tk}):cz (cK prog w) A (call (.type "tuple") [.ref I]) Q E s:=ll F.called_tuple (by decide) (F.typeCall_tuple_1 _) (F.newCall_tuple_1 _) (λobj=>F.args_object_init_2 obj _) F.entry_tuple_new (kW I l items c hsz) ⟨g,a,i,λh' tk j f k e=>by subst e;exact⟨⟨_,cy _ rfl,rfl⟩,h h' tk j f⟩⟩
end
end PySem
namespace _L
open PySem Spec PyProof.Rows
section
variable{X:Cx}{pins:List (ce×Obj)}{σ:St}{H:Hp}{s:b_}{E:bx->b_->Prop}
theorem Dd{a:dc}{B:TE}{p pos p2 g:Pos}(hc:X.calm=bT)(n:Gl X "tuple")(t:X.mg "tuple"=none)(J:Gl X "reversed")(L:X.mg "reversed"=none)(M:PE X a B)(hs:cv [a] X.env=[(a_,er a X.env)]:=by rfl)(i:cv [.Call (.Name "reversed" p) [a] [] pos] X.env=[(a_,er (.Call (.Name "reversed" p) [a] [] pos) X.env)]:=by rfl):PE X (.Call (.Name "tuple" p2) [.Call (.Name "reversed" p) [a] [] pos] [] g) (λσ H Q=>B σ H λx f=>∃ad xs,x=.ref ad/\gF X.K f ad xs/\∀l,f l=none->Q (.ref l) (upd f l (.tup xs.reverse))):=by
 intro pins s σ H Q I h;refine Call_ (kE I n t Ac (eW ?_ i rfl));rw[i];show cz _ _ (spliced ((a_,er (.Call (.Name "reversed" p) [a] [] pos) X.env)::[])) _ _ _;refine iq (Call_ (kE I J L uh (eW (cC ((bj M dw hs) pos pins s σ H (λvs f=>match vs with|[x]=>∃ad xs,x=.ref ad/\gF X.K f ad xs/\∀l,f l=none->Q (.ref l) (upd f l (.tup xs.reverse))|_=>False) I h) ?_) hs rfl)));rintro Y s1⟨vs,f,m,r1,v⟩;obtain⟨ad,xs,N,q,w⟩:∃ad xs,gF X.K f ad xs/\(∀l,f l=none->Q (.ref l) (upd f l (.tup xs.reverse)))/\vs=[.ref ad]:=by cases vs with|nil=>cases v|cons x r=>cases r with|nil=>obtain⟨ad,xs,rfl,q,O⟩:=v;exact⟨ad,xs,q,O,rfl⟩|cons _ _=>cases v
 subst w;obtain⟨u,rfl,U⟩:=r1.one;cases U;obtain⟨c,C,y,hz⟩:=m.list N;have hsz:c.toArray.size=xs.length:=by rw[cE,<-C.length]
 refine call_reversed_list y.isList (ka ?_);have z:ad≠s1.heap.objs.size:=ec (let⟨_,ho,_⟩:=y.isList;du ho);have A:(s1.heap.push (revObj ad ((c.toArray.size:Int)-1))).IsList ad c.toArray:=y.isList.at λo e=>eG e;refine qI (m.ok.hd hc) (I:=s1.heap.objs.size) (l:=ad) (items:=c.toArray) ⟨_,cy _ rfl,rfl,rfl⟩ A z (by rw[hsz];exact fR hz (by decide)) λh' tk G j=>?_;have k:(s1.heap.push (revObj ad ((c.toArray.size:Int)-1))).objs.size=s1.heap.objs.size+1:=eu ..;dsimp only at G j ⊢;rw[k]at j;have W:c.toArray.reverse=c.reverse.toArray:=by simp
 rw[W];refine⟨.ref h'.objs.size,_,m.laid (t':=tk) (o:=.tup xs.reverse) (h':=h'.push {cls:=.type "tuple",data:=.seq c.reverse.toArray}) (λb o e=>eG (G b o (ec (du e)) (eG e))) (by omega) ?_,rfl,q _ (m.hok.fresh (by omega))⟩;exact⟨by rw[List.length_reverse];exact hz,_,C.reverse,k6 _ _⟩
end
end _L
namespace _H
open PySem _L Spec PyProof.Rows
section
variable{X:Cx}{c:Call}{a:dc}{pa:P}{pos:Pos}
theorem Bq{x y:Str}{p' o b:Pos}(p:y="tuple")(q:x="reversed")(hc:X.calm=bT)(j:Gl X y)(m:X.mg y=none)(t:Gl X x)(u:X.mg x=none)(w:SX X c a pa)(hs:cv [a] X.env=[(a_,er a X.env)]:=by rfl)(n:cv [.Call (.Name x p') [a] [] pos] X.env=[(a_,er (.Call (.Name x p') [a] [] pos) X.env)]:=by rfl):SX X c (.Call (.Name y o) [.Call (.Name x p') [a] [] pos] [] b) (.blt .rvT [pa]):=by subst q p;obtain⟨Y,h1,z⟩:=w.cZ;refine⟨dN (Dd hc j m t u h1 hs n) ?_,λi h=>by cases h⟩;rintro σ H Q⟨F,ρ,r,A,g,e,k⟩;rw[_H.E15]at e;obtain⟨d,B,C,f⟩:=aa e;have E:=aF f;clear f;obtain⟨f,G⟩:=E;subst G;cases d with|lst Z=>cases f;refine z g C ?_;rintro v F' H' s I;obtain⟨ad,xs,rfl,J,L⟩:=I.lst s.gs.sub;exact⟨ad,xs,rfl,J,λl M=>CG s.gs.sub (aH.rev L) M λv N O U W=>k v N O (s.trans (U.stp s.gs)) (.later s (W.uo s.gs))⟩|_=>cases f
end
end _H
namespace _L
open PySem Spec PyProof.Rows Calls
section
variable{X:Cx}
theorem Ld:aaz X (Z3 X.K):=by
 intro a s σ H x y v u Q I g k h;obtain⟨p,xs,i,z,rfl,rfl,l,he,q⟩:=h;cases g;obtain⟨t,rfl⟩:=k;obtain⟨b,r,e,hz⟩:=I.list l;obtain⟨j,h1,m,C,n,o⟩:=xG he;obtain⟨w,f,A⟩:=r.get m;have B:=r.length;have E:=sG;have fin:EP X a σ Q w s:=⟨z,H,I,A,q⟩;by_cases h0:0<=i
 . have c:i.toNat=j:=by rw[n9 h0 o]at h1;exact ez h1
   exact wpAny_getItem_list e.isList h0 (by omega) (by rw[c];simpa using f) fin
 . have c:(i+(b.toArray.size:Int)).toNat=j:=by rw[mS (by omega) n]at h1;rw[cE,<-B];exact ez h1
   exact qz e.isList (by omega) (by rw[cE]<;>omega) (by omega) (by rw[c];simpa using f) fin
end
end _L
namespace _H
open PySem _L Spec PyProof.Rows Calls W
section
variable{X:Cx}{c:Call}{n:Nat}{a b e:dc}{pa pb p:P}{pos:Pos}
set_option maxHeartbeats 800000 in
theorem Fx{k e:Int}{t1 t2 p1 p2 p3}:SX X c (.Dict [a7 (.Constant (.int k) t1 p1)] [.Constant (.int e) t2 p2] p3) (.Dk k e):=by
 refine⟨?_,λi h=>by cases h⟩;intro f s σ H Q I h;obtain⟨F,ρ,r,x,g,m,kk⟩:=h;rw[_H.E25]at m;cases m;have y:pN [] [((dA k:Key),V.int e)]=ent [k] [.int e]:=rfl;have A:=Em (X:=X) (pos:=p3) (Ae (tM (i:=k) (j:=t1) (pos:=p1)) (tM (i:=e) (j:=t2) (pos:=p2)) FT) rfl rfl (by simp) (by simp);refine cC (A f s σ H (λv B=>∃q,v=.ref q/\H q=none/\B=upd H q (Eb [k] [.int e])) I ?_) λu s1⟨v,H1,I1,r1,q,e1,hn,e2⟩=>?_;.intro q C;refine⟨aL,[(dA k,.int e)],rfl,by simp,q,rfl,C,?_⟩;rw[xj,y];rfl
 subst e1 e2;obtain⟨o,t⟩:=Inv.Ma I1 (a:=q) (kvs:=ent [k] [.int e]) aL;rw[xj]at t;have E:F q=none:=by cases z:F q with|none=>rfl|some o=>rw[g.sub q o z]at hn;cases hn
 have sm:aD F (upd F q (.dD o (Eb [k] [.int e]))):=aD.cI E;refine⟨.ref q,_,t,r1,kk _ (upd F q (.dD o (Eb [k] [.int e]))) _ (Ext.stp g ⟨aD.cI hn,sm,λb o e=>?_,λb n w=>?_⟩) ?_⟩
 . by_cases l:b=q;.subst l;rw[aL]at e ⊢;exact e
   .rw[aA l]at e ⊢;exact g.sub b o e
 . by_cases l:b=q;.subst l;exact lK hn
   .rw[aA l]at w;exact absurd n w
 .show Rep X.K _ _ (.dv [k] [.int e]);rw[Rep];exact⟨q,o,[.int e],rfl,aL,.cons (bW _) .nil,rfl⟩
theorem rJ{x:Str}{k:Nat}{px m:Pos}{op:l_}{sub:Bool}(ho:S9 X op (Y4 λi j=>if sub then i-j else i+j))(hN:X.N[k]?=a7 x)(hv:uQ X.env.scope x)(hi:SX X c b pb)(he:SX X c e p)(ha:∀ov iv new,augStore b ov iv new=(do kc [new,ov,iv] (ot ov iv new);release [new,ov,iv] [];eS .next):=by intros;rfl)(hd:(x==("__debug__":Str))=a_:=by decide)(B:(x==("__classdict__":Str))=a_:=by decide):SS X c n (.AugAssign (.Subscript (.Name x px) b m) op e pos) (.NK k pb sub p):=by
 obtain⟨ti,C,E⟩:=hi.cZ;obtain⟨te,G,I⟩:=he.cZ;refine cO (Qz (dZ hN hv hd B) C Ld G ho set_list ha) ?_;rintro D σ H⟨F,ρ,fl,ac,g,e,kk⟩;rw[_H.X17]at e;obtain⟨x0,ae,o,W⟩:=aa e;clear e;obtain⟨e0,Dl⟩:=aF o;clear o;subst Dl;obtain⟨dk,J,e1,Y⟩:=aa W;clear W;obtain⟨l,af,f,Z⟩:=aa Y;clear Y;obtain⟨y,L⟩:=aF f;clear f;subst L;obtain⟨ra,ag,r,eD⟩:=aa Z;clear Z;obtain⟨e3,M⟩:=aF r;clear r;subst M;obtain⟨db,ah,e4,s⟩:=aa eD;clear eD;obtain⟨O,Wv,h,_⟩:=wN g e0;refine⟨.ref O,h,E g e1 λvi F1 H1 s1 pi=>?_⟩;split at s
 . rename_i u v bb ds kz q;split at s
   . rename_i j hj;cases s;obtain⟨A,f3,f5⟩:=cH e3;have Q:A=kz:=by cases f3;rfl
     subst Q;have f:pk J k=a7 (.lst l):=by
      unfold Cp at y;split at y;.rename_i z;cases y;exact z
      .cases y
     obtain⟨o',t,po⟩:=s1.gs.pk f;rw[h]at t;cases t;obtain⟨ad,xs,hr,hL,rs⟩:=po.lst s1.gs.sub;cases hr;obtain⟨j0,h1,h2⟩:=JP f5;obtain⟨w,h3,h4⟩:=rs.get h2;have U:Ji xs A=a7 w:=by unfold Ji;rw[rs.length,h1];exact h3
     have hw:w=.int u:=by rw[Rep]at h4;exact h4
     subst hw;refine⟨O,xs,A,.int u,rfl,pi.int,hL,U,I s1.gs e4 λvb F2 H2 s2 pb=>⟨u,v,rfl,pb.int,?_⟩⟩;obtain⟨ai,zs,z1,z2,z3,z4⟩:=s2.gs.mZ k _ ds q rfl;rw[h]at z1;cases z1;refine⟨O,zs,A,j,rfl,pi.int,z2,by rw[z4.length];exact hj,?_⟩;exact kk F2 σ _ ((s1.trans s2).trans (s2.gs.mut q h (z4.set (bW _) j)))
   .cases s
 .cases s
end
section
variable{X:Cx}{c:Call}{n:Nat}{a b e:dc}{pa pb p:P}{pos:Pos}
theorem QH{neg:Bool}{o:Op}{op:nz}(h:(op=.In/\neg=a_)\/(op=.NotIn/\neg=bT))(j:uK o=zJ neg)(l:X.A.units+8<fT)(m:SX X c a pa)(y:SX X c b pb)(B:gi op b=a_):ST X c (.Compare a [op] [b] pos) (.bin o pa pb):=by obtain⟨C,tb,h1,E,G⟩:=m.kJ y;refine yM (Ft (Ov h l) h1 E B) λσ H Q q=>pQ (t:=Xg (rD X.K (zJ neg)) C tb) (λQ z=>?_) q;obtain⟨F,ρ,r,I,g,e,k⟩:=z;rw[_H.E3]at e;obtain⟨i,J,L,f⟩:=aa e;have M:=aF f;clear f;obtain⟨f,N⟩:=M;subst N;rw[j]at f;refine G g L λv u O H' s U W=>⟨O,i.1,i.2,r,s.gs.sub,U,W,f,λw Y Z x rn=>?_⟩;exact k w Y Z (s.trans (x.stp s.gs)) (.later s (rn.uo s.gs))
theorem Um(f:X.A.units+8<fT)(g:SX X c a pa)(h:SX X c b pb)(i:gi .In b=a_):ST X c (.Compare a [.In] [b] pos) (.bin .din pa pb):=QH (.inl ⟨rfl,rfl⟩) rfl f g h i
theorem VL{i:Nat}{x:Str}{h:Pos}{pk:P}{neg:Bool}{op:nz}(f:(op=.In/\neg=a_)\/(op=.NotIn/\neg=bT))(j:X.A.units+8<fT)(k:X.N[i]?=a7 x)(l:uQ X.env.scope x)(m:SX X c a pk)(o:gi op (.Name x h)=a_)(hd:(x==("__debug__":Str))=a_:=by decide)(g:(x==("__classdict__":Str))=a_:=by decide):ST X c (.Compare a [op] [.Name x h] pos) (.T6 i pk neg):=yM (XF (Up f j k l m hd g) o) λσ H Q q=>pQ (λ_ z=>z) q
end
end _H
namespace _H
open PySem _L Spec PyProof.Rows
section
variable{X:Cx}{c:Call}{n:Nat}{pos:Pos}
noncomputable def aeF(k e:Int):TE:=λ_ H Q=>∀p,H p=none->Q (.ref p) (upd H p (.dK [(dA k,.int e)]))
theorem W6{k e:Int}{t1 t2 p1 p2 p3}:PE X (.Dict [a7 (.Constant (.int k) t1 p1)] [.Constant (.int e) t2 p2] p3) (aeF k e):=by refine dN (Em (X:=X) (pos:=p3) (Ae (tM (i:=k) (j:=t1) (pos:=p1)) (tM (i:=e) (j:=t2) (pos:=p2)) FT) rfl rfl (by simp) (by simp)) ?_;intro σ H Q h q a;refine⟨aL,[(dA k,.int e)],rfl,by simp,?_⟩;rw[xj];exact h q a
set_option maxHeartbeats 1000000 in
theorem Qh{i:Nat}{x:Str}{k e:Int}{t1 t2 p1 p2 p3}{b:Pos}(m:X.N.Nodup)(hi:X.N[i]?=a7 x)(o:Loc X.env.scope x)(hs:fy (.Dict [a7 (.Constant (.int k) t1 p1)] [.Constant (.int e) t2 p2] p3) (a7 (.Name x b)) pos.line X.env=eS a_:=by rfl)(p:X.fn x=bT\/X.env.scope.names.lookup x=a7 .local:=by first|(left;rfl)|(right;rfl)|assumption):SS X c n (.Assign [.Name x b] (.Dict [a7 (.Constant (.int k) t1 p1)] [.Constant (.int e) t2 p2] p3) pos) (.Ry i k e):=by
 have h0:=o7 m hi o (W6 (X:=X) (k:=k) (e:=e) (t1:=t1) (t2:=t2) (p1:=p1) (p2:=p2) (p3:=p3)) hs p;show PS X _ _;refine cO h0 ?_;rintro D σ H⟨F,ρ,fl,h,g,f,kk⟩;rw[_H.X28]at f;have go:∀s0,ρ[i]?=a7 s0->uL s0=a_->fl=.next->h=ρ.set i (.cY [(k,.int e)])->∀a,H a=none->D.nx (σ.set i (a7 (.ref a))) (upd H a (.dK [(dA k,.int e)])):=λs0 q r j l a s=>by subst j l;exact kk F _ _ (g.newV (kvs:=[(k,.int e)]) q r (KR.oc (.cons (bW _) .nil)) s)
 split at f;.rename_i q;cases f;exact go _ q rfl rfl rfl
 .rename_i q;cases f;exact go _ q rfl rfl rfl
 .rename_i q;cases f;exact go _ q rfl rfl rfl
 .cases f
end
end _H
namespace _L
open PySem Spec PyProof.Rows
noncomputable def dF(X:Cx)(e:ce)(a:Obj):Cx:={X with pn:=X.pn++[(e,a)]}
section
variable{X:Cx}{pins:List (ce×Obj)}{σ:St}{H:Hp}{s:b_}{e:ce}{oe:Obj}
theorem Wr:X.Ok->(dF X e oe).Ok:=λo=>⟨o.mod,o.kind,o.glob,o.blt,o.above,o.inj,o.has,o.cab,o.hd,o.frames,o.Rv,o.XQ,o.bs,o.Ii,o.u0,o.yD,o.lV,o.Nt⟩
theorem lL(o:X.Ok)(I:Inv (qm X e oe) pins σ H s):Inv (dF X e oe) pins σ H s:=⟨Wr o,I.os,I.bare,I.base,I.loc,I.cell,I.free,I.fZ,I.pin,I.hok,I.len⟩
theorem rC(o:X.Ok)(I:Inv (dF X e oe) pins σ H s):Inv X pins σ H s:=⟨o,I.os,I.bare,I.base,I.loc,I.cell,I.free,I.fZ,λp a=>I.pin p (by
  show p∈(X.pn++[(e,oe)])++pins;rcases eM.mp a with z|z;.exact fE _ (fE _ z)
  .exact eI _ z),I.hok,I.len⟩
theorem Uz{D:Ends}{f:Flow}(o:X.Ok)(h:SP (dF X e oe) pins D f s):SP X pins D f s:=by cases f with|next=>obtain⟨a,b,c,d⟩:=h;exact⟨a,b,rC o c,d⟩|brk=>obtain⟨a,b,c,d⟩:=h;exact⟨a,b,rC o c,d⟩|cont=>obtain⟨a,b,c,d⟩:=h;exact⟨a,b,rC o c,d⟩|ret u=>obtain⟨a,b,c,d,y⟩:=h;exact⟨a,b,c,rC o d,y⟩
end
section
variable{X:Cx}{e C:ce}{oe:Obj}
theorem Jd{a:List (ce×Obj)}{σ:St}{H:Hp}{s:b_}(b:OE oe C)(I:Inv (dF X e oe) a σ H s):PySem.W.InstAt s.heap e oe C none:=by
 have h:=(I.pin (e,oe) (fE _ (eI _ (dy.mpr rfl)))).1;refine⟨h,b.cls,?_,?_⟩;.obtain⟨vs,z⟩:=b.data;unfold PySem.W.notCls;rw[z]
 .rw[b.dict];trivial
theorem Vj{c:V}{a:bx}{b:Bool}(g:OE oe C)(Z:J0 X.K C)(hc:∀u,RelV c u->u=a)(h:kitOne X.K (.ref C) a=a7 b):dY (dF X e oe) (.builtin "isinstance") (λxs H Q=>xs=[.ref e,c]/\Q (.bl b) H):=by rintro f s σ H xs k Q I r⟨i,q⟩;subst i;obtain⟨u,l,rfl,j,rt⟩:=r.two;cases(show u=dr e from j);cases hc _ rt;exact kia_one (Ag Z) I.O4 (Jd g I) h nofun λtk=>⟨.bl _,H,I.tok tk,rfl,q⟩
theorem Qv{cs:List V}{f:List bx}{b:Bool}(h:OE oe C)(Z:J0 X.K C)(hc:∀c,Vals cs c->c=f)(i:kitAny X.K (.ref C) f=a7 b):dY (dF X e oe) (.builtin "isinstance") (λxs H Q=>∃q,xs=[.ref e,.ref q]/\H q=a7 (.tup cs)/\Q (.bl b) H):=by rintro g s σ H xs c Q I r⟨q,j,l,k⟩;subst j;obtain⟨u,m,rfl,o,rt⟩:=r.two;cases(show u=dr e from o);cases(show m=dr q from rt);obtain⟨_,p,t,⟨⟨cls,dd,data,sl⟩,ho,a,n,hd⟩⟩:=(show bA X.prog X.w H s.heap q (.tup _)from I.hok q _ l);simp only at a hd;subst a hd;cases hc _ t;exact PySem.W.kia_tup (Ag Z) I.O4 (Jd h I) ho i nofun λtk=>⟨.bl _,H,I.tok tk,rfl,k⟩
end
end _L
namespace _H
open PySem _L Spec PyProof.Rows
section
variable{X:Cx}{i:Nat}{e C:ce}{oe:Obj}{pos:Pos}
theorem LC{x y:Str}{p' p1:Pos}{a:dc}{j:V}{k:bx}{b:Bool}(l:OE oe C)(Z:J0 X.K C)(m:x="isinstance")(n:Gl X x)(o:X.mg x=none)(p:X.N[i]?=a7 y)(r:uQ X.env.scope y)(c:PE (dF X e oe) a (tC j))(hc:∀u,RelV j u->u=k)(s:kitOne X.K (.ref C) k=a7 b)(hs:cv [.Name y p1,a] (dF X e oe).env=(a_,er (.Name y p1) (dF X e oe).env)::cv [a] (dF X e oe).env:=by exact aV rfl)(f:cv [a] (dF X e oe).env=(a_,er a (dF X e oe).env)::cv [] (dF X e oe).env:=by exact aV rfl)(hpl:(gI pos (cv [a] (dF X e oe).env)).any (·.1)=a_:=by rfl)(hd:(y==("__debug__":Str))=a_:=by rfl)(h:(y==("__classdict__":Str))=a_:=by rfl):GB (dF X e oe) i e (.Call (.Name x p') [.Name y p1,a] [] pos) b:=by subst m;refine dN (dq (X:=dF X e oe) (Vj l Z hc s) n o tV (bj (dZ (X:=dF X e oe) p r hd h) (bj c dw f) hs) (he:=hs) (hpl:=hpl)) ?_;rintro σ H Q⟨g,q⟩;exact⟨_,g,rfl,q H (aD.refl _)⟩
theorem U9{x y:Str}{p' p1 p2:Pos}{k2}{es:List dc}{cs:List V}{j:List bx}{b:Bool}(l:OE oe C)(Z:J0 X.K C)(m:x="isinstance")(n:Gl X x)(o:X.mg x=none)(p:X.N[i]?=a7 y)(r:uQ X.env.scope y)(c:GC (dF X e oe) es cs)(hc:∀k,Vals cs k->k=j)(s:kitAny X.K (.ref C) j=a7 b)(hz:cs.length<=sizeLine:=by decide)(hs:cv [.Name y p1,.Tuple es k2 p2] (dF X e oe).env=(a_,er (.Name y p1) (dF X e oe).env)::cv [.Tuple es k2 p2] (dF X e oe).env:=by exact aV rfl)(f:cv [.Tuple es k2 p2] (dF X e oe).env=(a_,er (.Tuple es k2 p2) (dF X e oe).env)::cv [] (dF X e oe).env:=by exact aV rfl)(hpl:(gI pos (cv [.Tuple es k2 p2] (dF X e oe).env)).any (·.1)=a_:=by rfl)(hd:(y==("__debug__":Str))=a_:=by rfl)(h:(y==("__classdict__":Str))=a_:=by rfl):GB (dF X e oe) i e (.Call (.Name x p') [.Name y p1,.Tuple es k2 p2] [] pos) b:=by subst m;refine dN (dq (X:=dF X e oe) (Qv l Z hc s) n o tV (bj (dZ (X:=dF X e oe) p r hd h) (bj (MK c) dw f) hs) (he:=hs) (hpl:=hpl)) ?_;rintro σ H Q⟨g,q⟩;exact⟨_,g,hz,λa t=>⟨a,rfl,aL,q _ (aD.cI t)⟩⟩
variable{x:dc}{b:Bool}
theorem PK(h:GT X i e x b):GW X i e (.BoolOp .Or [x] pos) b:=Lh h
theorem ZX{y:dc}{a:List dc}{b':Bool}(h:GT X i e x b)(g:GW X i e (.BoolOp .Or (y::a) pos) b'):GW X i e (.BoolOp .Or (x::y::a) pos) (b||b'):=by intro c f s σ H Q I q;refine S6 h g c f s σ H Q I ⟨q.1,λj sm=>?_⟩;cases b with|false=>exact⟨q.1,λk s2=>q.2 k (sm.trans s2)⟩|true=>exact q.2 j sm
noncomputable def RT(X:Cx)(i:Nat)(e:ce)(sts:List ey)(b:Bool):Prop:=qi X sts (λD σ H=>Gd i e σ/\∀a,aD H a->D.rt (.bl b) a)
theorem abi{a c:List ey}(h:GT X i e x a_)(r:RT X i e a b):RT X i e (.If x c [] pos::a) b:=by refine iz (jj (Eo h (HR (sts:=c)) qT) r) λD σ H q=>⟨q.1,λg s1=>?_⟩;exact⟨q.1,λf s2=>q.2 f (s1.trans s2)⟩
theorem Vm{a:Pos}(h:GB X i e x b):RT X i e [.Return (a7 (.UnaryOp .Not x a)) pos] (!b):=iz (Du (xO (JD h))) λD σ H q=>⟨q.1,λc s1=>⟨b,rfl,q.2 c s1⟩⟩
noncomputable def HT(X:Cx)(cl:Nat->ce)(kk i:Nat)(st:List ey)(k:Nat)(o:Option Bool):Prop:=o=none\/∃b,o=a7 b/\Under X.base (cl k) (cl kk)/\∀e oe,OE oe (cl k)->RT (dF X e oe) i e st b
noncomputable def HTs(X:Cx)(cl:Nat->ce)(kk i:Nat)(st:List ey)(k0:Nat)(l:List (Option Bool)):Prop:=∀j o,l[j]?=a7 o->HT X cl kk i st (k0+j) o
variable{cl:Nat->ce}{kk:Nat}{st:List ey}
theorem PN{k0:Nat}:HTs X cl kk i st k0 []:=λj a h=>by simp at h
theorem dM{k0:Nat}{a:Option Bool}{l:List (Option Bool)}(h:HT X cl kk i st k0 a)(c:HTs X cl kk i st (k0+1) l):HTs X cl kk i st k0 (a::l):=λj f q=>by cases j with|zero=>cases q;exact h|succ j=>have:=c j f (by simpa using q);rwa[show k0+(j+1)=k0+1+j by omega]
end
end _H
namespace _L
open PySem Spec PyProof.Rows
section
variable{X:Cx}{pins:List (ce×Obj)}{σ:St}{H:Hp}{s:b_}
theorem K1{x y:Str}{i:Nat}{C:ce}{bm:List bx}{L:String}{E:XK}{body k:List ey}{b0:ey}{np B pos:Pos}{tb:TS}{th:ce->ce->TS}{D:Ends}{Q:Flow->b_->Prop}(hg:Gl X x)(O:mA x C bm L X.mg X.base)(M:bm.contains (.type "BaseException")=bT)(U:X.ex=[])(W:X.stack=X.env::X.outer/\X.env.frame=a7 X.env.locals)(hN:X.N.Nodup)(hi:X.N[i]?=a7 y)(hk:X.env.kindOf y=a7 .local)(hb:∀pins G,ip (cK X.prog X.w) X.A X.env G->Ba (yd X pins G) E->qi (yd X pins G) body tb)(hh:∀e g l,OE g l->qi (qm X e g) (b0::k) (th l e))(I:Inv X pins σ H s)(h1:tb D σ H)(hQ:∀f h,SP X pins D f h->Q f h)(h2:∀(σ':St)(e l:ce)(m:Hp),σ'.length=X.N.length->E (.ref e) (a7 l) m->Under X.base l C/\∃D',th l e (abE i D') (σ'.set i (a7 (.ref e))) m/\∀g f h,OE g l->SP (dF X e g) pins D' f h->Q f h)(hd:(x==("__debug__":Str))=a_:=by decide):cz (cK X.prog X.w) X.A (exec (.Try body [.ExceptHandler (a7 (.Name x np)) (a7 y) (b0::k) B] [] [] pos) X.env) Q X.xe s:=by
 refine wpAny_Try_except ?_;generalize ac:(λ(e:bx)(ae:b_)=>cz (cK X.prog X.w) X.A (nL e X.env) (λ_ af=>cz (cK X.prog X.w) X.A (mf e none) (λ_ ag=>cz (cK X.prog X.w) X.A (handleBy e X.env [.ExceptHandler (a7 (.Name x np)) (a7 y) (b0::k) B]) Q X.xe ag) X.xe af) X.xe ae)=G;have hp:ip (cK X.prog X.w) X.A X.env G:=by rw[<-ac];exact PassesOwn.looking
 have hX:Ba (yd X pins G) E:=by
  intro An σ' m h l e I' fl am q;obtain⟨un,D',ht,r⟩:=h2 σ' e l m I'.len q;obtain⟨ah,hx,Y⟩:=fl.ex;have J:Inv X pins σ' m h:=nu I';show G (.ref e) h;rw[<-ac];show cz (cK X.prog X.w) X.A (nL (.ref e) X.env) _ X.xe h;refine vN (base:=X.base) (env:=X.env) (outer:=X.outer) (by rw[J.ok.frames,W.1]) (by rw[<-W.1];exact J.stack) W.2 hx (Y.imp id λ⟨T,a,b,c,_⟩=>⟨T,a,b,c⟩) λh' t n1 n2 b x' t'=>?_;have b':pZ (frs X.stack) (e::QB ah) h.heap h':=by rw[W.1];exact b
  obtain⟨u,ok,ap⟩:=v9 (X:=X) (outer:=X.outer) J U W fl hx Y n1 n2 b' x' t';have nT:∀T,ah=.ref T->Og h.heap T .none:=λT z=>by
   rcases Y with y|⟨T2,y,_,q,_⟩;.rw[y]at z;cases z
   .rw[y]at z;cases z;exact q
  have j:Inv X pins σ' m {h with heap:=h'}:=J.but b' (by rw[U];exact u) ok (λz=>by
   rcases c_.mp z with z|z;.exact(hx.nl J).1 z
   .exact((nT _ (xW z)).nl J).1 rfl) (λy c hc z=>by
   rcases c_.mp z with z|z;.exact(hx.nl J).2 y c hc z
   .exact((nT _ (xW z)).nl J).2 y c hc rfl) (λp hp z=>by
   have o:=am p hp;rcases c_.mp z with z|z;.exact o.1 z
   .exact o.2 _ _ hx (xW z));have I3:Inv (Gh X e) pins σ' m {h with heap:=h'}:=Nf j;obtain⟨g,vs,q1,q2,q3,q4,q5⟩:=id x';obtain⟨oT,ts,z1,z2,z3⟩:=id t';refine G9 M (rQ (X:=Gh X e) I3 hg O.bound ⟨rfl,O.keeps j.bk,un.keeps j.bk,⟨g,q1,q2⟩,?_⟩ hd);unfold mf;refine bd (eL q1 q3 q4 ?_);rw[if_pos (show(dr t !=dE)=bT from by simp)];refine i3 z1 z2 (f_.mp z3).1 ?_;have ar:m t=none:=J.hok.fresh n1;have ai:h.heap.get? t=none:=jS n1;have b2:pZ (frs X.stack) [t] h' (h'.update t (fq (·.setIfInBounds 3 ((none:Option ce).elim dE λf=>i4 f)))):=pZ.set _ _ _;have Z:∀c o,X.s₀.heap.get? c=a7 o->c≠t:=λc o z y=>by obtain⟨o',w⟩:=J.base.there c o z (by rw[U];simp);rw[y,ai]at w;cases w
  have I4:Inv X pins σ' m {h with heap:=h'.update t (fq (·.setIfInBounds 3 ((none:Option ce).elim dE λf=>i4 f)))}:=j.but b2 ⟨λc o q n nf ne=>by rw[ea _ _ (fN (Z c o q))];exact j.base.keep c o q n nf ne,λc o q n hf ne=>by rw[ea _ _ (fN (Z c o q))];exact j.base.slot c o q n hf ne,j.base.free,λc o q ne=>by rw[ea _ _ (fN (Z c o q))];exact j.base.there c o q ne,j.base.tups,j.base.qO,j.base.uH⟩ (b2.hok j.hok j.qQ λc hc=>by rw[dy.mp hc];exact ar) (λz=>(t'.nl j).1 (dy.mp z)) (λy c hc z=>(t'.nl j).2 y c hc (dy.mp z)) (λp hp z=>by have w:=(J.pin p hp).1;rw[dy.mp z,ai]at w;cases w);have hO:OE g l:=⟨q2,q5,vs,q3⟩;have av:e∉frs X.stack:=lW.Qe (s:={h with heap:=h'}) x' j.stack;have I5:Inv (qm X e g) pins σ' m {h with heap:=h'.update t (fq (·.setIfInBounds 3 ((none:Option ce).elim dE λf=>i4 f)))}:=GZ I4 (by show(h'.update t _).get? e=_;rw[ea _ _ n2];exact q1) hO ap.free (fN (lW.nl (X:=X) j x').1) (λz=>av (by rw[W.1];simp only[frs,gT,W.2];exact dS _ z));refine jl (X:=qm X e g) I5 hN hi (.inl hk) (v:=.ref e) rfl (λs6 I6=>?_) (.inr hk);refine cC (hh e g l hO pins s6 _ m (abE i D') I6 ht) λf s7 y=>?_;cases f with|next=>obtain⟨a,b,c,d⟩:=y;exact rP (X:=dF X e g) (lL J.ok c) hN hi hk λs8 I8=>r g .next s8 hO ⟨_,b,I8,d⟩|brk=>obtain⟨a,b,c,d⟩:=y;exact rP (X:=dF X e g) (lL J.ok c) hN hi hk λs8 I8=>r g .brk s8 hO ⟨_,b,I8,d⟩|cont=>obtain⟨a,b,c,d⟩:=y;exact rP (X:=dF X e g) (lL J.ok c) hN hi hk λs8 I8=>r g .cont s8 hO ⟨_,b,I8,d⟩|ret u=>obtain⟨a,b,c,d,y⟩:=y;exact rP (X:=dF X e g) (lL J.ok d) hN hi hk λs8 I8=>r g (.ret u) s8 hO ⟨a,_,c,I8,y⟩
 have w:=hb pins G hp hX [] s σ H D (Pz I) h1;refine d_ w (λf s5 y=>?_) λe s5 y=>?_;.cases f with|next=>obtain⟨a,b,c,d⟩:=y;show cz (cK X.prog X.w) X.A (execs [] X.env) _ _ s5;exact jR (hQ .next s5 ⟨a,b,nu c,d⟩)|brk=>obtain⟨a,b,c,d⟩:=y;exact hQ .brk s5 ⟨a,b,nu c,d⟩|cont=>obtain⟨a,b,c,d⟩:=y;exact hQ .cont s5 ⟨a,b,nu c,d⟩|ret u=>obtain⟨a,b,c,d,y⟩:=y;exact hQ (.ret u) s5 ⟨a,b,c,nu d,y⟩
 .exact y
end
end _L
namespace _H
open PySem _L Spec PyProof.Rows
section
variable{X:Cx}{c:Call}{n:Nat}{i:Nat}{pos:Pos}{cl:Nat->ce}{kk:Nat}{body rest:List ey}{ss:List S}
noncomputable def YS:Ends:=⟨λ_ _=>False,λ_ _=>False,λ_ _=>False,λ_ _=>False⟩
theorem Px{x y z:Str}{j:Nat}{bm:List bx}{m:String}{np v p1 p2 p3:Pos}{bs:List (Option Bool)}(hg:Gl X x)(O:mA x (cl kk) bm m X.mg X.base)(p:bm.contains (.type "BaseException")=bT)(L:X.ex=[])(qP:X.stack=X.env::X.outer/\X.env.frame=a7 X.env.locals)(hN:X.N.Nodup)(hi:X.N[i]?=a7 y)(hk:X.env.kindOf y=a7 .local)(hj:X.N[j]?=a7 z)(hz:Loc X.env.scope z)(M:i≠j)(hv:uQ X.env.scope y)(Q:∀a B W,ip (cK X.prog X.w) X.A X.env B->Ba (yd X a B) (EW cl W)->Tv (yd X a B) c n W body ss)(hh:HTs X cl kk j rest 0 bs)(hd:(x==("__debug__":Str))=a_:=by rfl)(U:(y==("__debug__":Str))=a_:=by rfl)(Y:(y==("__classdict__":Str))=a_:=by rfl)(hs:fy (.Name y p2) (a7 (.Name z p1)) p3.line X.env=eS a_:=by rfl)(hf:X.fn z=bT\/X.env.scope.names.lookup z=a7 .local:=by first|(left;rfl)|(right;rfl)|assumption):SB X c n (.Try body [.ExceptHandler (a7 (.Name x np)) (a7 y) [.Assign [.Name z p1] (.Name y p2) p3] v] [] [] pos::rest) [.NP ss bs]:=by
 rintro a s σ H D I⟨F,ρ,fl,ar,g,e,q⟩;replace e:=QG e;rw[_H.X22]at e;split at e
 . rename_i k Z hX;split at e
   . rename_i hu;split at e
     . rename_i b t;cases e;have ac:i<X.N.length:=(fu hi).1;have ae:j<X.N.length:=(fu hj).1;refine nI (K1 (E:=EW cl (λr C=>r=k/\∀l,aD C l->D.rt (.bl b) l)) (tb:=tX X.K (λr C=>r=k/\∀l,aD C l->D.rt (.bl b) l) (fX c n ss)) (D:=YS) (th:=λC' e D' σ H=>Gd i e σ/\D'.nx (σ.set j (a7 (.ref e))) H) hg O p L qP hN hi hk (λa B hp hX=>Q a B _ hp hX) (λe J C' hO=>?_) I ?_ ?_ ?_ hd);.refine iz (Du (o7 (X:=qm X e J) hN hj hz (dZ (X:=qm X e J) hi hv U Y) hs hf)) λD' σ H⟨g1,g2⟩=>⟨_,g1,g2⟩
       .refine⟨F,ρ,k,Z,g,hX,λF' G C st=>⟨rfl,λl sm=>?_⟩⟩;have c1:=st.clear hu (σ':=G) (by rw[st.gs.len.symm,st.len]);have c2:=c1.trans (Ext.stp c1.gs ⟨sm,.refl _,c1.gs.sub.trans sm,λ_ x y=>absurd x y⟩);exact q F' G l c2 (.bl b) (show Rep X.K F' _ _ from iT _)
       .intro f s' h;cases f with|next=>obtain⟨_,_,_,h⟩:=h;exact h.elim|brk=>obtain⟨_,_,_,h⟩:=h;exact h.elim|cont=>obtain⟨_,_,_,h⟩:=h;exact h.elim|ret u=>obtain⟨_,_,_,_,_,h⟩:=h;exact h.elim
       . rintro σ' e' C' C hl⟨r,hC,rfl,af⟩;cases hC;have ag:bs[r]?=a7 (a7 b):=by rw[fm]at t;cases hq:bs[r]?with|none=>rw[hq]at t;cases t|some o=>rw[hq]at t;simp at t;rw[t]
         have ht:=hh r _ ag;rw[ri]at ht;rcases ht with ht|⟨b2,ah,ai,am⟩;.cases ht
         cases ah;refine⟨ai,⟨λσ H=>Gd j e' σ/\∀l,aD H l->D.rt (.bl b) l,λ_ _=>False,λ_ _=>False,λ_ _=>False⟩,⟨?_,?_,af⟩,λJ f s' hO h=>?_⟩;.exact cu (by rw[hl];exact ac)
         .show(((σ'.set i _).set j _).set i none)[j]?=_;rw[ew M];exact cu (by simp only[oU];rw[hl];exact ae)
         .cases f with|next=>obtain⟨ap,l,I2,g1,g2⟩:=h;have w:=am e' J hO a s' ap l D I2 ⟨g1,g2⟩;exact d_ w (λf s5 y=>Uz I.ok y) λ_ _ y=>y|brk=>obtain⟨_,_,_,h⟩:=h;exact h.elim|cont=>obtain⟨_,_,_,h⟩:=h;exact h.elim|ret u=>obtain⟨_,_,_,_,_,h⟩:=h;exact h.elim
     .cases e
   .cases e
 .cases e
end
section
variable{X:Cx}{c:Call}{n:Nat}{W:Nat->Hp->Prop}{e:dc}{pos:Pos}
theorem Er{cl:Nat->ce}{kk g np:Nat}{y:Str}{p' cpos:Pos}{es:List dc}{ps:List P}(a:X.ex=[])(i:Ba X (EW cl W))(j:iV X.prog X.w X.K X.mg X.base cl kk c g y np)(hr:jc kk X.A)(k:SG X c (e::es) ps)(l:Gl X y:=by rfl)(m:(e::es).length=np:=by rfl)(b:(y==("__debug__":Str))=a_:=by rfl)(he:cv (e::es) X.env=(a_,er e X.env)::cv es X.env:=by exact aV rfl)(hpl:(gI cpos (cv es X.env)).any (·.1)=a_:=by rfl)(f:ps.length=(e::es).length:=by rfl):XE X c W (.Call (.Name y p') (e::es) [] cpos) (.call g ps):=by obtain⟨te,h1,o⟩:=Mw (p':=p') (cpos:=cpos) a i j hr k l m b he hpl f;exact dN h1 λσ H Q h=>o σ H Q h
theorem UT{x:Str}{p':Pos}{f iter a:dc}{scope:iO}{N':List Str}{m:Nat}{g:TG}{is:List Nat}{one:Bool}{as:List P}{l:Nat}{h:P}{cpos:Pos}(o:x="sum")(hc:X.calm=bT)(i:Gl X x)(p:X.mg x=none)(ok:gj X scope N' m)(hi:XE X c W iter (.call l as))(r:∀cl C s₀ H₀ ex,PG (sW X scope N' cl C s₀ H₀ ex) f g)(s:nG X.K X.N.length is one g)(ht:∀cl C s₀ H₀ ex,SQ (sW X scope N' cl C s₀ H₀ ex) c [] none)(he:∀cl C s₀ H₀ ex,SX (sW X scope N' cl C s₀ H₀ ex) c a h)(hs:∀x,eN iter X.env x=eS x:=by intro _;rfl)(b:cv [.ListComp a [⟨f,iter,[],0⟩] scope cpos] X.env=(a_,er (.ListComp a [⟨f,iter,[],0⟩] scope cpos) X.env)::cv [] X.env:=by exact aV rfl):XE X c W (.Call (.Name x p') [.ListComp a [⟨f,iter,[],0⟩] scope cpos] [] pos) (.blt .sum [.comp (.call l as) m is one none h]):=by subst o;refine dN (dq (Tg hc) i p boot_sum (bj (xJ (tt:=Iw X.K (uN c none)) (te:=yI X.K (_H.ev c h)) hc ok (Kl hi) r ht (λcl C s₀ H₀ ex=>(he cl C s₀ H₀ ex).ev) hs) dw b) (he:=b)) ?_;rintro σ H Q⟨F,ρ,k,j,t,u,q⟩;exact⟨F,ρ,k,j,t,u,q⟩
theorem Q9{p:P}(h:XE X c W e p):Uy X c n W (.Return (a7 e) pos) (.ret p):=cO (xO h) λD σ H⟨F,ρ,k,ρ',g,e0,q⟩=>⟨F,ρ,k,ρ',g,(by rw[wF]at e0;exact e0),q⟩
end
section
variable{X:Cx}{c:Call}{n:Nat}{a b e:dc}{pa pb p:P}{pos:Pos}
theorem Ux:dY X (.builtin "len") (QM X.K λx=>blt .Nz [x]):=by rintro g s σ H xs z Q I r⟨x,h,F,d,A,sm,i,he,k⟩;cases d with
 |dI m=>cases m with|k kvs=>cases he;obtain⟨q,j,rfl,l⟩:=i.dI sm;subst h;obtain⟨u,rfl,o⟩:=r.one;cases o;obtain⟨h1,v,vs,w,y⟩:=p6 I.hok (.inr ⟨j,l⟩);have f:=w.length;rw[ef]at f h1;refine call_len_dict v y (by rw[<-f];have B:sizeLine=16777216:=rfl;omega) ?_;rw[<-f];exact⟨.int kvs.length,H,I.tok _,⟨_,rfl⟩,cM.dC sm (bW _) k⟩|t kvs=>cases he
 |_=>cases he
theorem QL{x:Str}{p':Pos}(f:x="len")(g:Gl X x)(i:X.mg x=none)(j:SX X c a pa)(hs:cv [a] X.env=(a_,er a X.env)::cv [] X.env:=by rfl):SX X c (.Call (.Name x p') [a] [] pos) (.blt .Nz [pa]):=by subst f;exact qp (λh=>dq Ux g i PySem.boot_len h (he:=hs)) j (λρ=>rfl) rfl hs
end
end _H
noncomputable section
set_option maxHeartbeats 4000000
namespace _T
open PySem _L Spec PyProof.Rows _H
local macro_rules|`(term|⇑$n)=>`(P.con (.int $n))
local macro_rules|`(term|↑$n)=>`(P.var $n)
set_option hygiene false
set_option hygiene true
local macro_rules|`(term|⇑($x))=>`(λ_ _ _ _ _=>$x)
local macro_rules|`(tactic|exists$e)=>`(tactic|with_reducible refine$e)
local macro_rules|`(tactic|lia)=>`(tactic|with_reducible refine aU ?_ ?_)
set_option hygiene false
local macro_rules|`(tactic|exists$i,$e)=>`(tactic|((with_reducible refine sI (i:=$i) ?_ ?_ ?_ ?_ ?_ ?_);exact nd;exact rfl;exact oi;rotate_left;rfl;exact oi;exact$e))
local macro_rules|`(tactic|exists$i,$e,0)=>`(tactic|((with_reducible refine xK (i:=$i) ?_ ?_ ?_ ?_ ?_ ?_ ?_ ?_ ?_);exact eA;exact hc;exact nd;exact rfl;exact oi;exact$e;rotate_left;(· intro _;rfl);exact oi))
local macro_rules|`(tactic|exists$a,$b,0,0)=>`(tactic|(refine aaT $a $b rfl rfl λcdv A outer s H E hr=>?_;have nd:=($b).nd))
local macro_rules|`(tactic|exists(),$e)=>`(tactic|((with_reducible refine VM ?_);exact$e))
set_option hygiene true
local macro_rules|`(term|‹$l›)=>`((show(($l):List Str).Nodup by decide+kernel))
theorem hc:bT=bT:=rfl
theorem oi{b:Type}{a:b}{p:Prop}:a=a\/p:=.inl rfl
theorem aX{X:Cx}{c:Call}{a:dc}{es:List dc}{b:P}{ps:List P}(e:SX X c a b)(hr:SG X c es ps)(h:nst a=bT):SG X c (a::es) (b::ps):=O1 e hr (aV h)
theorem dO{X:Cx}{c:Call}{a:dc}{es:List dc}{b:P}{ps:List P}(e:SX X c a b)(hr:SA X c es ps)(h:nst a=bT):SA X c (a::es) (b::ps):=rE e hr (aV h)
variable{Pg:da}{w:eg}{K:PySem.W.Frag}{mg:Str->Option bx}{base:ej}{f:ce}{fd:gX}{k n:Nat}{c:Call}{cl:Nat->ce}
noncomputable def top(i:Nat):ey:=PySem.Challenge.pw_hourhaul_k29_least_hours_of_all_streams.main.body.getD i (.Pass ⟨0,0,0,0⟩)
noncomputable abbrev s0:ey:=top 13
noncomputable def b0:List S:=[.asg 2 (.idx (.idx ↑0 ⇑1) (.idx ↑1 ⇑0)),.ret (.T4 (.idx ↑1 ⇑1) (.tup [.idx ↑2 ⇑0,.idx ↑2 ⇑1]) (.tup [.idx ↑2 ⇑1,.idx ↑2 ⇑0]))]
noncomputable def f0:Fd:=⟨2,3,b0⟩
theorem sc0:aN ["net","step","way"] ["net","step"] (au s0):={}
include cl in
theorem d0(a:jf K "step_places" "step_places" s0 f fd):(jq Pg w K mg base J9 (k+1) f fd ["net","step"] (Rg K 2 (λargs=>enter c n f0 args))):=by
 exists a,sc0,0,0;refine aU ?_ ?_;.exists 2,aC (aC (sv 0) aj) (aC (sv 1) aj)
 lia;.exists(),mY (gb (aC (sv 1) aj)) (dh (dO (aC (sv 2) aj) (dO (aC (sv 2) aj) aK rfl) rfl)) (dh (dO (aC (sv 2) aj) (dO (aC (sv 2) aj) aK rfl) rfl))
 exact ao
noncomputable abbrev s1:ey:=top 14
noncomputable def b1:List S:=[.asg 2 (.idx (.idx (.idx ↑0 ⇑1) (.idx ↑1 ⇑0)) ⇑3),.ret (.T4 (.idx ↑1 ⇑1) ↑2 (.neg ↑2))]
noncomputable def f1:Fd:=⟨2,3,b1⟩
theorem sc1:aN ["net","step","hours"] ["net","step"] (au s1):={}
include cl in
theorem d1(a:jf K "step_hours" "step_hours" s1 f fd):(jq Pg w K mg base J9 (k+1) f fd ["net","step"] (Rg K 2 (λargs=>enter c n f1 args))):=by
 exists a,sc1,0,0;refine aU ?_ ?_;.exists 2,aC (aC (aC (sv 0) aj) (aC (sv 1) aj)) aj
 lia;.exists(),mY (gb (aC (sv 1) aj)) (sv 2) (pA (sv 2))
 exact ao
noncomputable abbrev s2:ey:=top 15
noncomputable def b2:List S:=[.asg 3 (.idx ↑1 (.idx ↑2 ⇑0)),.ret (.T4 (.idx ↑2 ⇑1) (.bin .sub (.idx (.idx (.idx ↑0 ⇑1) (.idx ↑2 ⇑0)) ⇑2) ↑3) ↑3)]
noncomputable def f2:Fd:=⟨3,4,b2⟩
theorem sc2:aN ["net","stream","step","loads"] ["net","stream","step"] (au s2):={}
include cl in
theorem d2(a:jf K "step_room" "step_room" s2 f fd):(jq Pg w K mg base J9 (k+1) f fd ["net","stream","step"] (Rg K 3 (λargs=>enter c n f2 args))):=by
 exists a,sc2,0,0;refine aU ?_ ?_;.exists 3,aC (sv 1) (aC (sv 2) aj)
 lia;.exists(),mY (gb (aC (sv 2) aj)) (aJ lO (aC (aC (aC (sv 0) aj) (aC (sv 2) aj)) aj) (sv 3)) (sv 3)
 exact ao
noncomputable abbrev s3:ey:=top 16
noncomputable def b3:List S:=[.ret (.blt .sum [.comp ↑1 1 [2] bT none (.call 1 [↑0,↑2])])]
noncomputable def f3:Fd:=⟨2,2,b3⟩
theorem sc3:aN ["net","steps"] ["net","steps"] (au s3):={}
include cl in
theorem d3(a:jf K "steps_hours" "steps_hours" s3 f fd)(fC:mg "sum"=none)(b:(bu Pg w K mg base k c 1 ("step_hours") 2)):(jq Pg w K mg base J9 (k+1) f fd ["net","steps"] (Rg K 2 (λargs=>enter c n f3 args))):=by
 exists a,sc3,0,0;refine aU ?_ ?_;.exists(),mH rfl hc (by rfl) fC (dB (N':=["net","steps","step"]) hc (zL rfl (by rfl)) (bH (sv 1)) ⇑(aB (i:=2) ‹["net","steps","step"]› rfl (eB rfl) (eC rfl)) (eU (dU)) ⇑(cP) ⇑((fc b hr (aX (sv 0) (aX (sv 2) az rfl) rfl))))
 exact ao
noncomputable abbrev s4:ey:=top 17
noncomputable def b4:List S:=[.NQ 2 (.uZ ⇑0 (.idx ↑0 ⇑0)) 1 [5] bT (.lst []),.Il (.uZ ⇑0 (.blt .len [.idx ↑0 ⇑1])) [3] bT [.Il (.tup [.tup [↑3,.con (.bl bT)],.tup [↑3,.con (.bl a_)]]) [4] bT [.ifs (.cmp .gt (.call 2 [↑0,↑1,↑4]) ⇑0) [.NT 2 (.idx (.call 0 [↑0,↑4]) ⇑0) ↑4] []]],.dD 2,.ret ↑2]
noncomputable def f4:Fd:=⟨2,5,b4⟩
theorem sc4:aN ["net","stream","steps","number","step"] ["net","stream"] (au s4):={}
include cl in
theorem d4(a:jf K "open_steps" "open_steps" s4 f fd)(cj:mg "len"=none)(bw:mg "range"=none)(b:(bu Pg w K mg base k c 0 ("step_places") 2))(e:(bu Pg w K mg base k c 2 ("step_room") 3)):(jq Pg w K mg base J9 (k+1) f fd ["net","stream"] (Rg K 2 (λargs=>enter c n f4 args))):=by exists a,sc4,0,0;exact(by(refine QJ (i:=2) (N':=["net","stream","steps","number","step","place"]) (g:=lg 5) ?_ ?_ ?_ ?_ ?_ ?_ ?_ ?_ ?_ ?_ ?_ ?_ ?_ ?_);exact hc;exact nd;exact rfl;exact oi;exact zL rfl (by rfl);exact iW rfl (by rfl) bw (aC (sv 0) aj);exact ⇑(aB (i:=5) ‹["net","stream","steps","number","step","place"]› rfl (eB rfl) (eC rfl));exact eU (dU);exact ⇑(cP);exact ⇑((cW aK));(· exists KN ?_ ?_;(· exists EY (g:=lg 3) ?_ ?_ ?_ ?_ ?_ ?_ ?_;exact eA;exact hc;(· exists M5 ?_ ?_ ?_ ?_ ?_;exact rfl;rfl;exact bw;exact gf rfl (by rfl) cj (aC (sv 0) aj);rfl);exact aB (i:=3) nd rfl oi oi;(· rw[pG];exact xx 3);(· exists sO ?_ ?_;(· exists EY (g:=lg 4) ?_ ?_ ?_ ?_ ?_ ?_ ?_;exact eA;exact hc;exact Pr (dh (dO (dh (dO (sv 3) (dO m8 aK rfl) rfl)) (dO (dh (dO (sv 3) (dO m8 aK rfl) rfl)) aK rfl) rfl));exact aB (i:=4) nd rfl oi oi;(· rw[pG];exact xx 4);(· exists sO ?_ ?_;(· exists Xb ?_ ?_ ?_;exact cU jL (fc e hr (aX (sv 0) (aX (sv 1) (aX (sv 4) az rfl) rfl) rfl)) aj (cB _);(· exists sO ?_ ?_;(· exists Nk (k:=2) ?_ ?_ ?_ ?_ ?_ ?_ ?_ ?_ ?_ ?_ ?_ ?_;exact rfl;(· first|exact eB rfl|exact eC (eB rfl));exact aC (fc b hr (aX (sv 0) (aX (sv 4) az rfl) rfl)) aj;exact sv 4;(· intro _ _;rfl);rfl;rfl;rfl;rfl;rfl;rfl;rfl);exact qX);exact qX);exact qX);(· intro _;rfl));exact qX);(· intro _;rfl));(· exists Rc ?_;(· lia;(· exists(),sv 2);exact ao)));rfl;(· intro _;rfl);exact oi)
noncomputable abbrev s5:ey:=top 18
noncomputable def b5:List S:=[.asg 3 (.call 4 [↑0,↑1]),.Im 4,.gQ (.blt .keys [↑2]) [5] bT [.iB 4 ↑5 (.tup [.bin .yF ↑2 ↑5,⇑0,.con .non])],.asg 6 (.blt .ZP [↑2]),.whl (.cmp .gt (.blt .len [↑6]) ⇑0) [.Im 7,.gQ ↑6 [5] bT [.gQ (.idx ↑3 ↑5) [8] bT [.asg 9 (.idx (.call 0 [↑0,↑8]) ⇑1),.asg 10 (.tup [.bin .add (.idx (.T5 4 ↑5) ⇑0) (.call 1 [↑0,↑8]),.bin .add (.idx (.T5 4 ↑5) ⇑1) ⇑1]),.ifs (.or (.T6 4 ↑9 bT) (.cmp .lt ↑10 (.slice (.T5 4 ↑9) (.con .non) ⇑2))) [.iB 4 ↑9 (.bin .add ↑10 (.tup [↑8])),.iB 7 ↑9 (.con (.bl bT))] []]],.asg 6 (.blt .ZP [.vw 7])],.ret ↑4]
noncomputable def f5:Fd:=⟨3,11,b5⟩
theorem sc5:aN ["net","stream","begun","steps","come","place","row","changed","step","to","found"] ["net","stream","begun"] (au s5):={}
include cl in
theorem d5(a:jf K "shortest_come" "shortest_come" s5 f fd)(cj:mg "len"=none)(gk:mg "list"=none)(b:(bu Pg w K mg base k c 4 ("open_steps") 2))(e:(bu Pg w K mg base k c 1 ("step_hours") 2))(g:(bu Pg w K mg base k c 0 ("step_places") 2)):(jq Pg w K mg base J9 (k+1) f fd ["net","stream","begun"] (Rg K 3 (λargs=>enter c n f5 args))):=by
 exists a,sc5,0,0;refine aU ?_ ?_;.exists 3,fc b hr (aX (sv 0) (aX (sv 1) az rfl) rfl)
 lia;.exact(Fg (i:=4) nd rfl oi (by rfl) (eB rfl))
 lia;.exists 5,Pk (sv 2),0;(· lia;exact rG (i:=4) (bz hr) rfl (by (first|exact eB rfl|exact eC (eB rfl))) (sv 5) (dh (dO (nU (bz hr) (sv 2) (sv 5) (λ_ _=>rfl)) (dO aj (dO pC aK rfl) rfl) rfl)) (by rfl);exact ao)
 lia;.exists 6,Kz rfl hc (by rfl) gk (sv 2)
 lia;.exact(Di eA (cU jL (gf rfl (by rfl) cj (sv 6)) aj (cB _)) (by lia;exact Fg (i:=7) nd rfl oi (by rfl) (eB rfl);(· lia;(· exists 5,bH (sv 6),0;(· lia;(· exists 8,bH (aC (sv 3) (sv 5)),0;(· lia;(· exists 9,aC (fc g hr (aX (sv 0) (aX (sv 8) az rfl) rfl)) aj);(· lia;(· exists 10,dh (dO (aJ bN (aC (Cz (i:=4) (bz hr) rfl (by (first|exact eB rfl|exact eC (eB rfl))) (sv 5) (λ_ _=>rfl)) aj) (fc e hr (aX (sv 0) (aX (sv 8) az rfl) rfl))) (dO (aJ bN (aC (Cz (i:=4) (bz hr) rfl (by (first|exact eB rfl|exact eC (eB rfl))) (sv 5) (λ_ _=>rfl)) aj) aj) aK rfl) rfl));(· lia;(· exists iR ?_ ?_ ?_;exact SW.st (sU (VL (i:=4) (eC ⟨rfl,rfl⟩) (bz hr) rfl (by (first|exact eB rfl|exact eC (eB rfl))) (sv 9) (by with_unfolding_all rfl)) (o4 (cU (yq (bz hr)) (sv 10) (m9 (Cz (i:=4) (bz hr) rfl (by (first|exact eB rfl|exact eC (eB rfl))) (sv 9) (λ_ _=>rfl)) wV (nC aj)) (cB _))));(· lia;exact rG (i:=4) (bz hr) rfl (by (first|exact eB rfl|exact eC (eB rfl))) (sv 9) (aJ bN (sv 10) (dh (dO (sv 8) aK rfl))) (by rfl);(· lia;exact rG (i:=7) (bz hr) rfl (by (first|exact eB rfl|exact eC (eB rfl))) (sv 9) m8 (by rfl);exact ao));exact ao);exact ao))));exact ao));(· lia;(· exists 6,Kz rfl hc (by rfl) gk (Ab (i:=7) rfl (by (first|exact eB rfl|exact eC (eB rfl)))));exact ao))))
 lia;.exists(),sv 4
 exact ao
noncomputable abbrev s6:ey:=top 19
noncomputable def b6:List S:=[.asg 3 (.lst []),.asg 4 ↑2,.whl (.cmp .Nu (.idx (.bin .yF ↑1 ↑4) ⇑2) (.con .non)) [.asg 5 (.idx (.bin .yF ↑1 ↑4) ⇑2),.app 3 ↑5,.asg 4 (.idx (.call 0 [↑0,↑5]) ⇑0)],.ret (.blt .rvT [↑3])]
noncomputable def f6:Fd:=⟨3,6,b6⟩
theorem sc6:aN ["net","come","place","steps","here","step"] ["net","come","place"] (au s6):={}
include cl in
theorem d6(a:jf K "steps_to" "steps_to" s6 f fd)(m5:mg "reversed"=none)(ie:mg "tuple"=none)(b:(bu Pg w K mg base k c 0 ("step_places") 2)):(jq Pg w K mg base J9 (k+1) f fd ["net","come","place"] (Rg K 3 (λargs=>enter c n f6 args))):=by
 exists a,sc6,0,0;refine aU ?_ ?_;.exists 3,cW aK
 lia;.exists 4,sv 2
 lia;.exact(Di eA (cU Fy (aC (nU (bz hr) (sv 1) (sv 4) (λ_ _=>rfl)) aj) pC (cB _)) (by lia;(· exists 5,aC (nU (bz hr) (sv 1) (sv 4) (λ_ _=>rfl)) aj);(· lia;exact dH (k:=3) rfl (by (first|exact eB rfl|exact eC (eB rfl))) (sv 5);(· lia;(· exists 4,aC (fc b hr (aX (sv 0) (aX (sv 5) az rfl) rfl)) aj);exact ao))))
 lia;.exists(),Bq rfl rfl hc (by rfl) ie (by rfl) m5 (sv 3)
 exact ao
noncomputable abbrev s7:ey:=top 20
noncomputable def b7:List S:=[.asg 3 (.blt .list [↑0]),.gQ ↑1 [4,5] a_ [.NK 3 ↑4 a_ (.T4 ↑5 ↑2 (.neg ↑2))],.ret ↑3]
noncomputable def f7:Fd:=⟨3,6,b7⟩
theorem sc7:aN ["stream","steps","loads","changed","number","forth"] ["stream","steps","loads"] (au s7):={}
include cl in
theorem d7(a:jf K "stream_with" "stream_with" s7 f fd)(gk:mg "list"=none):(jq Pg w K mg base J9 (k+1) f fd ["stream","steps","loads"] (Rg K 3 (λargs=>enter c n f7 args))):=by
 exists a,sc7,0,0;refine aU ?_ ?_;.exists 3,FW rfl (by rfl) gk (sv 0)
 lia;.exact(iY eA hc (bH (sv 1)) (cR hc (aG (aB (i:=4) nd rfl oi oi) (aG (aB (i:=5) nd rfl oi oi) bR))) (gh rfl (aZ _ _ (aZ _ _ dX 5) 4)) (by lia;exact rJ (k:=3) (sub:=a_) qU rfl (by (first|exact eB rfl|exact eC (eB rfl))) (sv 4) (mY (gb (sv 5)) (sv 2) (pA (sv 2)));exact ao))
 lia;.exists(),sv 3
 exact ao
include cl in
theorem dx7(a:jf K "stream_with" "stream_with" s7 f fd)(gk:mg "list"=none):jq Pg w K mg base (yJ Pg w) (k+1) f fd ["stream","steps","loads"] (PJ K cl 3 (λargs=>enter c n f7 args)):=by
 refine yh a sc7 rfl rfl λcdv A outer s H E W hr b=>?_;have nd:=sc7.nd;have e:Ba (lX (yJ Pg w) Pg w K mg base ["stream","steps","loads","changed","number","forth"] "stream_with" (au s7) f cdv A outer s H E) E:=nH;refine bf ?_ ?_ ?_;.exists 3,FW rfl (by rfl) gk (sv 0)
 .exact(dG (by intro _;rfl))
 exists bf ?_ ?_ ?_;.exact(iY ji hc (bH (sv 1)) (cR hc (aG (aB (i:=4) nd rfl oi oi) (aG (aB (i:=5) nd rfl oi oi) bR))) (gh rfl (aZ _ _ (aZ _ _ dX 5) 4)) (by lia;exact rJ (k:=3) (sub:=a_) qU rfl (by (first|exact eB rfl|exact eC (eB rfl))) (sv 4) (mY (gb (sv 5)) (sv 2) (pA (sv 2)));exact ao))
 .exact(xg ji hc (bH (sv 1)) (cR hc (aG (aB (i:=4) nd rfl oi oi) (aG (aB (i:=5) nd rfl oi oi) bR))) (gh rfl (aZ _ _ (aZ _ _ dX 5) 4)) (by lia;exact rJ (k:=3) (sub:=a_) qU rfl (by (first|exact eB rfl|exact eC (eB rfl))) (sv 4) (mY (gb (sv 5)) (sv 2) (pA (sv 2)));exact ao) (bf (rJ (k:=3) (sub:=a_) qU rfl (by (first|exact eB rfl|exact eC (eB rfl))) (sv 4) (mY (gb (sv 5)) (sv 2) (pA (sv 2)))) dG eX) (by intro _;rfl))
 exists bf ?_ ?_ ?_;.exists(),sv 3
 .exact dG
 exact eX
noncomputable abbrev s8:ey:=top 21
noncomputable def b8:List S:=[.asg 1 (.bin .sub (.idx ↑0 ⇑0) ⇑1),.asg 2 (.bin .mul (.lst [⇑0]) (.blt .len [.idx ↑0 ⇑1])),.asg 3 (.lst []),.asg 4 (.call 5 [↑0,↑2,.Dk 0 0]),.whl (.bin .din ↑1 ↑4) [.asg 5 (.call 6 [↑0,↑4,↑1]),.asg 6 (.blt .Nv [.comp ↑5 1 [7] bT none (.call 2 [↑0,↑2,↑7])]),.app 3 (.tup [↑5,↑6]),.asg 2 (.call 7 [↑2,↑5,↑6]),.asg 4 (.call 5 [↑0,↑2,.Dk 0 0])],.ret ↑3]
noncomputable def f8:Fd:=⟨1,7,b8⟩
theorem sc8:aN ["net","end","stream","chains","come","steps","loads"] ["net"] (au s8):={}
include cl in
theorem d8(b:jf K "chains_to_end" "chains_to_end" s8 f fd)(cj:mg "len"=none)(fG:mg "min"=none)(a:(bu Pg w K mg base k c 5 ("shortest_come") 3))(e:(bu Pg w K mg base k c 2 ("step_room") 3))(g:(bu Pg w K mg base k c 6 ("steps_to") 3))(h:(bu Pg w K mg base k c 7 ("stream_with") 3)):(jq Pg w K mg base J9 (k+1) f fd ["net"] (Rg K 1 (λargs=>enter c n f8 args))):=by
 exists b,sc8,0,0;refine aU ?_ ?_;.exists 1,aJ lO (aC (sv 0) aj) aj
 lia;.exists sI (i:=2) ?_ ?_ ?_ ?_ ?_ ?_;exact nd;exact rfl;exact eC rfl;rotate_left;rfl;exact oi;exact aJ dg (cW (dO aj aK rfl)) (gf rfl (by rfl) cj (aC (sv 0) aj))
 lia;.exists 3,cW aK
 lia;.exists 4,fc a hr (aX (sv 0) (aX (sv 2) (aX Fx az rfl) rfl) rfl)
 lia;.exact(Di eA (Um (bz hr) (sv 1) (sv 4) (by with_unfolding_all rfl)) (by lia;(· exists 5,fc g hr (aX (sv 0) (aX (sv 4) (aX (sv 1) az rfl) rfl) rfl));(· lia;(· exists 6,Ou rfl hc (by rfl) fG (dB (N':=["net","end","stream","chains","come","steps","loads","step"]) hc (zL rfl (by rfl)) (bH (sv 5)) ⇑(aB (i:=7) ‹["net","end","stream","chains","come","steps","loads","step"]› rfl (eB rfl) (eC rfl)) (eU (dU)) ⇑(cP) ⇑((fc e hr (aX (sv 0) (aX (sv 2) (aX (sv 7) az rfl) rfl) rfl)))));(· lia;exact dH (k:=3) rfl (by (first|exact eB rfl|exact eC (eB rfl))) (dh (dO (sv 5) (dO (sv 6) aK rfl) rfl));(· lia;(· exists sI (i:=2) ?_ ?_ ?_ ?_ ?_ ?_;exact nd;exact rfl;exact eC rfl;rotate_left;rfl;exact oi;exact fc h hr (aX (sv 2) (aX (sv 5) (aX (sv 6) az rfl) rfl) rfl));(· lia;(· exists 4,fc a hr (aX (sv 0) (aX (sv 2) (aX Fx az rfl) rfl) rfl));exact ao))))))
 lia;.exists(),sv 3
 exact ao
noncomputable abbrev s9:ey:=top 22
noncomputable def b9:List S:=[.asg 2 (.lst []),.asg 3 ↑1,.gQ ↑0 [4,5] a_ [.asg 6 (.blt .min2 [↑3,↑5]),.app 2 (.tup [↑4,↑6]),.aug 3 bT ↑6],.ifs (.cmp .gt ↑3 ⇑0) [.Aq 7] [],.ret ↑2]
noncomputable def f9:Fd:=⟨2,7,b9⟩
theorem sc9:aN ["pairs","rate","cut","left","first","loads","taken"] ["pairs","rate"] (au s9):={}
include cl in
theorem d9(a:jf K "cut_to_rate" "cut_to_rate" s9 f fd)(fG:mg "min"=none):(jq Pg w K mg base J9 (k+1) f fd ["pairs","rate"] (Rg K 2 (λargs=>enter c n f9 args))):=by
 exists a,sc9,0,0;refine aU ?_ ?_;.exists 2,cW aK
 lia;.exists 3,sv 1
 lia;.exact(iY eA hc (bH (sv 0)) (cR hc (aG (aB (i:=4) nd rfl oi oi) (aG (aB (i:=5) nd rfl oi oi) bR))) (gh rfl (aZ _ _ (aZ _ _ dX 5) 4)) (by lia;(· exists 6,jQ rfl hc (by rfl) fG (dO (sv 3) (dO (sv 5) aK rfl) rfl));(· lia;exact dH (k:=2) rfl (by (first|exact eB rfl|exact eC (eB rfl))) (dh (dO (sv 4) (dO (sv 6) aK rfl) rfl));(· lia;exact yz (i:=3) (sub:=bT) rN nd rfl oi (sv 6) (eB rfl);exact ao))))
 lia;.exists iR ?_ ?_ ?_;exact cU jL (sv 3) aj (cB _);(· lia;exact xY;exact ao);exact ao
 lia;.exists(),sv 2
 exact ao
include cl in
theorem dx9(a:jf K "cut_to_rate" "cut_to_rate" s9 f fd)(fG:mg "min"=none)(lU:mA "TooMuch" (cl 7) [.type "ValueError",.type "Exception",.type "BaseException",.type "object"] "ValueError.__new__" mg base):jq Pg w K mg base (yJ Pg w) (k+1) f fd ["pairs","rate"] (PJ K cl 2 (λargs=>enter c n f9 args)):=by
 refine yh a sc9 rfl rfl λcdv A outer s H E W hr b=>?_;have nd:=sc9.nd;have e:Ba (lX (yJ Pg w) Pg w K mg base ["pairs","rate","cut","left","first","loads","taken"] "cut_to_rate" (au s9) f cdv A outer s H E) E:=nH;refine bf ?_ ?_ ?_;.exists 2,cW aK
 .exact(dG (by intro _;rfl))
 exists bf ?_ ?_ ?_;.exists 3,sv 1
 .exact(dG (by intro _;rfl))
 exists bf ?_ ?_ ?_;.exact(iY ji hc (bH (sv 0)) (cR hc (aG (aB (i:=4) nd rfl oi oi) (aG (aB (i:=5) nd rfl oi oi) bR))) (gh rfl (aZ _ _ (aZ _ _ dX 5) 4)) (by lia;(· exists 6,jQ rfl hc (by rfl) fG (dO (sv 3) (dO (sv 5) aK rfl) rfl));(· lia;exact dH (k:=2) rfl (by (first|exact eB rfl|exact eC (eB rfl))) (dh (dO (sv 4) (dO (sv 6) aK rfl) rfl));(· lia;exact yz (i:=3) (sub:=bT) rN nd rfl oi (sv 6) (eB rfl);exact ao))))
 .exact(xg ji hc (bH (sv 0)) (cR hc (aG (aB (i:=4) nd rfl oi oi) (aG (aB (i:=5) nd rfl oi oi) bR))) (gh rfl (aZ _ _ (aZ _ _ dX 5) 4)) (by lia;(· exists 6,jQ rfl hc (by rfl) fG (dO (sv 3) (dO (sv 5) aK rfl) rfl));(· lia;exact dH (k:=2) rfl (by (first|exact eB rfl|exact eC (eB rfl))) (dh (dO (sv 4) (dO (sv 6) aK rfl) rfl));(· lia;exact yz (i:=3) (sub:=bT) rN nd rfl oi (sv 6) (eB rfl);exact ao))) (bf (by exists 6,jQ rfl hc (by rfl) fG (dO (sv 3) (dO (sv 5) aK rfl) rfl)) (dG (by intro _;rfl)) (bf (dH (k:=2) rfl (by (first|exact eB rfl|exact eC (eB rfl))) (dh (dO (sv 4) (dO (sv 6) aK rfl) rfl))) dG (bf (yz (i:=3) (sub:=bT) rN nd rfl oi (sv 6) (eB rfl)) dG eX))) (by intro _;rfl))
 exists bf ?_ ?_ ?_;.exists iR ?_ ?_ ?_;exact cU jL (sv 3) aj (cB _);(· lia;exact xY;exact ao);exact ao
 .exact(MJ (cU jL (sv 3) aj (cB _)) (bf xY (Jb hc rfl (by rfl) lU PySem.F.excBase_ValueError e (λH z=>b 7 H z)) eX) eX)
 exists bf ?_ ?_ ?_;.exists(),sv 2
 .exact dG
 exact eX
noncomputable abbrev uM:ey:=top 24
noncomputable def b10:List S:=[.Ik 1 a_,.gQ (.call 8 [↑0]) [2,3] a_ [.asg 4 (.call 3 [↑0,↑2]),.dput 1 ↑4 (.bin .add (.XX 1 ↑4 ⇑0) ↑3)],.ret (.blt .Ny [.vw 1])]
noncomputable def f10:Fd:=⟨1,5,b10⟩
theorem aeJ:aN ["net","bends","steps","loads","length"] ["net"] (au uM):={}
include cl in
theorem d10(a:jf K "bends_of" "bends_of" uM f fd)(uI:mg "sorted"=none)(b:(bu Pg w K mg base k c 8 ("chains_to_end") 1))(e:(bu Pg w K mg base k c 3 ("steps_hours") 2)):(jq Pg w K mg base J9 (k+1) f fd ["net"] (Rg K 1 (λargs=>enter c n f10 args))):=by
 exists a,aeJ,0,0;refine aU ?_ ?_;.exact(Fp (i:=1) nd rfl oi (by rfl) (eB rfl))
 lia;.exact(iY eA hc (bH (fc b hr (aX (sv 0) az rfl))) (cR hc (aG (aB (i:=2) nd rfl oi oi) (aG (aB (i:=3) nd rfl oi oi) bR))) (gh rfl (aZ _ _ (aZ _ _ dX 3) 2)) (by lia;(· exists 4,fc e hr (aX (sv 0) (aX (sv 2) az rfl) rfl));(· lia;exact Fw (i:=1) (bz hr) rfl (by (first|exact eB rfl|exact eC (eB rfl))) (sv 4) (aJ bN (Mh (i:=1) (bz hr) rfl (by (first|exact eB rfl|exact eC (eB rfl))) (sv 4) aj ⟨rfl,rfl,rfl,rfl⟩) (sv 3)) (by rfl);exact ao)))
 lia;.exists(),Qo rfl hc (by rfl) uI rfl (Ab (i:=1) rfl (by (first|exact eB rfl|exact eC (eB rfl))))
 exact ao
noncomputable abbrev ZG:ey:=top 25
noncomputable def b11:List S:=[.ret (.blt .sum [.comp (.call 9 [.call 10 [↑0],↑1]) 2 [2,3] a_ none (.bin .mul ↑2 ↑3)])]
noncomputable def f11:Fd:=⟨2,2,b11⟩
theorem W9:aN ["net","rate"] ["net","rate"] (au ZG):={}
include cl in
theorem d11(a:jf K "least_hours" "least_hours" ZG f fd)(fC:mg "sum"=none)(b:(bu Pg w K mg base k c 10 ("bends_of") 1))(e:(bu Pg w K mg base k c 9 ("cut_to_rate") 2)):(jq Pg w K mg base J9 (k+1) f fd ["net","rate"] (Rg K 2 (λargs=>enter c n f11 args))):=by
 exists a,W9,0,0;refine aU ?_ ?_;.exists(),mH rfl hc (by rfl) fC (dB (N':=["net","rate","length","loads"]) hc (zL rfl (by rfl)) (bH (fc e hr (aX (fc b hr (aX (sv 0) az rfl)) (aX (sv 1) az rfl) rfl))) ⇑(cR hc (aG (aB (i:=2) ‹["net","rate","length","loads"]› rfl (eB rfl) (eC rfl)) (aG (aB (i:=3) ‹["net","rate","length","loads"]› rfl (eB rfl) (eC rfl)) bR))) (jA rfl (cG (show 2<=2 by decide) (cG (show 2<=3 by decide) jD))) ⇑(cP) ⇑((aJ dg (sv 2) (sv 3))))
 exact ao
include cl in
theorem af0(b:jf K "least_hours" "least_hours" ZG f fd)(fC:mg "sum"=none)(a:(bu Pg w K mg base k c 10 ("bends_of") 1))(e:(bu Pg w K mg base k c 9 ("cut_to_rate") 2))(g:iV Pg w K mg base cl k c 9 "cut_to_rate" 2):jq Pg w K mg base (yJ Pg w) (k+1) f fd ["net","rate"] (PJ K cl 2 (λargs=>enter c n f11 args)):=by
 refine yh b W9 rfl rfl λcdv A outer s H E W hr h=>?_;have nd:=W9.nd;have j:Ba (lX (yJ Pg w) Pg w K mg base ["net","rate"] "least_hours" (au ZG) f cdv A outer s H E) E:=nH;refine bf ?_ ?_ ?_;.exists(),mH rfl hc (by rfl) fC (dB (N':=["net","rate","length","loads"]) hc (zL rfl (by rfl)) (bH (fc e hr (aX (fc a hr (aX (sv 0) az rfl)) (aX (sv 1) az rfl) rfl))) ⇑(cR hc (aG (aB (i:=2) ‹["net","rate","length","loads"]› rfl (eB rfl) (eC rfl)) (aG (aB (i:=3) ‹["net","rate","length","loads"]› rfl (eB rfl) (eC rfl)) bR))) (jA rfl (cG (show 2<=2 by decide) (cG (show 2<=3 by decide) jD))) ⇑(cP) ⇑((aJ dg (sv 2) (sv 3))))
 .exact(Q9 (UT (N':=["net","rate","length","loads"]) rfl hc (by rfl) fC (zL rfl (by rfl)) (Er rfl (Cr j h) g hr (aX (fc a hr (aX (sv 0) az rfl)) (aX (sv 1) az rfl) rfl)) ⇑(cR hc (aG (aB (i:=2) ‹["net","rate","length","loads"]› rfl (eB rfl) (eC rfl)) (aG (aB (i:=3) ‹["net","rate","length","loads"]› rfl (eB rfl) (eC rfl)) bR))) (jA rfl (cG (show 2<=2 by decide) (cG (show 2<=3 by decide) jD))) ⇑(cP) ⇑((aJ dg (sv 2) (sv 3))) (by intro _;rfl)))
 exact eX
noncomputable abbrev s12:ey:=top 27
noncomputable def b12:List S:=[.asg 2 (.blt .sum [.comp (.idx ↑0 ⇑1) 1 [6] bT none (.idx ↑6 ⇑3)]),.Ry 3 0 0,.gQ (.uZ ⇑1 (.idx ↑0 ⇑0)) [4] bT [.iB 3 ↑4 ↑2],.asg 5 (.call 5 [↑0,↑1,.vw 3]),.ret (.comp (.uZ ⇑0 (.idx ↑0 ⇑0)) 1 [6] bT none (.idx (.bin .yF ↑5 ↑6) ⇑0))]
noncomputable def f12:Fd:=⟨2,6,b12⟩
theorem aeG:aN ["net","stream","late","begun","place","come"] ["net","stream"] (au s12):={}
include cl in
theorem d12(a:jf K "found_clocks" "found_clocks" s12 f fd)(bw:mg "range"=none)(fC:mg "sum"=none)(b:(bu Pg w K mg base k c 5 ("shortest_come") 3)):(jq Pg w K mg base J9 (k+1) f fd ["net","stream"] (Rg K 2 (λargs=>enter c n f12 args))):=by
 exists a,aeG,0,0;refine aU ?_ ?_;.exists 2,mH rfl hc (by rfl) fC (dB (N':=["net","stream","late","begun","place","come","way"]) hc (zL rfl (by rfl)) (bH (aC (sv 0) aj)) ⇑(aB (i:=6) ‹["net","stream","late","begun","place","come","way"]› rfl (eB rfl) (eC rfl)) (eU (dU)) ⇑(cP) ⇑((aC (sv 6) aj)))
 lia;.exact(Qh (i:=3) nd rfl oi (by rfl) (eB rfl))
 lia;.exists 4,Pq rfl (by rfl) bw aj (aC (sv 0) aj),0;(· lia;exact rG (i:=3) (bz hr) rfl (by (first|exact eB rfl|exact eC (eB rfl))) (sv 4) (sv 2) (by rfl);exact ao)
 lia;.exists sI (i:=5) ?_ ?_ ?_ ?_ ?_ ?_;exact nd;exact rfl;exact eC rfl;rotate_left;rfl;exact oi;exact fc b hr (aX (sv 0) (aX (sv 1) (aX (Ab (i:=3) rfl (by (first|exact eB rfl|exact eC (eB rfl)))) az rfl) rfl) rfl)
 lia;.exists(),dB (N':=["net","stream","late","begun","place#4","come","place"]) hc (zL rfl (by rfl)) (iW rfl (by rfl) bw (aC (sv 0) aj)) ⇑(aB (i:=6) ‹["net","stream","late","begun","place#4","come","place"]› rfl (eB rfl) (eC rfl)) (eU (dU)) ⇑(cP) ⇑((aC (nU (bz hr) (sv 5) (sv 6) (λ_ _=>rfl)) aj))
 exact ao
noncomputable abbrev s13:ey:=top 28
noncomputable def b13:List S:=[.asg 2 (.bin .mul (.lst [⇑0]) (.blt .len [.idx ↑0 ⇑1])),.gQ (.call 9 [.call 8 [↑0],↑1]) [3,4] a_ [.asg 2 (.call 7 [↑2,↑3,↑4])],.ret (.tup [↑2,.call 12 [↑0,↑2]])]
noncomputable def f13:Fd:=⟨2,5,b13⟩
theorem U7:aN ["net","rate","stream","steps","loads"] ["net","rate"] (au s13):={}
include cl in
theorem d13(a:jf K "light_stream" "light_stream" s13 f fd)(cj:mg "len"=none)(b:(bu Pg w K mg base k c 8 ("chains_to_end") 1))(e:(bu Pg w K mg base k c 9 ("cut_to_rate") 2))(g:(bu Pg w K mg base k c 12 ("found_clocks") 2))(h:(bu Pg w K mg base k c 7 ("stream_with") 3)):(jq Pg w K mg base J9 (k+1) f fd ["net","rate"] (Rg K 2 (λargs=>enter c n f13 args))):=by
 exists a,U7,0,0;refine aU ?_ ?_;.exists 2,aJ dg (cW (dO aj aK rfl)) (gf rfl (by rfl) cj (aC (sv 0) aj))
 lia;.exact(iY eA hc (bH (fc e hr (aX (fc b hr (aX (sv 0) az rfl)) (aX (sv 1) az rfl) rfl))) (cR hc (aG (aB (i:=3) nd rfl oi oi) (aG (aB (i:=4) nd rfl oi oi) bR))) (gh rfl (aZ _ _ (aZ _ _ dX 4) 3)) (by lia;(· exists 2,fc h hr (aX (sv 2) (aX (sv 3) (aX (sv 4) az rfl) rfl) rfl));exact ao))
 lia;.exists(),dh (dO (sv 2) (dO (fc g hr (aX (sv 0) (aX (sv 2) az rfl) rfl)) aK rfl) rfl)
 exact ao
include cl in
theorem aee(j:jf K "light_stream" "light_stream" s13 f fd)(cj:mg "len"=none)(a:(bu Pg w K mg base k c 8 ("chains_to_end") 1))(e:(bu Pg w K mg base k c 9 ("cut_to_rate") 2))(l:(bu Pg w K mg base k c 12 ("found_clocks") 2))(b:(bu Pg w K mg base k c 7 ("stream_with") 3))(m:iV Pg w K mg base cl k c 9 "cut_to_rate" 2)(o:iV Pg w K mg base cl k c 7 "stream_with" 3):jq Pg w K mg base (yJ Pg w) (k+1) f fd ["net","rate"] (PJ K cl 2 (λargs=>enter c n f13 args)):=by
 refine yh j U7 rfl rfl λcdv A outer s H E W hr g=>?_;have nd:=U7.nd;have h:Ba (lX (yJ Pg w) Pg w K mg base ["net","rate","stream","steps","loads"] "light_stream" (au s13) f cdv A outer s H E) E:=nH;refine bf ?_ ?_ ?_;.exists 2,aJ dg (cW (dO aj aK rfl)) (gf rfl (by rfl) cj (aC (sv 0) aj))
 .exact(dG (by intro _;rfl))
 exists bf ?_ ?_ ?_;.exact(iY ji hc (bH (fc e hr (aX (fc a hr (aX (sv 0) az rfl)) (aX (sv 1) az rfl) rfl))) (cR hc (aG (aB (i:=3) nd rfl oi oi) (aG (aB (i:=4) nd rfl oi oi) bR))) (gh rfl (aZ _ _ (aZ _ _ dX 4) 3)) (by lia;(· exists 2,fc b hr (aX (sv 2) (aX (sv 3) (aX (sv 4) az rfl) rfl) rfl));exact ao))
 .exact(xg ji hc (bH (fc e hr (aX (fc a hr (aX (sv 0) az rfl)) (aX (sv 1) az rfl) rfl))) (cR hc (aG (aB (i:=3) nd rfl oi oi) (aG (aB (i:=4) nd rfl oi oi) bR))) (gh rfl (aZ _ _ (aZ _ _ dX 4) 3)) (by lia;(· exists 2,fc b hr (aX (sv 2) (aX (sv 3) (aX (sv 4) az rfl) rfl) rfl));exact ao) (bf (by exists 2,fc b hr (aX (sv 2) (aX (sv 3) (aX (sv 4) az rfl) rfl) rfl)) (xP (i:=2) rfl (Cr h g) o hr nd rfl oi (aX (sv 2) (aX (sv 3) (aX (sv 4) az rfl) rfl) rfl)) eX) (by intro _;rfl) (Kl (Er rfl (Cr h g) m hr (aX (fc a hr (aX (sv 0) az rfl)) (aX (sv 1) az rfl) rfl))))
 exists bf ?_ ?_ ?_;.exists(),dh (dO (sv 2) (dO (fc l hr (aX (sv 0) (aX (sv 2) az rfl) rfl)) aK rfl) rfl)
 .exact dG
 exact eX
noncomputable abbrev s14:ey:=top 30
noncomputable def b14:List S:=[.ret (.lst [.blt .max2 [⇑0,.bin .sub ↑0 (.bin .pow ⇑10 ⇑18)],.bin .mod ↑0 (.bin .pow ⇑10 ⇑18),⇑0])]
noncomputable def f14:Fd:=⟨1,1,b14⟩
theorem ago:aN ["cell"] ["cell"] (au s14):={}
include cl in
theorem d14(a:jf K "_law_pool" "_law_pool" s14 f fd)(oR:mg "max"=none):(jq Pg w K mg base J9 (k+1) f fd ["cell"] (Rg K 1 (λargs=>enter c n f14 args))):=by
 exists a,ago,0,0;refine aU ?_ ?_;.exists(),cW (dO (wB rfl hc (by rfl) oR (dO aj (dO (aJ lO (sv 0) (aJ yg aj aj)) aK rfl) rfl)) (dO (aJ gG (sv 0) (aJ yg aj aj)) (dO aj aK rfl) rfl) rfl)
 exact ao
noncomputable abbrev s15:ey:=top 31
noncomputable def b15:List S:=[.ifs (.cmp .gt (.idx ↑0 ⇑0) ⇑0) [.asg 2 (.bin .mod (.idx ↑0 ⇑0) ↑1),.Ao 0 ⇑0 (.bin .fdiv (.idx ↑0 ⇑0) ↑1),.ret ↑2] [],.Ao 0 ⇑2 (.bin .add (.idx ↑0 ⇑2) ⇑1),.asg 3 (.bin .mod (.bin .add (.idx ↑0 ⇑1) (.bin .mul ⇑7919 (.idx ↑0 ⇑2))) ⇑1000000007),.asg 4 (.bin .mod (.bin .mul (.bin .add ↑3 ⇑11) (.bin .add ↑3 ⇑48271)) ⇑998244353),.ret (.bin .mod (.bin .fdiv (.bin .mod (.bin .mul ↑4 ↑4) ⇑2147483647) ⇑8) ↑1)]
noncomputable def f15:Fd:=⟨2,5,b15⟩
theorem aeU:aN ["pool","base","digit","near","stir"] ["pool","base"] (au s15):={}
include cl in
theorem d15(a:jf K "_law_next" "_law_next" s15 f fd):(jq Pg w K mg base J9 (k+1) f fd ["pool","base"] (Rg K 2 (λargs=>enter c n f15 args))):=by
 exists a,aeU,0,0;refine aU ?_ ?_;.exists iR ?_ ?_ ?_;exact cU jL (aC (sv 0) aj) aj (cB _);(· lia;(· exists 2,aJ gG (aC (sv 0) aj) (sv 1));(· lia;exact nR (k:=0) rfl (by (first|exact eB rfl|exact eC (eB rfl))) aj (aJ zO (aC (sv 0) aj) (sv 1));(· lia;(· exists(),sv 2);exact ao)));exact ao
 lia;.exact(nR (k:=0) rfl (by (first|exact eB rfl|exact eC (eB rfl))) aj (aJ bN (aC (sv 0) aj) aj))
 lia;.exists 3,aJ gG (aJ bN (aC (sv 0) aj) (aJ dg aj (aC (sv 0) aj))) aj
 lia;.exists 4,aJ gG (aJ dg (aJ bN (sv 3) aj) (aJ bN (sv 3) aj)) aj
 lia;.exists(),aJ gG (aJ zO (aJ gG (aJ dg (sv 4) (sv 4)) aj) aj) (sv 1)
 exact ao
noncomputable abbrev s16:ey:=top 32
noncomputable def b16:List S:=[.ret (.bin .mod (.bin .add (.bin .mul (.call 15 [↑0,⇑100000]) ⇑100000) (.call 15 [↑0,⇑100000])) ↑1)]
noncomputable def f16:Fd:=⟨2,2,b16⟩
theorem afX:aN ["pool","base"] ["pool","base"] (au s16):={}
include cl in
theorem d16(b:jf K "_law_wide" "_law_wide" s16 f fd)(a:(bu Pg w K mg base k c 15 ("_law_next") 2)):(jq Pg w K mg base J9 (k+1) f fd ["pool","base"] (Rg K 2 (λargs=>enter c n f16 args))):=by
 exists b,afX,0,0;refine aU ?_ ?_;.exists(),aJ gG (aJ bN (aJ dg (fc a hr (aX (sv 0) (aX aj az rfl) rfl)) aj) (fc a hr (aX (sv 0) (aX aj az rfl) rfl))) (sv 1)
 exact ao
noncomputable abbrev s17:ey:=top 33
noncomputable def b17:List S:=[.asg 2 (.bin .add ⇑2 (.call 15 [↑0,⇑5])),.asg 3 ⇑3,.asg 4 (.idx (.lst [⇑3,⇑5,⇑4,.bin .pow ⇑10 ⇑6]) (.call 15 [↑0,⇑4])),.asg 5 (.lst []),.gQ (.uZ ⇑0 (.idx (.lst [↑1,.call 15 [↑0,.bin .add ↑1 ⇑1]]) (.call 15 [↑0,⇑2]))) [6] bT [.asg 7 (.call 15 [↑0,↑2]),.asg 8 (.bin .mod (.bin .add (.bin .add ↑7 ⇑1) (.call 15 [↑0,.bin .sub ↑2 ⇑1])) ↑2),.ifs (.cmp .gt (.call 15 [↑0,⇑4]) ⇑0) [.par 7 8 (.blt .min2 [↑7,↑8]) (.blt .max2 [↑7,↑8])] [],.app 5 (.tup [↑7,↑8,.call 16 [↑0,↑3],.bin .add ⇑1 (.call 16 [↑0,↑4])])],.ret (.tup [↑2,.blt .tuple [↑5]])]
noncomputable def f17:Fd:=⟨2,9,b17⟩
theorem afD:aN ["pool","most","many","rooms","hours","ways","k","one","other"] ["pool","most"] (au s17):={}
include cl in
theorem d17(e:jf K "_law_net" "_law_net" s17 f fd)(oR:mg "max"=none)(fG:mg "min"=none)(bw:mg "range"=none)(ie:mg "tuple"=none)(a:(bu Pg w K mg base k c 15 ("_law_next") 2))(b:(bu Pg w K mg base k c 16 ("_law_wide") 2)):(jq Pg w K mg base J9 (k+1) f fd ["pool","most"] (Rg K 2 (λargs=>enter c n f17 args))):=by
 exists e,afD,0,0;refine aU ?_ ?_;.exists 2,aJ bN aj (fc a hr (aX (sv 0) (aX aj az rfl) rfl))
 lia;.exists 3,aj
 lia;.exists 4,aC (cW (Gr [3,5,4] rfl (dO (aJ yg aj aj) aK rfl))) (fc a hr (aX (sv 0) (aX aj az rfl) rfl))
 lia;.exists 5,cW aK
 lia;.exists 6,iW rfl (by rfl) bw (aC (cW (dO (sv 1) (dO (fc a hr (aX (sv 0) (aX (aJ bN (sv 1) aj) az rfl) rfl)) aK rfl) rfl)) (fc a hr (aX (sv 0) (aX aj az rfl) rfl))),0;(· lia;(· exists 7,fc a hr (aX (sv 0) (aX (sv 2) az rfl) rfl));(· lia;(· exists 8,aJ gG (aJ bN (aJ bN (sv 7) aj) (fc a hr (aX (sv 0) (aX (aJ lO (sv 2) aj) az rfl) rfl))) (sv 2));(· lia;(· exists iR ?_ ?_ ?_;exact cU jL (fc a hr (aX (sv 0) (aX aj az rfl) rfl)) aj (cB _);(· lia;exact VJ (i:=7) (j:=8) hc nd rfl rfl (by decide) rfl rfl (jQ rfl hc (by rfl) fG (dO (sv 7) (dO (sv 8) aK rfl) rfl)) (wB rfl hc (by rfl) oR (dO (sv 7) (dO (sv 8) aK rfl) rfl));exact ao);exact ao);(· lia;exact dH (k:=5) rfl (by (first|exact eB rfl|exact eC (eB rfl))) (dh (dO (sv 7) (dO (sv 8) (dO (fc b hr (aX (sv 0) (aX (sv 3) az rfl) rfl)) (dO (aJ bN aj (fc b hr (aX (sv 0) (aX (sv 4) az rfl) rfl))) aK rfl) rfl) rfl) rfl));exact ao))))
 lia;.exists(),dh (dO (sv 2) (dO (Kf rfl (by rfl) ie (sv 5)) aK rfl) rfl)
 exact ao
noncomputable abbrev s18:ey:=top 34
noncomputable def b18:List S:=[.ret (.and (.inst [.int] ↑0) (.not (.inst [.bool] ↑0)))]
noncomputable def f18:Fd:=⟨1,1,b18⟩
theorem agG:aN ["found"] ["found"] (au s18):={}
include cl in
theorem d18(a:jf K "_law_whole" "_law_whole" s18 f fd)(Ds:mg "bool"=none)(N7:mg "int"=none)(aW:mg "isinstance"=none):(jq Pg w K mg base J9 (k+1) f fd ["found"] (Rg K 1 (λargs=>enter c n f18 args))):=by
 exists a,agG,0,0;refine aU ?_ ?_;.exists(),sH (ni .int rfl (by rfl) aW (sv 0) (by rfl) N7 (by kernel_rfl) (by decide) (by rfl)) (qW (Vb (ni .bool rfl (by rfl) aW (sv 0) (by rfl) Ds (by kernel_rfl) (by decide) (by rfl))))
 exact ao
noncomputable abbrev s19:ey:=top 35
noncomputable def b19:List S:=[.ifs (.or (.not (.inst [.list] ↑0)) (.not (.blt .all [.comp ↑0 1 [2] bT none (.and (.inst [.tuple] ↑2) (.cmp .eq (.blt .len [↑2]) ⇑2))]))) [.ret (.con (.bl a_))] [],.ifs (.not (.blt .all [.comp ↑0 2 [2,3] a_ none (.and (.call 18 [↑2]) (.and (.call 18 [↑3]) (.cmp .gt ↑3 ⇑0)))])) [.ret (.con (.bl a_))] [],.asg 1 (.bin .add (.lst [⇑0]) (.comp ↑0 2 [2,3] a_ none ↑2)),.ret (.blt .all [.comp (.uZ ⇑0 (.blt .len [↑0])) 1 [2] bT none (.cmp .lt (.idx ↑1 ↑2) (.idx ↑1 (.bin .add ↑2 ⇑1)))])]
noncomputable def f19:Fd:=⟨1,2,b19⟩
theorem agd:aN ["bends","lengths"] ["bends"] (au s19):={}
include cl in
theorem d19(b:jf K "_law_bends_formed" "_law_bends_formed" s19 f fd)(Av:mg "all"=none)(aW:mg "isinstance"=none)(cj:mg "len"=none)(gk:mg "list"=none)(bw:mg "range"=none)(ie:mg "tuple"=none)(a:(bu Pg w K mg base k c 18 ("_law_whole") 1)):(jq Pg w K mg base J9 (k+1) f fd ["bends"] (Rg K 1 (λargs=>enter c n f19 args))):=by
 exists b,agd,0,0;refine aU ?_ ?_;.exists iR ?_ ?_ ?_;exact SW.st (sU (pK (gb (ni .list rfl (by rfl) aW (sv 0) (by rfl) gk (by kernel_rfl) (by decide) (by rfl)))) (o4 (pK (gb (CZ rfl hc (by rfl) Av (dB (N':=["bends","lengths","pair"]) hc (zL rfl (by rfl)) (bH (sv 0)) ⇑(aB (i:=2) ‹["bends","lengths","pair"]› rfl (eB rfl) (eC rfl)) (eU (dU)) ⇑(cP) ⇑((sH (ni .tuple rfl (by rfl) aW (sv 2) (by rfl) ie (by kernel_rfl) (by decide) (by rfl)) (qW (CJ (Bk (bz hr)) (gf rfl (by rfl) cj (sv 2)) aj (cB _)))))))))));(· lia;(· exists(),m8);exact ao);exact ao
 lia;.exists iR ?_ ?_ ?_;exact pK (gb (CZ rfl hc (by rfl) Av (dB (N':=["bends","lengths","length","loads"]) hc (zL rfl (by rfl)) (bH (sv 0)) ⇑(cR hc (aG (aB (i:=2) ‹["bends","lengths","length","loads"]› rfl (eB rfl) (eC rfl)) (aG (aB (i:=3) ‹["bends","lengths","length","loads"]› rfl (eB rfl) (eC rfl)) bR))) (jA rfl (cG (show 2<=2 by decide) (cG (show 2<=3 by decide) jD))) ⇑(cP) ⇑((sH (fc a hr (aX (sv 2) az rfl)) (sH (fc a hr (aX (sv 3) az rfl)) (qW (CJ jL (sv 3) aj (cB _)))).ev)))));(· lia;(· exists(),m8);exact ao);exact ao
 lia;.exists sI (i:=1) ?_ ?_ ?_ ?_ ?_ ?_;exact nd;exact rfl;exact eC rfl;rotate_left;rfl;exact oi;exact aJ bN (cW (dO aj aK rfl)) (dB (N':=["bends","lengths","length","loads"]) hc (zL rfl (by rfl)) (bH (sv 0)) ⇑(cR hc (aG (aB (i:=2) ‹["bends","lengths","length","loads"]› rfl (eB rfl) (eC rfl)) (aG (aB (i:=3) ‹["bends","lengths","length","loads"]› rfl (eB rfl) (eC rfl)) bR))) (jA rfl (cG (show 2<=2 by decide) (cG (show 2<=3 by decide) jD))) ⇑(cP) ⇑((sv 2)))
 lia;.exists(),CZ rfl hc (by rfl) Av (dB (N':=["bends","lengths","k"]) hc (zL rfl (by rfl)) (iW rfl (by rfl) bw (gf rfl (by rfl) cj (sv 0))) ⇑(aB (i:=2) ‹["bends","lengths","k"]› rfl (eB rfl) (eC rfl)) (eU (dU)) ⇑(cP) ⇑((CJ (yq (bz hr)) (aC (sv 1) (sv 2)) (aC (sv 1) (aJ bN (sv 2) aj)) (cB _))))
 exact ao
noncomputable abbrev s20:ey:=top 36
noncomputable def b20:List S:=[.unp [2,3] ↑0,.asg 4 (.bin .mul (.lst [⇑0]) ↑2),.gQ (.zip ↑3 ↑1) [5,6] a_ [.ifs (.or (.cmp .lt ↑6 ⇑0) (.cmp .gt ↑6 (.idx ↑5 ⇑2))) [.ret (.con .non)] [],.Ao 4 (.idx ↑5 ⇑0) (.bin .add (.idx ↑4 (.idx ↑5 ⇑0)) ↑6),.Ao 4 (.idx ↑5 ⇑1) (.bin .sub (.idx ↑4 (.idx ↑5 ⇑1)) ↑6)],.ifs (.or (.cmp .lt (.idx ↑4 ⇑0) ⇑0) (.cmp .ne (.comp (.slice ↑4 ⇑1 (.neg ⇑1)) 1 [7] bT (a7 (.cmp .ne ↑7 ⇑0)) ↑7) (.lst []))) [.ret (.con .non)] [],.ret (.idx ↑4 ⇑0)]
noncomputable def f20:Fd:=⟨2,7,b20⟩
theorem aft:aN ["net","stream","many","ways","left","way","loads"] ["net","stream"] (au s20):={}
include cl in
theorem d20(a:jf K "_law_rate" "_law_rate" s20 f fd)(wz:mg "zip"=none):(jq Pg w K mg base J9 (k+1) f fd ["net","stream"] (Rg K 2 (λargs=>enter c n f20 args))):=by
 exists a,aft,0,0;refine aU ?_ ?_;.exact(WX (sv 0) (cR hc (aG (aB (i:=2) nd rfl oi oi) (aG (aB (i:=3) nd rfl oi oi) bR))) (gh rfl (aZ _ _ (aZ _ _ dX 3) 2)))
 lia;.exists 4,aJ dg (cW (dO aj aK rfl)) (sv 2)
 lia;.exact(iY eA hc (Wi rfl (by rfl) wz (sv 3) (sv 1)) (cR hc (aG (aB (i:=5) nd rfl oi oi) (aG (aB (i:=6) nd rfl oi oi) bR))) (gh rfl (aZ _ _ (aZ _ _ dX 6) 5)) (by lia;(· exists iR ?_ ?_ ?_;exact SW.st (sU (cU (yq (bz hr)) (sv 6) aj (cB _)) (o4 (cU jL (sv 6) (aC (sv 5) aj) (cB _))));(· lia;(· exists(),pC);exact ao);exact ao);(· lia;exact nR (k:=4) rfl (by (first|exact eB rfl|exact eC (eB rfl))) (aC (sv 5) aj) (aJ bN (aC (sv 4) (aC (sv 5) aj)) (sv 6));(· lia;exact nR (k:=4) rfl (by (first|exact eB rfl|exact eC (eB rfl))) (aC (sv 5) aj) (aJ lO (aC (sv 4) (aC (sv 5) aj)) (sv 6));exact ao))))
 lia;.exists iR ?_ ?_ ?_;exact SW.st (sU (cU (yq (bz hr)) (aC (sv 4) aj) aj (cB _)) (o4 (cU (uq (bz hr)) (dB (N':=["net","stream","many","ways","left","way","loads","one"]) hc (zL rfl (by rfl)) (bH (m9 (sv 4) (nC aj) (nC (pA aj)))) ⇑(aB (i:=7) ‹["net","stream","many","ways","left","way","loads","one"]› rfl (eB rfl) (eC rfl)) (eU (dU)) ⇑(PB (cU (uq (bz hr)) (sv 7) aj (cB _))) ⇑((sv 7))) (cW aK) (cB _))));(· lia;(· exists(),pC);exact ao);exact ao
 lia;.exists(),aC (sv 4) aj
 exact ao
noncomputable abbrev s21:ey:=top 37
noncomputable def b21:List S:=[.ret (.blt .sum [.wj 1 (.idx ↑0 ⇑1) 2 [2,3] a_ none (.bin .mul (.idx ↑2 ⇑3) ↑3)])]
noncomputable def f21:Fd:=⟨2,2,b21⟩
theorem agj:aN ["net","stream"] ["net","stream"] (au s21):={}
include cl in
theorem d21(a:jf K "_law_hours" "_law_hours" s21 f fd)(fC:mg "sum"=none)(wz:mg "zip"=none):(jq Pg w K mg base J9 (k+1) f fd ["net","stream"] (Rg K 2 (λargs=>enter c n f21 args))):=by
 exists a,agj,0,0;refine aU ?_ ?_;.exists(),mH rfl hc (by rfl) fC (Ms (N':=["net","stream","way","loads"]) hc (zL rfl (by rfl)) (O7 (i:=1) rfl (by rfl) wz rfl (aC (sv 0) aj) (sv 1)) ⇑(cR hc (aG (aB (i:=2) ‹["net","stream","way","loads"]› rfl (eB rfl) (eC rfl)) (aG (aB (i:=3) ‹["net","stream","way","loads"]› rfl (eB rfl) (eC rfl)) bR))) (jA rfl (cG (show 2<=2 by decide) (cG (show 2<=3 by decide) jD))) ⇑(cP) ⇑((aJ dg (aC (sv 2) aj) (sv 3))))
 exact ao
noncomputable abbrev s22:ey:=top 38
noncomputable def b22:List S:=[.asg 1 (.lst [.tup []]),.gQ (.idx ↑0 ⇑1) [2] bT [.asg 3 (.lst []),.gQ ↑1 [4] bT [.Ij 3 (.comp (.uZ ⇑0 (.bin .add (.idx ↑2 ⇑2) ⇑1)) 1 [7] bT none (.bin .add ↑4 (.tup [↑7])))],.asg 1 ↑3],.Ik 5 a_,.gQ ↑1 [4] bT [.asg 6 (.call 20 [↑0,↑4]),.ifs (.cmp .Nu ↑6 (.con .non)) [.dput 5 ↑6 (.blt .min2 [.XX 5 ↑6 (.call 21 [↑0,↑4]),.call 21 [↑0,↑4]])] []],.ret (.comp (.uZ ⇑0 (.blt .Nz [.vw 5])) 1 [7] bT none (.bin .yF (.vw 5) ↑7))]
noncomputable def f22:Fd:=⟨1,7,b22⟩
theorem aeV:aN ["net","rows","way","longer","row","found","rate"] ["net"] (au s22):={}
include cl in
theorem d22(b:jf K "_law_all_least" "_law_all_least" s22 f fd)(cj:mg "len"=none)(fG:mg "min"=none)(bw:mg "range"=none)(a:(bu Pg w K mg base k c 21 ("_law_hours") 2))(e:(bu Pg w K mg base k c 20 ("_law_rate") 2)):(jq Pg w K mg base J9 (k+1) f fd ["net"] (Rg K 1 (λargs=>enter c n f22 args))):=by
 exists b,aeV,0,0;refine aU ?_ ?_;.exists 1,cW (dO (dh aK) aK rfl)
 lia;.exists 2,bH (aC (sv 0) aj),0;(· lia;(· exists 3,cW aK);(· lia;(· exists xK (i:=4) ?_ ?_ ?_ ?_ ?_ ?_ ?_ ?_ ?_;exact eA;exact hc;exact nd;exact rfl;exact eC rfl;exact bH (sv 1);(· lia;exact La (k:=3) rfl (by (first|exact eB rfl|exact eC (eB rfl))) (dB (N':=["net","rows","way","longer","row","found","rate","loads"]) hc (zL rfl (by rfl)) (iW rfl (by rfl) bw (aJ bN (aC (sv 2) aj) aj)) ⇑(aB (i:=7) ‹["net","rows","way","longer","row","found","rate","loads"]› rfl (eB rfl) (eC rfl)) (eU (dU)) ⇑(cP) ⇑((aJ bN (sv 4) (dh (dO (sv 7) aK rfl)))));exact ao);(· intro _;rfl);exact oi);(· lia;(· exists 1,sv 3);exact ao)))
 lia;.exact(Fp (i:=5) nd rfl (eC rfl) (by rfl) (eB rfl))
 lia;.exists xK (i:=4) ?_ ?_ ?_ ?_ ?_ ?_ ?_ ?_ ?_;exact eA;exact hc;exact nd;exact rfl;exact eC rfl;exact bH (sv 1);(· lia;(· exists 6,fc e hr (aX (sv 0) (aX (sv 4) az rfl) rfl));(· lia;(· exists iR ?_ ?_ ?_;exact cU Fy (sv 6) pC (cB _);(· lia;exact Fw (i:=5) (bz hr) rfl (by (first|exact eB rfl|exact eC (eB rfl))) (sv 6) (jQ rfl hc (by rfl) fG (dO (Mh (i:=5) (bz hr) rfl (by (first|exact eB rfl|exact eC (eB rfl))) (sv 6) (fc a hr (aX (sv 0) (aX (sv 4) az rfl) rfl)) ⟨rfl,rfl,rfl,rfl⟩) (dO (fc a hr (aX (sv 0) (aX (sv 4) az rfl) rfl)) aK rfl) rfl)) (by rfl);exact ao);exact ao);exact ao));(· intro _;rfl);exact oi
 lia;.exists(),dB (N':=["net","rows","way","longer","row","found","rate#6","rate"]) hc (zL rfl (by rfl)) (iW rfl (by rfl) bw (QL rfl (by rfl) cj (Ab (i:=5) rfl (by first|exact eB rfl|exact eC (eB rfl)|exact eC (eC rfl))))) ⇑(aB (i:=7) ‹["net","rows","way","longer","row","found","rate#6","rate"]› rfl (eB rfl) (eC rfl)) (eU (dU)) ⇑(cP) ⇑((nU (bz hr) (Ab (i:=5) rfl (by first|exact eB rfl|exact eC (eB rfl)|exact eC (eC rfl))) (sv 7) (λ_ _=>rfl)))
 exact ao
noncomputable abbrev s23:ey:=top 39
noncomputable def b23:List S:=[.asg 3 (.con .non),.NP [.ifs (.cmp .eq ↑2 ⇑0) [.asg 3 (.call 11 [↑0,↑1])] [.asg 3 (.call 13 [↑0,↑1])]] [none,none,none,none,none,none,none,a7 bT,none,none,none]]
noncomputable def f23:Fd:=⟨3,5,b23⟩
theorem aeu:aN ["net","rate","way","told","e"] ["net","rate","way"] (au s23):={}
include cl in
theorem d23(m:jf K "_law_too_much" "_law_too_much" s23 f fd)(jT:mg "ValueError"=none)(aW:mg "isinstance"=none)(g:(bu Pg w K mg base k c 11 ("least_hours") 2))(h:(bu Pg w K mg base k c 13 ("light_stream") 2))(lB:mA "HaulError" (cl 0) [.type "ValueError",.type "Exception",.type "BaseException",.type "object"] "ValueError.__new__" mg base)(o:iV Pg w K mg base cl k c 11 "least_hours" 2)(p:iV Pg w K mg base cl k c 13 "light_stream" 2)(pW:Under base (cl 7) (cl 0))(jr:J0 K (cl 7))(jt:mg "BadHour"=a7 (.ref (cl 8)))(lC:mg "BadNet"=a7 (.ref (cl 1)))(iM:mg "BadTable"=a7 (.ref (cl 2)))(lD:mg "NoBack"=a7 (.ref (cl 10)))(oV:mg "NoRow"=a7 (.ref (cl 9)))(lE:mg "NoText"=a7 (.ref (cl 3)))(lF:mg "NoWalk"=a7 (.ref (cl 6)))(oW:mg "NoWay"=a7 (.ref (cl 5)))(ju:mg "TooMany"=a7 (.ref (cl 4)))(aR:mg "TooMuch"=a7 (.ref (cl 7)))(fP:kitOne K (.ref (cl 7)) (.ref (cl 8))=a7 a_)(gq:kitOne K (.ref (cl 7)) (.ref (cl 1))=a7 a_)(fB:kitOne K (.ref (cl 7)) (.ref (cl 2))=a7 a_)(gw:kitOne K (.ref (cl 7)) (.ref (cl 10))=a7 a_)(gR:kitOne K (.ref (cl 7)) (.ref (cl 9))=a7 a_)(gA:kitOne K (.ref (cl 7)) (.ref (cl 3))=a7 a_)(gB:kitOne K (.ref (cl 7)) (.ref (cl 6))=a7 a_)(gU:kitOne K (.ref (cl 7)) (.ref (cl 5))=a7 a_)(fU:kitOne K (.ref (cl 7)) (.ref (cl 4))=a7 a_)(fV:kitOne K (.ref (cl 7)) (.ref (cl 7))=a7 bT)(dR:kitOne K (.ref (cl 7)) (.type "ValueError")=a7 bT):(jq Pg w K mg base J9 (k+1) f fd ["net","rate","way"] (Rg K 3 (λargs=>enter c n f23 args))):=by
 exists m,aeu,0,0;refine aU ?_ ?_;.exists 3,pC
 exact(Px (cl:=cl) (kk:=0) (i:=4) (j:=3) (by rfl) lB (by decide+kernel) rfl ⟨rfl,rfl⟩ nd rfl rfl rfl (eB rfl) (by decide) (by (first|exact eB rfl|exact eC (eB rfl))) (λ_ _ W q l=>(bf (by exists iR ?_ ?_ ?_;exact cU (Bk (bz hr)) (sv 2) aj (cB _);(· lia;(· exists 3,fc g hr (aX (sv 0) (aX (sv 1) az rfl) rfl));exact ao);(· lia;(· exists 3,fc h hr (aX (sv 0) (aX (sv 1) az rfl) rfl));exact ao)) (MJ (cU (Bk (bz hr)) (sv 2) aj (cB _)) (bf (by exists 3,fc g hr (aX (sv 0) (aX (sv 1) az rfl) rfl)) (xP (i:=3) rfl l o hr nd rfl oi (aX (sv 0) (aX (sv 1) az rfl) rfl)) eX) (bf (by exists 3,fc h hr (aX (sv 0) (aX (sv 1) az rfl) rfl)) (xP (i:=3) rfl l p hr nd rfl oi (aX (sv 0) (aX (sv 1) az rfl) rfl)) eX)) eX)) (dM (.inl rfl) (dM (.inl rfl) (dM (.inl rfl) (dM (.inl rfl) (dM (.inl rfl) (dM (.inl rfl) (dM (.inl rfl) (dM (.inr ⟨bT,rfl,pW,λe r a=>(abi (GW.gt (ZX (b:=a_) (b':=a_) (JF (b:=bT) (JS (LC a jr rfl (by rfl) aW rfl (by (first|exact eB rfl|exact eC (eB rfl))) (gC (v:=.ref (cl 7)) (by rfl) aR rfl (by rfl)) gD fV))) (PK (b:=a_) (JF (b:=bT) (JS (LC a jr rfl (by rfl) aW rfl (by (first|exact eB rfl|exact eC (eB rfl))) (FQ (v:=.ty "ValueError") (by rfl) jT (by kernel_rfl) rfl (by decide) (by rfl)) Xr dR)))))) (Vm (b:=a_) (U9 a jr rfl (by rfl) aW rfl (by (first|exact eB rfl|exact eC (eB rfl))) (gY (gC (v:=.ref (cl 8)) (by rfl) jt rfl (by rfl)) (gY (gC (v:=.ref (cl 1)) (by rfl) lC rfl (by rfl)) (gY (gC (v:=.ref (cl 2)) (by rfl) iM rfl (by rfl)) (gY (gC (v:=.ref (cl 10)) (by rfl) lD rfl (by rfl)) (gY (gC (v:=.ref (cl 9)) (by rfl) oV rfl (by rfl)) (gY (gC (v:=.ref (cl 3)) (by rfl) lE rfl (by rfl)) (gY (gC (v:=.ref (cl 6)) (by rfl) lF rfl (by rfl)) (gY (gC (v:=.ref (cl 5)) (by rfl) oW rfl (by rfl)) (gY (gC (v:=.ref (cl 4)) (by rfl) ju rfl (by rfl)) VF))))))))) (fO gD (fO gD (fO gD (fO gD (fO gD (fO gD (fO gD (fO gD (fO gD Qq))))))))) (jO fP (jO gq (jO fB (jO gw (jO gR (jO gA (jO gB (jO gU (jO fU K3))))))))) (show 9<=sizeLine by decide))))⟩) (dM (.inl rfl) (dM (.inl rfl) (dM (.inl rfl) PN))))))))))) (by rfl) (by rfl) (by rfl) (by rfl) (eB rfl))
noncomputable abbrev s24:ey:=top 40
noncomputable def b24:List S:=[.asg 1 (.call 22 [↑0]),.asg 2 (.call 10 [↑0]),.ifs (.or (.not (.call 19 [↑2])) (.cmp .ne (.blt .sum [.comp ↑2 2 [8,9] a_ none ↑9]) (.bin .sub (.blt .len [↑1]) ⇑1))) [.ret (.con (.bl a_))] [],.asg 3 (.lst []),.gQ ↑2 [4,5] a_ [.Ij 3 (.bin .mul (.lst [↑4]) ↑5)],.gQ (.uZ ⇑0 (.blt .len [↑1])) [6] bT [.asg 7 (.call 11 [↑0,↑6]),.ifs (.or (.not (.call 18 [↑7])) (.or (.cmp .ne ↑7 (.idx ↑1 ↑6)) (.cmp .ne (.blt .sum [.slice ↑3 (.con .non) ↑6]) ↑7))) [.ret (.con (.bl a_))] []],.ret (.and (.call 23 [↑0,.blt .len [↑1],⇑0]) (.call 23 [↑0,.bin .add (.blt .len [↑1]) ⇑7,⇑1]))]
noncomputable def f24:Fd:=⟨1,8,b24⟩
theorem ae7:aN ["net","due","bends","lengths","length","loads","rate","found"] ["net"] (au s24):={}
include cl in
theorem d24(b:jf K "_law_right" "_law_right" s24 f fd)(cj:mg "len"=none)(bw:mg "range"=none)(fC:mg "sum"=none)(e:(bu Pg w K mg base k c 22 ("_law_all_least") 1))(g:(bu Pg w K mg base k c 19 ("_law_bends_formed") 1))(a:(bu Pg w K mg base k c 23 ("_law_too_much") 3))(h:(bu Pg w K mg base k c 18 ("_law_whole") 1))(j:(bu Pg w K mg base k c 10 ("bends_of") 1))(l:(bu Pg w K mg base k c 11 ("least_hours") 2)):(jq Pg w K mg base J9 (k+1) f fd ["net"] (Rg K 1 (λargs=>enter c n f24 args))):=by
 exists b,ae7,0,0;refine aU ?_ ?_;.exists 1,fc e hr (aX (sv 0) az rfl)
 lia;.exists 2,fc j hr (aX (sv 0) az rfl)
 lia;.exists iR ?_ ?_ ?_;exact SW.st (sU (pK (gb (fc g hr (aX (sv 2) az rfl)))) (o4 (cU (uq (bz hr)) (mH rfl hc (by rfl) fC (dB (N':=["net","due","bends","lengths","length#4","loads#5","rate","found","length","loads"]) hc (zL rfl (by rfl)) (bH (sv 2)) ⇑(cR hc (aG (aB (i:=8) ‹["net","due","bends","lengths","length#4","loads#5","rate","found","length","loads"]› rfl (eB rfl) (eC rfl)) (aG (aB (i:=9) ‹["net","due","bends","lengths","length#4","loads#5","rate","found","length","loads"]› rfl (eB rfl) (eC rfl)) bR))) (jA rfl (cG (show 8<=8 by decide) (cG (show 8<=9 by decide) jD))) ⇑(cP) ⇑((sv 9)))) (aJ lO (gf rfl (by rfl) cj (sv 1)) aj) (cB _))));(· lia;(· exists(),m8);exact ao);exact ao
 lia;.exists 3,cW aK
 lia;.exact(iY eA hc (bH (sv 2)) (cR hc (aG (aB (i:=4) nd rfl oi oi) (aG (aB (i:=5) nd rfl oi oi) bR))) (gh rfl (aZ _ _ (aZ _ _ dX 5) 4)) (by lia;exact La (k:=3) rfl (by (first|exact eB rfl|exact eC (eB rfl))) (aJ dg (cW (dO (sv 4) aK rfl)) (sv 5));exact ao))
 lia;.exists 6,iW rfl (by rfl) bw (gf rfl (by rfl) cj (sv 1)),0;(· lia;(· exists 7,fc l hr (aX (sv 0) (aX (sv 6) az rfl) rfl));(· lia;(· exists iR ?_ ?_ ?_;exact SW.st (sU (pK (gb (fc h hr (aX (sv 7) az rfl)))) (sU (cU (uq (bz hr)) (sv 7) (aC (sv 1) (sv 6)) (cB _)) (o4 (cU (uq (bz hr)) (mH rfl hc (by rfl) fC (m9 (sv 3) wV (nC (sv 6)))) (sv 7) (cB _)))));(· lia;(· exists(),m8);exact ao);exact ao);exact ao))
 lia;.exists(),sH (fc a hr (aX (sv 0) (aX (gf rfl (by rfl) cj (sv 1)) (aX aj az rfl) rfl) rfl)) (qW (fc a hr (aX (sv 0) (aX (aJ bN (gf rfl (by rfl) cj (sv 1)) aj) (aX aj az rfl) rfl) rfl)))
 exact ao
noncomputable abbrev s25:ey:=top 41
noncomputable def b25:List S:=[.asg 2 (.bin .mul (.lst [⇑0]) ↑1),.gQ (.uZ ⇑0 (.blt .len [↑0])) [3] bT [.Ao 2 (.bin .mod ↑3 ↑1) (.bin .add (.bin .mul (.idx ↑2 (.bin .mod ↑3 ↑1)) ⇑1000003) (.idx ↑0 ↑3))],.ret (.slice ↑2 (.con .non) (.blt .max2 [⇑1,.blt .min2 [.blt .len [↑0],↑1]]))]
noncomputable def f25:Fd:=⟨2,4,b25⟩
theorem agr:aN ["script","most","cells","k"] ["script","most"] (au s25):={}
include cl in
theorem d25(a:jf K "_law_folded" "_law_folded" s25 f fd)(cj:mg "len"=none)(oR:mg "max"=none)(fG:mg "min"=none)(bw:mg "range"=none):(jq Pg w K mg base J9 (k+1) f fd ["script","most"] (Rg K 2 (λargs=>enter c n f25 args))):=by
 exists a,agr,0,0;refine aU ?_ ?_;.exists 2,aJ dg (cW (dO aj aK rfl)) (sv 1)
 lia;.exists 3,iW rfl (by rfl) bw (gf rfl (by rfl) cj (sv 0)),0;(· lia;exact nR (k:=2) rfl (by (first|exact eB rfl|exact eC (eB rfl))) (aJ gG (sv 3) (sv 1)) (aJ bN (aJ dg (aC (sv 2) (aJ gG (sv 3) (sv 1))) aj) (aC (sv 0) (sv 3)));exact ao)
 lia;.exists(),m9 (sv 2) wV (nC (wB rfl hc (by rfl) oR (dO aj (dO (jQ rfl hc (by rfl) fG (dO (gf rfl (by rfl) cj (sv 0)) (dO (sv 1) aK rfl) rfl)) aK rfl) rfl)))
 exact ao
noncomputable abbrev s26:ey:=top 42
noncomputable def b26:List S:=[.gQ (.call 25 [↑0,⇑6]) [1] bT [.ifs (.not (.call 24 [.call 17 [.call 14 [↑1],⇑5]])) [.ret (.con (.bl a_))] []],.ret (.con (.bl bT))]
noncomputable def f26:Fd:=⟨1,2,b26⟩
theorem afb:aN ["script","cell"] ["script"] (au s26):={}
include cl in
theorem d26(a:jf K "law" "law" s26 f fd)(b:(bu Pg w K mg base k c 25 ("_law_folded") 2))(e:(bu Pg w K mg base k c 17 ("_law_net") 2))(g:(bu Pg w K mg base k c 14 ("_law_pool") 1))(h:(bu Pg w K mg base k c 24 ("_law_right") 1)):(jq Pg w K mg base J9 (k+1) f fd ["script"] (Rg K 1 (λargs=>enter c n f26 args))):=by
 exists a,afb,0,0;refine aU ?_ ?_;.exists 1,bH (fc b hr (aX (sv 0) (aX aj az rfl) rfl)),0;(· lia;(· exists iR ?_ ?_ ?_;exact pK (gb (fc h hr (aX (fc e hr (aX (fc g hr (aX (sv 1) az rfl)) (aX aj az rfl) rfl)) az rfl)));(· lia;(· exists(),m8);exact ao);exact ao);exact ao)
 lia;.exists(),m8
 exact ao
end _T
end
noncomputable section
namespace _T
open PySem _L Spec PyProof.Rows _H
noncomputable def Γ:Tab:=λi=>[f0,f1,f2,f3,f4,f5,f6,f7,f8,f9,f10,f11,f12,f13,f14,f15,f16,f17,f18,f19,f20,f21,f22,f23,f24,f25,f26][i]?
end _T
end
noncomputable section
namespace _T
open _H
variable{w n j N l:Nat}{m a b i g p k:Int}{Q:R->List Sl->Prop}{ch:List Int}{F q:Int->Int}{ρ:List Sl}{kvs r:List (Int×Int)}
noncomputable abbrev big:Int:=1606938044258990275541962092341162602522202993782792835301376
theorem fM{x y z:Int}(h0:0<m)(c:m<big)(k:∀d x z:Int,0<=d->d<m->Q (.val (.int d)) [.own bT [.int x,.int y,.int z],.val a_ (.int m)]):(run Γ w (n+1) 15 [.own bT [.int x,.int y,.int z],.val a_ (.int m)]).sat Q:=by
 have e:m<1606938044258990275541962092341162602522202993782792835301376:=c;refine bh (d:=f15) rfl rfl (by decide) ?_;(first|apply ak|apply Hx);simp[f15];constructor;.intro _;(first|apply ak|apply Hx);simp[h0];apply ak;simp[h0,e,jm];apply ak;simp;exact k _ _ _ (nv _ (by omega)) (md _ h0)
 . intro _;(first|apply ak|apply Hx);simp[jm];apply ak;simp;generalize o:(y+7919*(z+1))%1000000007=q;have s:0<=q/\q<1000000007:=by omega
   have f:-18446744073709551616<q+11/\q+11<18446744073709551616:=by omega
   (first|apply ak|apply Hx);simp[f];generalize hs:(q+11)*(q+48271)%998244353=st;have h:-18446744073709551616<st/\st<18446744073709551616:=by omega
   (first|apply ak|apply Hx);simp[h,h0];exact k _ _ _ (nv _ (by omega)) (md _ h0)
theorem LQ{x:Int}(k:∀a b c:Int,Q (.own [.int a,.int b,.int c]) [.val a_ (.int x)]):(run Γ w (n+1) 14 [.val a_ (.int x)]).sat Q:=by refine bh (d:=f14) rfl rfl (by decide) ?_;(first|apply ak|apply Hx);simp[f14];exact k _ _ _
structure Wy where(s t r h:Int)
variable{ws:List Wy}{v:Wy}
noncomputable def Wy.d(w:Wy):D:=.tup [.int w.s,.int w.t,.int w.r,.int w.h]
structure Wy.Ok(m:Int)(w:Wy):Prop where
 s0:0<=w.s
 s1:w.s<m
 t0:0<=w.t
 t1:w.t<m
 ne:w.s≠w.t
 r0:0<=w.r
 r1:w.r<=1000000000
 h0:1<=w.h
 h1:w.h<=1000000
theorem other(h1:0<=a)(c:a<m)(f:0<=b)(o:b<m-1):0<=(a+1+b)%m/\(a+1+b)%m<m/\(a+1+b)%m≠a:=by
 by_cases h:a+1+b<m;.rw[Int.emod_eq_of_lt (by omega) h];omega
 . have e:(a+1+b)%m=a+1+b-m:=by rw[<-Int.sub_emod_right,Int.emod_eq_of_lt (by omega) (by omega)]
   rw[e];omega
noncomputable def bC(m:Int)(ws:List Wy):D:=.tup [.int m,.tup (ws.map Wy.d)]
structure fJ(m:Int)(ws:List Wy):Prop where
 m0:2<=m
 m1:m<=6
 len:ws.length<=12
 ok:∀w∈ws,w.Ok m
@[simp]theorem ahz{m:Int}{ws:List Wy}:Hf (bC m ws) (.int 0)=a7 (.val (.int m)):=rfl
@[simp]theorem aid{m:Int}{ws:List Wy}:Hf (bC m ws) (.int 1)=a7 (.val (.tup (ws.map Wy.d))):=rfl
theorem kO(h:a<=1000000000000000000000):a<big:=by show _<(1606938044258990275541962092341162602522202993782792835301376:Int);omega
theorem R4{ns:List Int}{lo hi:Int}(h0:0<=i)(h1:i<(ns.length:Int))(k:∀x∈ns,lo<=x/\x<=hi):∃r,at' (ns.map D.int) i=a7 (.int r)/\lo<=r/\r<=hi:=by
 have c:i.toNat<ns.length:=by omega
 refine⟨ns[i.toNat],?_,k _ (l7 c)⟩;rw[Bu h0 (by simpa using h1)];simp[c]
theorem jh{x y z:Int}(h0:0<m)(c:m<big)(k:∀d x z:Int,0<=d->d<m->Q (.val (.int d)) [.own bT [.int x,.int y,.int z],.val a_ (.int m)]):(run Γ w (n+2) 16 [.own bT [.int x,.int y,.int z],.val a_ (.int m)]).sat Q:=by refine bh (d:=f16) rfl rfl (by decide) ?_;(first|apply ak|apply Hx);simp[f16];refine fM (by decide) (by decide) λa x z e f=>?_;simp;refine fM (by decide) (by decide) λb x z b0 b1=>?_;simp[h0];exact k _ _ _ (nv _ (by omega)) (md _ h0)
theorem Mf{c:Type}{xs:List c}{lo hi:Option Int}:(cut xs lo hi).length<=xs.length:=by unfold cut;simp;omega
theorem yr{cs:List Int}{a b:Option Int}:cut (cs.map D.int) a b=(cut cs a b).map D.int:=by unfold cut;simp
theorem afM{c:List D}{b:Blt}{ps:List P}:Oh (.lst c) (part (.con .non) .non) (part (.blt b ps) (.int i))=a7 (.own (cut c none (a7 i))):=rfl
inductive aaK(y m rr hh:Int)(i:Nat)(ρ:List Sl):Prop where|mk(x z:Int)(ws:List Wy)(s6 s7 s8:Sl)(q0:ρ=[.own a_ [.int x,.int y,.int z],.val a_ (.int 5),.val a_ (.int m),.val a_ (.int rr),.val a_ (.int hh),.own a_ (ws.map Wy.d),s6,s7,s8])(q1:A3 (fr s6=bT) (fr s7=bT) (fr s8=bT))(q2:(∀v∈ws,v.Ok m/\v.r<=2))(q3:ws.length=i)
theorem Qt{x y z:Int}(k:∀(x z m:Int)(ws:List Wy),fJ m ws->ws.length<=5->(∀v∈ws,v.r<=2)->Q (.val (bC m ws)) [.own a_ [.int x,.int y,.int z],.val a_ (.int 5)]):(run Γ w (n+3) 17 [.own a_ [.int x,.int y,.int z],.val a_ (.int 5)]).sat Q:=by
 refine bh (d:=f17) rfl rfl (by decide) ?_;(first|apply ak|apply Hx);simp[f17];refine fM (by decide) (by decide) λb x z b0 b1=>?_;obtain⟨m,J⟩:∃m,2+b=m:=⟨_,rfl⟩;simp[J];apply ak;simp;apply ak;simp;refine fM (by decide) (by decide) λe x z C E=>?_;obtain⟨l,H,W,X⟩:=R4 (ns:=[3,5,4,1000000]) (lo:=1) (hi:=1000000) C (by simpa using E) (by simp);simp only[de,ow]at H;simp[H];apply ak;simp;apply ak;simp;refine fM (by decide) (by decide) λc x z c0 c1=>?_;simp;refine fM (by decide) (by decide) λe x z C E=>?_;obtain⟨N,I,Y,Z⟩:=R4 (ns:=[5,c]) (lo:=0) (hi:=5) C (by simpa using E) (by simp;omega);simp only[de,ow]at I;simp[I,show N<=1000000000 by omega];refine⟨by omega,?_⟩;refine oA (aaK y m 3 l) ?_ ?_ ⟨x,z,[],.aM,.aM,.aM,rfl,⟨rfl,rfl,rfl⟩,by simp,rfl⟩
 . rintro i _ hi⟨x,z,ws,s6,s7,s8,rfl,⟨L,M,O⟩,B,U⟩;simp[L];apply ak;simp;refine fM (by omega) (kO (by omega)) λa x z s t=>?_;simp[M];apply ak;simp;refine fM (by omega) (kO (by omega)) λb x z b0 b1=>?_;obtain⟨u,A,o2⟩:=other s t b0 b1;simp[O,show 0<m by omega];generalize(a+1+b)%m=o at*;(first|apply ak|apply Hx);simp;refine fM (by decide) (by decide) λc x z c0 c1=>?_;have put:∀{x z a o:Int},0<=a->a<m->0<=o->o<m->a≠o->∀r h:Int,0<=r->r<3->0<=h->h<l->aaK y m 3 l (i+1) [.own a_ [.int x,.int y,.int z],.val a_ (.int 5),.val a_ (.int m),.val a_ (.int 3),.val a_ (.int l),.own a_ (ws.map Wy.d++[.tup [.int a,.int o,.int r,.int (1+h)]]),.val a_ (.int i),.val a_ (.int a),.val a_ (.int o)]:=λ{x z a o}s t u A ne r h r0 r1 h0 h1=>by
    refine⟨x,z,ws++[⟨a,o,r,1+h⟩],_,_,_,by rw[ig];rfl,⟨rfl,rfl,rfl⟩,λv hv=>?_,by simp;omega⟩;rcases eM.mp hv with hv|hv;.exact B v hv
    .rw[dy.mp hv];exact⟨⟨s,t,u,A,ne,r0,by show r<=1000000000;omega,by show 1<=1+h;omega,by show 1+h<=1000000;omega⟩,by show r<=2;omega⟩
   have f:ws.length<16777216:=by omega
   simp;refine⟨λ_=>?_,λ_=>?_⟩
   . (first|apply ak|apply Hx);by_cases c:o<a
     . have G:¬ a<o:=by omega
       simp[c,G];apply ak;simp;refine jh (by omega) (kO (by omega)) λr x z r0 r1=>?_;simp;refine jh (by omega) (kO (by omega)) λh x z h0 h1=>?_;simp[f];exact put u A s t (by omega) r h r0 r1 h0 h1
     . have G:a<o:=by omega
       simp[c,G];apply ak;simp;refine jh (by omega) (kO (by omega)) λr x z r0 r1=>?_;simp;refine jh (by omega) (kO (by omega)) λh x z h0 h1=>?_;simp[f];exact put s t u A (by omega) r h r0 r1 h0 h1
   . (first|apply ak|apply Hx);simp;refine jh (by omega) (kO (by omega)) λr x z r0 r1=>?_;simp;refine jh (by omega) (kO (by omega)) λh x z h0 h1=>?_;simp[f];exact put s t u A (by omega) r h r0 r1 h0 h1
 .rintro _⟨x,z,ws,s6,s7,s8,rfl,_,B,U⟩;(first|apply ak|apply Hx);simp;exact k x z m ws ⟨by omega,by omega,by omega,λv hv=>(B v hv).1⟩ (by omega) λv hv=>(B v hv).2
noncomputable def gK(j:Nat)(f:Bool):D:=.tup [.int j,.bl f]
noncomputable def frm(v:Wy)(f:Bool):Int:=if f then v.s else v.t
noncomputable def too(v:Wy)(f:Bool):Int:=if f then v.t else v.s
theorem mW{f:Bool}(e:ws[j]?=a7 v)(k:Q (.val (.tup [.int (frm v f),.int (too v f)])) [.val a_ (bC m ws),.val a_ (gK j f)]):(run Γ w (n+1) 0 [.val a_ (bC m ws),.val a_ (gK j f)]).sat Q:=by refine bh (d:=f0) rfl rfl (by decide) ?_;(first|apply ak|apply Hx);simp[f0,gK,gP e];apply ak;cases f with|true=>simp[Wy.d];exact k|false=>simp[Wy.d];exact k
noncomputable def hsp(v:Wy)(f:Bool):Int:=if f then v.h else-v.h
theorem vg{f:Bool}(e:ws[j]?=a7 v)(k:Q (.val (.int (hsp v f))) [.val a_ (bC m ws),.val a_ (gK j f)]):(run Γ w (n+1) 1 [.val a_ (bC m ws),.val a_ (gK j f)]).sat Q:=by refine bh (d:=f1) rfl rfl (by decide) ?_;(first|apply ak|apply Hx);simp[f1,gK,gP e,Wy.d];apply ak;cases f with|true=>simp;exact k|false=>simp;exact k
noncomputable def SlL(s:Sl)(fs:List Int):Prop:=s=.val a_ (.lst (fs.map D.int))\/∃b,s=.own b (fs.map D.int)
noncomputable def qx(v:Wy)(g:Int)(f:Bool):Int:=if f then v.r-g else g
theorem vO{f:Bool}{s:Sl}{fs:List Int}(hs:SlL s fs)(e:ws[j]?=a7 v)(c:fs[j]?=a7 g)(k:Q (.val (.int (qx v g f))) [.val a_ (bC m ws),s,.val a_ (gK j f)]):(run Γ w (n+1) 2 [.val a_ (bC m ws),s,.val a_ (gK j f)]).sat Q:=by refine bh (d:=f2) rfl rfl (by decide) ?_;(first|apply ak|apply Hx);rcases hs with rfl|⟨b,rfl⟩;all_goals simp[f2,gK,gP c];apply ak;cases f with|true=>simp[gP e,Wy.d];exact k|false=>simp;exact k
@[simp]theorem adM{c:Call}{n x k:Nat}{src h:P}{is:List Nat}{one:Bool}{ρ:List Sl}:ex c n (.NQ x src k is one h) ρ=(srcOf (isVar src) (ev c src) ρ).bind λt e=>if t.length<=lim then(iI is one (ev c h) t [] (e++cp k .aM)).bind λo f=>(lift (put (aP ρ (isVar src) (f.take e.length)) x (.hold o)) ρ).bind λs _=>.ok .next s else .stuck:=(rfl)
@[simp]theorem acA{c:Call}{n:Nat}{src:P}{is:List Nat}{one:Bool}{body:List S}{ρ:List Sl}:ex c n (.Il src is one body) ρ=(ev c src ρ).bind λr e=>(lift (items r.d) e).bind λf e=>jM is one (fW c n body) f e:=(rfl)
@[simp]theorem agv{c:Call}{n x:Nat}{ρ:List Sl}:ex c n (.dD x) ρ=match ρ[x]?with|some (.hold e)=>.ok .next (ρ.set x (.val a_ (.lst (e.map D.lst))))|_=>.stuck:=(rfl)
@[simp]theorem acr{c:Call}{n x:Nat}{i e:P}{ρ:List Sl}:ex c n (.NT x i e) ρ=(cZ (isVar i) (ev c i) ρ).bind λk ρ=>(lift (xR ρ x k) ρ).bind λ_ ρ=>(ev c e ρ).bind λr ρ=>Hs ρ x ((jU ρ x).bind λf=>(je k).bind λk=>lu f k λrow=>if row.length<lim then a7 (row++[r.d])else none):=(rfl)
@[simp]theorem acH{a:Sl}{l:List Sl}{x:Nat}:jU (a::l) x=match(a::l)[x]?with|some (.hold c)=>a7 c|_=>none:=rfl
@[simp]theorem YQ{ρ:List Sl}{x:Nat}{c:List (List D)}:Hs ρ x (a7 c)=.ok .next (ρ.set x (.hold c)):=rfl
@[simp]theorem aec{a:Sl}{l:List Sl}{x:Nat}{k:Int}:xR (a::l) x (.int k)=match(a::l)[x]?with|some (.hold c)=>rowAt c k|_=>none:=by unfold xR jU;cases h:(a::l)[x]?with|none=>rfl|some s=>cases s<;>rfl
theorem uC{is:List Nat}{one:Bool}{o:Ev}(J:List Sl->Prop)(g:D->List D){Q:List (List D)->List Sl->Prop}:∀{t:List D}{c:List (List D)}{ρ:List Sl},J ρ->(∀d,d∈t->∀ρ,J ρ->∃f,cA ρ is one d=a7 f/\(o f).sat λr s=>r=.own (g d)/\J s)->(∀ρ,J ρ->Q (c++t.map g) ρ)->(iI is one o t c ρ).sat Q|[],c,ρ,j,h,k=>by rw[JM];simpa using k ρ j|d::r,c,ρ,j,h,k=>by obtain⟨f,e,h1⟩:=h d (by simp) ρ j;rw[J7,e];show((o f).bind _).sat Q;rw[cF];refine h1.imp λx s⟨z,j3⟩=>?_;subst z;exact uC J g j3 (λd' u=>h d' (by simp[u])) λy A=>by simpa using k y A
@[simp]theorem aem{c:Call}{x:Nat}{k:P}{ρ:List Sl}:ev c (.T5 x k) ρ=match ρ[x]?with
 |some (.cY _)=>(cZ (isVar k) (ev c k) ρ).bind λe ρ=>match ρ[x]?with|some (.cY kvs)=>lift ((je e).bind λk=>(mQ kvs k).map .val) ρ|_=>.stuck
 |_=>.stuck:=(rfl)
noncomputable def qZ(kvs:List (Int×D))(k:Int):Bool:=(kvs.map (·.1)).contains k
noncomputable def Od(kvs:List (Int×D)):List Int:=kvs.map (·.1)
noncomputable def dsV(kvs:List (Int×D)):List D:=kvs.map (·.2)
@[simp]theorem afU{c:Call}{x:Nat}{k:P}{neg:Bool}{ρ:List Sl}:ev c (.T6 x k neg) ρ=(cZ (isVar k) (ev c k) ρ).bind λe ρ=>match ρ[x]?with|some (.cY kvs)=>lift ((je e).map λk=>.val (.bl (if neg then !qZ kvs k else qZ kvs k))) ρ|_=>.stuck:=(rfl)
@[simp]theorem acJ{c:Call}{k e:Int}{ρ:List Sl}:ev c (.Dk k e) ρ=.ok (.val (.dv [k] [.int e])) ρ:=(rfl)
@[simp]theorem ahG{c:Call}{x:Nat}{ρ:List Sl}:ev c (.vw x) ρ=match ρ[x]?with|some (.gZ m)=>.ok (.val (.dI m)) (ρ.set x (.val a_ (.dI m)))|some (.cY kvs)=>.ok (.val (.dv (Od kvs) (dsV kvs))) (ρ.set x (.val a_ (.dv (Od kvs) (dsV kvs))))|some (.own b e)=>.ok (.val (.lst e)) (ρ.set x (.val b (.lst e)))|some (.val _ d)=>.ok (.val d) ρ|_=>.stuck:=(rfl)
@[simp]theorem acB{c:Call}{n x:Nat}{ρ:List Sl}:ex c n (.Im x) ρ=match ρ[x]?with|some .aM=>.ok .next (ρ.set x (.cY []))|some (.cY _)=>.ok .next (ρ.set x (.cY []))|some (.val a_ _)=>.ok .next (ρ.set x (.cY []))|_=>.stuck:=(rfl)
@[simp]theorem ac2{c:Call}{n x:Nat}{k e:P}{ρ:List Sl}:ex c n (.iB x k e) ρ=(ev c e ρ).bind λr ρ=>match ρ[x]?with
 |some (.cY _)=>(cZ (isVar k) (ev c k) ρ).bind λf ρ=>match ρ[x]?,f with|some (.cY kvs),.int k=>if kvs.length<lim then .ok .next (ρ.set x (.cY (iB kvs k r.d)))else .stuck|_,_=>.stuck
 |_=>.stuck:=(rfl)
@[simp]theorem adg{c:Call}{n x:Nat}{i e:P}{sub:Bool}{ρ:List Sl}:ex c n (.NK x i sub e) ρ=(lift (Cp ρ x) ρ).bind λ_ ρ=>(cZ (isVar i) (ev c i) ρ).bind λk ρ=>(lift (Cp ρ x) ρ).bind λl ρ=>(lift ((je k).bind λi=>at' l i) ρ).bind λa ρ=>(cZ (isVar e) (ev c e) ρ).bind λb ρ=>match a,b,ρ[x]?,k with
 |.int u,.int v,a7 (.own h f),.int k=>match jm f.length k with|some j=>.ok .next (ρ.set x (.own h (f.set j (.int (if sub then u-v else u+v)))))|none=>.stuck
 |_,_,_,_=>.stuck:=(rfl)
@[simp]theorem Zd{x:Nat}{k:P}:isVar (.T5 x k)=none:=rfl
@[simp]theorem YW{x:Nat}{k:P}{b:Bool}:isVar (.T6 x k b)=none:=rfl
@[simp]theorem abO{x:Nat}:isVar (.vw x)=none:=rfl
@[simp]theorem Uk{k e:Int}:isVar (.Dk k e)=none:=rfl
@[simp]theorem afA{kvs:List (Int×D)}:fr (.cY kvs)=a_:=rfl
@[simp]theorem acE{r:List (List D)}:fr (.hold r)=a_:=rfl
@[simp]theorem aak:uK .yF=zU:=rfl
@[simp]theorem ac4:uK .din=zJ a_:=rfl
@[simp]theorem aax{ks:List Int}{c:List D}{k:Int}:zU (.dv ks c) (.int k)=(mQ (ks.zip c) k).map .val:=rfl
@[simp]theorem adk{ks:List Int}{c:List D}{k:Int}:zJ a_ (.int k) (.dv ks c)=a7 (.val (.bl (ks.contains k))):=rfl
@[simp]theorem YT{ks:List Int}{c:List D}:blt .keys [.dv ks c]=a7 (.val (.tup (ks.map D.int))):=rfl
@[simp]theorem acO{ks:List Int}{c:List D}:blt .ZP [.dv ks c]=if ks.length<=16777216 then a7 (.own (ks.map D.int))else none:=rfl
@[simp]theorem adL{c:List D}:blt .rvT [.lst c]=a7 (.val (.tup c.reverse)):=rfl
@[simp]theorem Y7{kvs:List (Int×D)}{x:Option Sl}:dz (.cY kvs) x=.cY kvs:=by cases x<;>rfl
@[simp]theorem W5{r:List (List D)}{x:Option Sl}:dz (.hold r) x=.hold r:=by cases x<;>rfl
structure HN(m:Int)(ws:List Wy):Prop where
 m0:2<=m
 m1:m<=6
 len:ws.length<=12
 ok:∀w∈ws,(0<=w.s/\w.s<m)/\(0<=w.t/\w.t<m)/\0<=w.h
theorem HN.of(h:fJ m ws):HN m ws:=⟨h.m0,h.m1,h.len,λw c=>by have:=h.ok w c;exact⟨⟨this.s0,this.s1⟩,⟨this.t0,this.t1⟩,by have:=this.h0;omega⟩⟩
noncomputable abbrev aq:=Nat×Bool
variable{s:aq}{x:Nat×(Option aq×Int)}{o:Option aq×Int}{c:List aq}{cs:List (List aq×Int)}
noncomputable def sD(s:aq):D:=gK s.1 s.2
noncomputable def lH(ws:List Wy)(fs:List Int)(p:Int)(s:aq):Bool:=match ws[s.1]?,fs[s.1]?with|some v,a7 g=>decide (frm v s.2=p)&&decide (0<qx v g s.2)|_,_=>a_
theorem mL{fs:List Int}(e:ws[s.1]?=a7 v)(f:fs[s.1]?=a7 g):lH ws fs p s=(decide (frm v s.2=p)&&decide (0<qx v g s.2)):=by unfold lH;rw[e,f]
noncomputable def j4(ws:List Wy)(fs:List Int)(M:Nat)(l:List aq):List (List aq):=(dL M).map λ(p:Nat)=>l.filter (lH ws fs (p:Int))
noncomputable def rD(l:List (List aq)):List (List D):=l.map λr=>r.map sD
noncomputable def jb(N:Nat):List aq:=(dL N).flatMap λj=>[(j,bT),(j,a_)]
theorem vo:jb (N+1)=(jb N++[(N,bT)])++[(N,a_)]:=by simp[jb,List.range_succ]
theorem yX:(jb N).length=2*N:=by induction N with|zero=>rfl|succ N e=>rw[vo];simp[e];omega
theorem Xa(h:HN m ws)(e:ws[j]?=a7 v)(f:Bool):0<=frm v f/\frm v f<m:=by have:=h.ok v (dQ e);cases f<;>simp only[frm]<;>simp<;>omega
theorem Ls(h:HN m ws)(e:ws[j]?=a7 v)(f:Bool):0<=too v f/\too v f<m:=by have:=h.ok v (dQ e);cases f<;>simp only[too]<;>simp<;>omega
theorem K7{fs:List Int}{M:Nat}{l:List aq}(e:ws[s.1]?=a7 v)(f:fs[s.1]?=a7 g)(h:¬ 0<qx v g s.2):j4 ws fs M (l++[s])=j4 ws fs M l:=by unfold j4;refine gu λp _=>?_;rw[lz];simp[mL e f,h]
theorem Qu{fs:List Int}{l:List aq}(e:ws[s.1]?=a7 v)(t:fs[s.1]?=a7 g)(h:0<qx v g s.2)(u:0<=frm v s.2/\frm v s.2<m)(B:l.length<1000):(∃row,rowAt (rD (j4 ws fs m.toNat l)) (frm v s.2)=a7 row)/\lu (rD (j4 ws fs m.toNat l)) (frm v s.2) (λrow=>if row.length<lim then a7 (row++[sD s])else none)=a7 (rD (j4 ws fs m.toNat (l++[s]))):=by
 have f:(rD (j4 ws fs m.toNat l)).length=m.toNat:=by simp[rD,j4]
 have y:jm (rD (j4 ws fs m.toNat l)).length (frm v s.2)=a7 (frm v s.2).toNat:=by unfold jm;rw[f,if_pos u.1,if_pos (by omega)]
 have z:(rD (j4 ws fs m.toNat l))[(frm v s.2).toNat]?=a7 ((l.filter (lH ws fs (frm v s.2))).map sD):=by simp[rD,j4,show(frm v s.2).toNat<m.toNat by omega,qq u.1]
 refine⟨⟨_,by unfold rowAt;rw[y];exact z⟩,?_⟩;unfold lu;rw[y];show((rD (j4 ws fs m.toNat l))[(frm v s.2).toNat]?).bind _=_;rw[z];have A:((l.filter (lH ws fs (frm v s.2))).map sD).length<lim:=by have:=pE (lH ws fs (frm v s.2)) l;rw[ef];show _<16777216;omega
 show Option.map _ (if _ then _ else _)=_;rw[if_pos A];show a7 _=a7 _;congr 1;refine oa (by simp[rD,j4]) λi C E=>?_;rw[List.getElem_set];by_cases c:(frm v s.2).toNat=i
 . rw[if_pos c];have:(i:Int)=frm v s.2:=by omega
   simp[rD,j4,this,lz,mL e t,h]
 . rw[if_neg c];have:¬ frm v s.2=(i:Int):=by omega
   simp[rD,j4,lz,mL e t,this]
inductive JOp(m:Int)(ws:List Wy)(fs:List Int)(s:Sl)(i:Nat)(ρ:List Sl):Prop where|mk(s3 s4:Sl)(q0:ρ=[.val a_ (bC m ws),s,.hold (rD (j4 ws fs m.toNat (jb i))),s3,s4])(q1:fr s3=bT)(q2:fr s4=bT)
inductive JOq(m:Int)(ws:List Wy)(fs:List Int)(s:Sl)(i:Nat)(r:List D)(ρ:List Sl):Prop where|mk(l us:List aq)(s4:Sl)(q0:ρ=[.val a_ (bC m ws),s,.hold (rD (j4 ws fs m.toNat l)),.val a_ (.int i),s4])(q1:fr s4=bT)(q2:r=us.map sD)(q3:l++us=jb (i+1))(q4:∀u∈us,u.1=i)
inductive F1n(a b c d e:Sl)(ρ:List Sl):Prop where|mk(s:Sl)(q0:ρ=[a,b,c,d,e,s])(q1:fr s=bT)
theorem M6{s:Sl}{fs:List Int}(hs:SlL s fs)(h:HN m ws)(U:fs.length=ws.length)(k:Q (.val (.lst ((rD (j4 ws fs m.toNat (jb ws.length))).map D.lst))) [.val a_ (bC m ws),s]):(run Γ w (n+2) 4 [.val a_ (bC m ws),s]).sat Q:=by
 have W:=h.len;have m0:=h.m0;have m1:=h.m1;refine bh (d:=f4) rfl rfl (by decide) ?_;refine eZ (λρ=>ρ=[.val a_ (bC m ws),s,.hold (rD (j4 ws fs m.toNat (jb 0))),.aM,.aM]) ?_ ?_
 . simp[f4,show m<=1000000000 by omega,show-1000000000<=m by omega];refine⟨λ_=>?_,by omega⟩;rw[cF];refine uC (F1n _ _ _ _ _) (λ_=>[]) ⟨.aM,rfl,rfl⟩ ?_ ?_;.rintro d hd _⟨J,rfl,t⟩;simp[t];exact⟨_,rfl,rfl⟩
   .rintro _⟨J,rfl,t⟩;simp[rD,j4,jb]
 rintro _ rfl;refine eZ (JOp m ws fs s ws.length) ?_ ?_
 . simp[show(ws.length:Int)<=1000000000 by omega];refine oA (JOp m ws fs s) ?_ ?_ ⟨.aM,.aM,rfl,rfl,rfl⟩
   . rintro i _ hi⟨s3,s4,rfl,B,f⟩;have E:i<fs.length:=by omega
     have y:ws[i]?=a7 ws[i]:=by simp[hi]
     have G:fs[i]?=a7 fs[i]:=by simp[E]
     generalize ws[i]=v at*;generalize fs[i]=g at*;simp[B];apply ak;simp;refine bO (JOq m ws fs s i) ?_ ?_ ⟨jb i,[(i,bT),(i,a_)],s4,rfl,f,rfl,by rw[vo];simp,by simp⟩;.rintro d r _⟨l,e,s4,rfl,f,hr,z,C⟩;cases e with|nil=>cases hr|cons u e=>
         obtain⟨rfl,rfl⟩:d=sD u/\r=e.map sD:=by simpa using hr
         obtain rfl:=C u (by simp);have A:(l++[u])++e=jb (u.1+1):=by rw[eF];exact z
         have H:l.length<1000:=by have:=congrArg k4 z;rw[yX]at this;simp at this;omega
         simp[f];apply ak;rcases hs with rfl|⟨b,rfl⟩;all_goals
          simp[sD];refine vO (by first|exact .inl rfl|exact .inr ⟨_,rfl⟩) y G ?_;simp;refine⟨λho=>?_,λho=>?_⟩;.obtain⟨⟨row,L⟩,M⟩:=Qu (ws:=ws) (fs:=fs) (l:=l) y G ho (Xa h y u.2) H;(first|apply ak|apply Hx);simp;refine mW y ?_;simp[L];have O:lu (rD (j4 ws fs m.toNat l)) (frm v u.2) (λrow=>if row.length<lim then a7 (row++[gK u.1 u.2])else none)=_:=M;rw[O];simp;exact⟨l++[u],e,_,rfl,rfl,rfl,A,λx I=>C x (by simp[I])⟩
          .exact⟨l++[u],e,_,by rw[K7 y G (by omega)],rfl,rfl,A,λx I=>C x (by simp[I])⟩
     . rintro _⟨l,e,s4,rfl,f,hr,z,C⟩;have:e=[]:=by cases e with|nil=>rfl|cons _ _=>cases hr
       subst this;rw[e_]at z;subst z;simp;exact⟨_,_,rfl,rfl,f⟩
   .rintro _⟨s3,s4,rfl,B,f⟩;exact⟨rfl,_,_,rfl,B,f⟩
 rintro _⟨s3,s4,rfl,B,f⟩;(first|apply ak|apply Hx);simp;apply ak;simp;exact k
noncomputable abbrev En:=Int×Nat×(Option aq×Int)
variable{es wA:List En}
noncomputable def oS:Option aq->D|none=>.non|some s=>sD s
noncomputable def Ff(e:En):D:=.tup [.int e.2.2.2,.int (e.2.1:Int),oS e.2.2.1]
noncomputable def en(e:En):Int×D:=(e.1,Ff e)
noncomputable def oh(es:List En):D:=.dv (es.map (·.1)) (es.map Ff)
noncomputable def Bv(p:Int):Int×D:=(p,.bl bT)
@[simp]theorem XC{l:List Int}:Od (l.map Bv)=l:=by simp[Od,Bv,lx]
theorem BW{l:List En}:Od (l.map en)=l.map (·.1):=by simp[Od,en,lx]
theorem BX{l:List En}:qZ (l.map en) p=bT↔∃n o,(p,n,o)∈l:=by show(Od (l.map en)).contains p=bT↔_;rw[BW];simp
theorem kin_no{l:List En}(h:¬ ∃n o,(p,n,o)∈l):qZ (l.map en) p=a_:=by cases e:qZ (l.map en) p with|false=>rfl|true=>exact absurd (BX.mp e) h
theorem wM{t:Type}{p:Int}{x y:t}:∀{l:List (Int×t)},(l.map (·.1)).Nodup->(p,x)∈l->(p,y)∈l->x=y
 |[],_,h,_=>by cases h|e::l,f,h1,h2=>by
   rw[de,eH]at f;rcases c_.mp h1 with h1|h1<;>rcases c_.mp h2 with h2|h2;.rw[<-h2]at h1;cases h1;rfl
   .exact absurd (df.mpr ⟨_,h2,by rw[<-h1]⟩) f.1
   .exact absurd (df.mpr ⟨_,h1,by rw[<-h2]⟩) f.1
   .exact wM f.2 h1 h2
theorem rR{p:Int}{x:Nat×(Option aq×Int)}:∀{l:List En},(l.map (·.1)).Nodup->(p,x)∈l->mQ (l.map en) p=a7 (Ff (p,x))
 |[],_,h=>by cases h|e::l,f,h=>by
   have t:=f;rw[de,eH]at f;unfold mQ;rw[de,fF];by_cases c:e.1=p;.obtain⟨q,y⟩:=e;cases c;have:=wM t h (by simp:(q,y)∈(q,y)::l);subst this;simp[en]
   . have h':(p,x)∈l:=by
      rcases c_.mp h with h|h;.exact absurd (by rw[<-h]) c
      .exact h
     simp[en,c];have:=rR f.2 h';unfold mQ at this;simpa[en]using this
theorem ug{kvs:List (Int×D)}{d:D}(h:qZ kvs p=a_):iB kvs p d=kvs++[(p,d)]:=by
 unfold iB;rw[if_neg];intro f;obtain⟨x,t,e⟩:=og.mp f;have:qZ kvs p=bT:=by show(kvs.map (·.1)).contains p=bT;rw[iS];exact df.mpr ⟨x,t,by simpa using e⟩
 rw[this]at h;cases h
theorem zG{kvs:List (Int×D)}{d:D}(h:qZ kvs p=bT):iB kvs p d=kvs.map λe=>if e.1=p then(p,d)else e:=by
 unfold iB;rw[if_pos]
 . refine gu λe _=>?_;by_cases c:e.1=p;.simp[c]
   .simp[c]
 .have h':(kvs.map (·.1)).contains p=bT:=h;rw[iS]at h';obtain⟨x,f,e⟩:=df.mp h';exact og.mpr ⟨x,f,by simpa using e⟩
noncomputable def zN(p:Int)(x:Nat×(Option aq×Int))(e:En):En:=if e.1=p then(p,x)else e
noncomputable def qD(es:List En)(p:Int)(x:Nat×(Option aq×Int)):List En:=if p∈es.map (·.1)then es.map (zN p x)else es++[(p,x)]
noncomputable def uf(ch:List Int)(p:Int):List Int:=if p∈ch then ch else ch++[p]
theorem Ri:iB (es.map en) p (Ff (p,x))=(qD es p x).map en:=by
 have f:qZ (es.map en) p=bT↔p∈es.map (·.1):=by show(Od (es.map en)).contains p=bT↔_;rw[BW,iS]
 unfold qD;by_cases c:p∈es.map (·.1)
 . rw[if_pos c,zG (f.mpr c),eJ,eJ];refine gu λe _=>?_;show(if e.1=p then _ else _)=en (zN p x e);unfold zN;by_cases z:e.1=p;.rw[if_pos z,if_pos z];rfl
   .rw[if_neg z,if_neg z]
 .rw[if_neg c,ug (by cases e:qZ (es.map en) p with|false=>rfl|true=>exact absurd (f.mp e) c)];simp[en]
theorem Qd:iB (ch.map Bv) p (.bl bT)=(uf ch p).map Bv:=by
 have f:qZ (ch.map Bv) p=bT↔p∈ch:=by show(Od (ch.map Bv)).contains p=bT↔_;rw[XC,iS]
 unfold uf;by_cases c:p∈ch
 . rw[if_pos c,zG (f.mpr c),eJ];refine gu λe _=>?_;show(if e=p then _ else _)=Bv e;by_cases z:e=p;.rw[if_pos z,z];rfl
   .rw[if_neg z]
 .rw[if_neg c,ug (by cases e:qZ (ch.map Bv) p with|false=>rfl|true=>exact absurd (f.mp e) c)];simp[Bv]
theorem zK{q:Int}:q∈uf ch p↔q∈ch\/q=p:=by
 unfold uf;split;.exact⟨.inl,λh=>h.elim id λe=>by rw[e];assumption⟩
 .simp
theorem Gq(h:ch.Nodup):(uf ch p).Nodup:=by
 unfold uf;split;.exact h
 .rename_i f;rw[lb];exact⟨h,by simp,λa t b u e=>f (by rw[<-dy.mp u,<-e];exact t)⟩
theorem G4:(qD es p x).map (·.1)=uf (es.map (·.1)) p:=by
 unfold qD uf;split
 . rw[eJ];refine gu λe _=>?_;show(zN p x e).1=e.1;unfold zN;split;.rename_i h;exact h.symm
   .rfl
 .simp
theorem iG{q:Int}{y:Nat×(Option aq×Int)}:(q,y)∈qD es p x↔(q=p/\y=x)\/(q≠p/\(q,y)∈es):=by
 unfold qD;split
 . rename_i f;obtain⟨B,t,u⟩:=df.mp f;rw[df];constructor
   . rintro⟨e,he,h⟩;unfold zN at h;split at h;.cases h;exact .inl ⟨rfl,rfl⟩
     .rename_i z;subst h;exact .inr ⟨z,he⟩
   . rintro(⟨rfl,rfl⟩|⟨h1,A⟩);.exact⟨B,t,by unfold zN;rw[if_pos u]⟩
     .exact⟨_,A,by unfold zN;rw[if_neg h1]⟩
 . rename_i f;rw[eM,dy];constructor
   . rintro(h|h);.refine .inr ⟨λe=>f ?_,h⟩;rw[<-e];exact df.mpr ⟨_,h,rfl⟩
     .cases h;exact .inl ⟨rfl,rfl⟩
   . rintro(⟨rfl,rfl⟩|⟨_,A⟩);.exact .inr rfl
     .exact .inl A
theorem m6{f:Type}[BEq f][LawfulBEq f]:∀{l l2:List f},l.Nodup->(∀a∈l,a∈l2)->l.length<=l2.length
 |[],_,_,_=>uO|a::l,l2,y,hs=>by
   have t:=hs a (by simp);have e:=eH.mp y;have:=m6 (l:=l) (l2:=l2.erase a) e.2 λb u=>by
    have h:b≠a:=by rintro rfl;exact e.1 u
    exact(p4 h).mpr (hs b (by simp[u]))
   rw[om t]at this;have:=oz t;simp only[dV];omega
theorem six{l:List Int}(m1:m<=6)(e:l.Nodup)(h:∀p∈l,0<=p/\p<m):l.length<=6:=by
 have:=m6 (l2:=[0,1,2,3,4,5]) e λq f=>by
  have:=h q f;have:q=0\/q=1\/q=2\/q=3\/q=4\/q=5:=by omega
  simpa using this
 simpa using this
theorem sV{fs:List Int}(h:lH ws fs p s=bT):∃v g,ws[s.1]?=a7 v/\fs[s.1]?=a7 g/\frm v s.2=p/\0<qx v g s.2:=by
 unfold lH at h;split at h;.rename_i v g e f;simp at h;exact⟨v,g,e,f,h.1,h.2⟩
 .cases h
theorem yP(h:s.1<N):s∈jb N:=by unfold jb;rw[List.mem_flatMap];refine⟨s.1,by simp[h],?_⟩;obtain⟨j,f⟩:=s;cases f<;>simp
noncomputable def jK(ws:List Wy)(b:Int):List aq->Int->Prop|[],a=>a=b|s::c,a=>∃v,ws[s.1]?=a7 v/\frm v s.2=a/\jK ws b c (too v s.2)
noncomputable def hst(ws:List Wy)(s:aq):Int:=match ws[s.1]?with|some v=>hsp v s.2|none=>0
theorem iZ(e:ws[s.1]?=a7 v):hst ws s=hsp v s.2:=by unfold hst;rw[e]
noncomputable def bU(ws:List Wy):List aq->Int|[]=>0|s::c=>hst ws s+bU ws c
theorem lM{ws:List Wy}{c2:List aq}:∀{c1:List aq},bU ws (c1++c2)=bU ws c1+bU ws c2|[]=>by simp[bU]|s::c=>by rw[iN,bU,lM,bU];omega
noncomputable def vM(ws:List Wy)(fs:List Int)(c:List aq):Prop:=∀s∈c,∃v,ws[s.1]?=a7 v/\lH ws fs (frm v s.2) s=bT
theorem jK.app{ws:List Wy}{b q:Int}{c2:List aq}(f:jK ws b c2 q):∀{c1:List aq}{a:Int},jK ws q c1 a->jK ws b (c1++c2) a|[],a,h=>by have:a=q:=h;rw[this];exact f|s::c,a,⟨v,e,t,h⟩=>⟨v,e,t,jK.app f h⟩
theorem DP{ws:List Wy}{b:Int}{c2:List aq}:∀{c1:List aq}{a:Int},jK ws b (c1++c2) a->∃q,jK ws q c1 a/\jK ws b c2 q|[],a,h=>⟨a,rfl,h⟩|s::c,a,⟨v,e,f,h⟩=>by obtain⟨q,h1,t⟩:=DP (c1:=c) h;exact⟨q,⟨v,e,f,h1⟩,t⟩
noncomputable def Pt(ws:List Wy)(fs:List Int)(F:Int->Int):Prop:=∀(s:aq)(v:Wy),ws[s.1]?=a7 v->lH ws fs (frm v s.2) s=bT->F (too v s.2)<=F (frm v s.2)+hsp v s.2
theorem oZ{ws:List Wy}{fs:List Int}{F:Int->Int}(h:Pt ws fs F){b:Int}:∀{c:List aq}{a:Int},jK ws b c a->vM ws fs c->F b<=F a+bU ws c|[],a,f,_=>by have:a=b:=f;rw[this,bU];omega|s::c,a,⟨v,e,y,f⟩,ho=>by have h1:=oZ h f λu z=>ho u (dS _ z);obtain⟨B,t,o⟩:=ho s (by simp);rw[e]at t;cases t;have A:=h s v e o;rw[y]at A;rw[bU,iZ e];omega
noncomputable def Ce(ws:List Wy)(s:aq):Int:=match ws[s.1]?with|some v=>too v s.2|none=>0
noncomputable def zQ(ws:List Wy):List aq->Int->List Int|[],a=>[a]|s::c,a=>a::zQ ws c (Ce ws s)
theorem El{ws:List Wy}:∀{c:List aq}{a:Int},(zQ ws c a).length=c.length+1|[],_=>rfl|s::c,a=>by rw[zQ,dV,El];rfl
theorem Kc{m:Int}{ws:List Wy}{b:Int}(h:HN m ws):∀{c:List aq}{a:Int},jK ws b c a->0<=a/\a<m->∀q∈zQ ws c a,0<=q/\q<m
 |[],a,_,f,q,hq=>by rw[zQ,dy]at hq;rw[hq];exact f|s::c,a,⟨v,e,u,t⟩,f,q,hq=>by
   rw[zQ,c_]at hq;rcases hq with rfl|hq;.exact f
   . have:Ce ws s=too v s.2:=by unfold Ce;rw[e]
     rw[this]at hq;exact Kc h t (Ls h e s.2) q hq
theorem DK{ws:List Wy}{b q:Int}:∀{c:List aq}{a:Int},jK ws b c a->q∈zQ ws c a->∃c1 c2,c=c1++c2/\jK ws q c1 a/\jK ws b c2 q
 |[],a,h,hq=>by rw[zQ,dy]at hq;exact⟨[],[],rfl,hq.symm,by rw[hq];exact h⟩|s::c,a,h,hq=>by
   rw[zQ,c_]at hq;rcases hq with rfl|hq;.exact⟨[],s::c,rfl,rfl,h⟩
   . obtain⟨v,e,f,t⟩:=h;have:Ce ws s=too v s.2:=by unfold Ce;rw[e]
     rw[this]at hq;obtain⟨c1,c2,rfl,h1,u⟩:=DK t hq;exact⟨s::c1,c2,rfl,⟨v,e,f,h1⟩,u⟩
theorem Ei{ws:List Wy}{b:Int}:∀{c:List aq}{a:Int},jK ws b c a->¬(zQ ws c a).Nodup->∃c1 c2 c3 q,c=c1++(c2++c3)/\0<c2.length/\jK ws q c1 a/\jK ws q c2 q/\jK ws b c3 q
 |[],a,_,f=>absurd (by simp[zQ]) f|s::c,a,⟨v,e,t,u⟩,f=>by
   have A:Ce ws s=too v s.2:=by unfold Ce;rw[e]
   rw[zQ,A,eH]at f;by_cases y:a∈zQ ws c (too v s.2);.obtain⟨c1,c2,rfl,h1,h⟩:=DK u y;exact⟨[],s::c1,c2,a,rfl,by simp,rfl,⟨v,e,t,h1⟩,h⟩
   .obtain⟨c1,c2,c3,q,rfl,h0,h1,h,B⟩:=Ei u λz=>f ⟨y,z⟩;exact⟨s::c1,c2,c3,q,rfl,h0,⟨v,e,t,h1⟩,h,B⟩
noncomputable def Le(h:Int)(n:Nat)(h':Int)(e:Nat):Prop:=h<h'\/(h=h'/\n<=e)
theorem Le.refl{h:Int}:Le h n h n:=.inr ⟨rfl,dU⟩
theorem Le.trans{c:Int}{k:Nat}(h1:Le a k b l)(e:Le b l c n):Le a k c n:=by unfold Le at*;omega
theorem Le.add{k:Nat}(x:Int)(h1:Le a k b l):Le (a+x) (k+1) (b+x) (l+1):=by unfold Le at*;omega
theorem short{fs:List Int}(y:HN m ws)(h:Pt ws fs F)(z:0<=a/\a<m):∀(n:Nat){c:List aq},c.length<=n->jK ws b c a->vM ws fs c->∃e,jK ws b e a/\vM ws fs e/\e.length<=5/\Le (bU ws e) e.length (bU ws c) c.length/\(zQ ws e a).Nodup:=by
 intro n;have done:∀{c:List aq},jK ws b c a->(zQ ws c a).Nodup->c.length<=5:=λf t=>by have:=six y.m1 t (Kc y f z);rw[El]at this;omega
 induction n with|zero=>intro c hc f ho;have:c=[]:=ft (by omega);subst this;exact⟨[],f,ho,by simp,.refl,by simp[zQ]⟩|succ n A=>
   intro c hc f ho;by_cases t:(zQ ws c a).Nodup;.exact⟨c,f,ho,done f t,.refl,t⟩
   .obtain⟨c1,c2,c3,q,rfl,h0,h1,B,C⟩:=Ei f t;have u:vM ws fs c2:=λs hs=>ho s (by simp[hs]);have hr:=oZ h B u;simp only[ei]at hc;obtain⟨e,E,G,H,I,J⟩:=A (c:=c1++c3) (by simp only[ei];omega) (jK.app C h1) λs hs=>ho s (by rcases eM.mp hs with hs|hs<;>simp[hs]);refine⟨e,E,G,H,I.trans ?_,J⟩;rw[lM,lM,lM];simp only[ei];unfold Le;omega
structure Hr(m:Int)(ws:List Wy)(fs:List Int)(bs:List (Int×Int))(es:List En):Prop where
 nd:(es.map (·.1)).Nodup
 inm:∀p l o,(p,l,o)∈es->0<=p/\p<m
 z:(0,0,(none,0))∈es
 wk:∀p l o,(p,l,o)∈es->∃a b c,(a,b)∈bs/\jK ws p c a/\vM ws fs c/\c.length=l/\b+bU ws c=o.2
 stp:∀p l o,(p,l,o)∈es->(o.1=none/\(p,o.2)∈bs/\l=0)\/∃(s:aq)(v:Wy)(l':Nat)(o':Option aq×Int),o.1=a7 s/\ws[s.1]?=a7 v/\too v s.2=p/\lH ws fs (frm v s.2) s=bT/\(frm v s.2,l',o')∈es/\Le (o'.2+hsp v s.2) (l'+1) o.2 l
theorem Hr.len{fs:List Int}{bs:List (Int×Int)}(h:Hr m ws fs bs es)(m1:m<=6):es.length<=6:=by
 have:=six m1 h.nd λp e=>by obtain⟨⟨p,l,o⟩,he,rfl⟩:=df.mp e;exact h.inm p l o he
 simpa using this
theorem j7{l:List En}{a b:Nat}{u:Option aq×Int}(e:(l.map (·.1)).Nodup)(h1:(p,a,o)∈l)(f:(p,b,u)∈l):a=b/\o=u:=by have:=wM e h1 f;cases this;exact⟨rfl,rfl⟩
noncomputable def At(es:List En)(p h:Int)(n:Nat):Prop:=∃l o,(p,l,o)∈es/\Le o.2 l h n
theorem At.le{h h':Int}{e:Nat}(a:At es p h n)(z:Le h n h' e):At es p h' e:=by obtain⟨l,o,h1,f⟩:=a;exact⟨l,o,h1,f.trans z⟩
structure Wh(m:Int)(ws:List Wy)(fs:List Int)(bs:List (Int×Int))(n:Nat)(R:List Int)(es:List En):Prop where
 cm:Hr m ws fs bs es
 row:∀p∈R,∃l o,(p,l,o)∈es
 nr:R.Nodup
 wl:∀a b c p,(a,b)∈bs->jK ws p c a->vM ws fs c->c.length<=n->At es p (b+bU ws c) c.length
 cl:∀l o(s:aq)v,ws[s.1]?=a7 v->frm v s.2∉R->(frm v s.2,l,o)∈es->lH ws fs (frm v s.2) s=bT->At es (too v s.2) (o.2+hsp v s.2) (l+1)few:6<=n->R=[]
structure In(m:Int)(ws:List Wy)(fs:List Int)(bs:List (Int×Int))(n:Nat)(R:List Int)(wA:List En)(K:aq->Prop)(es:List En)(ch:List Int):Prop where
 wh:Wh m ws fs bs n R wA
 cm:Hr m ws fs bs es
 le:∀p l o,(p,l,o)∈wA->At es p o.2 l
 out:∀p l o,p∉ch->(p,l,o)∈es->(p,l,o)∈wA
 chg:∀p∈ch,∃l o,(p,l,o)∈es
 nc:ch.Nodup
 dn:∀s,K s->∀v,ws[s.1]?=a7 v->∀l o,(frm v s.2,l,o)∈wA->At es (too v s.2) (o.2+hsp v s.2) (l+1)few:5<=n->ch=[]
theorem In.row{m:Int}{ws:List Wy}{fs:List Int}{bs:List (Int×Int)}{n:Nat}{R:List Int}{wA:List En}{K:aq->Prop}{es:List En}{ch:List Int}(h:In m ws fs bs n R wA K es ch){p:Int}(e:p∈R):∃l o,(p,l,o)∈es:=by obtain⟨l,o,z⟩:=h.wh.row p e;obtain⟨l,o,z,_⟩:=h.le _ _ _ z;exact⟨l,o,z⟩
theorem In.keep{fs:List Int}{bs:List (Int×Int)}{R:List Int}{K:aq->Prop}(h:In m ws fs bs n R wA K es ch)(e:ws[s.1]?=a7 v)(y:(frm v s.2,l,o)∈es)(z:At es (too v s.2) (o.2+hsp v s.2) (l+1)):In m ws fs bs n R wA (λu=>K u\/u=s) es ch:=by
 refine⟨h.wh,h.cm,h.le,h.out,h.chg,h.nc,λu f=>?_,h.few⟩;rcases f with f|rfl;.exact h.dn u f
 .intro C t E G h0;rw[e]at t;cases t;obtain⟨H,I,A,B⟩:=h.le _ _ _ h0;obtain⟨rfl,rfl⟩:=j7 h.cm.nd y A;exact z.le (B.add _)
theorem In.put{fs:List Int}{bs:List (Int×Int)}{R:List Int}{K:aq->Prop}(h:In m ws fs bs n R wA K es ch)(I:HN m ws)(hF:Pt ws fs F)(hb:∀a b,(a,b)∈bs->0<=a/\a<m)(hZ:∀a b c,(a,b)∈bs->jK ws 0 c a->vM ws fs c->0<=b+bU ws c)(e:ws[s.1]?=a7 v)(J:(frm v s.2,l,o)∈es)(ho:lH ws fs (frm v s.2) s=bT)(L:¬ At es (too v s.2) (o.2+hsp v s.2) (l+1)):In m ws fs bs n R wA (λu=>K u\/u=s) (qD es (too v s.2) (l+1,(a7 s,o.2+hsp v s.2))) (uf ch (too v s.2)):=by
 have m0:=I.m0;obtain⟨B,b0,c,c0,c1,c2,c3,c4⟩:=h.cm.wk _ _ _ J;have E:jK ws (too v s.2) (c++[s]) B:=jK.app (c2:=[s]) ⟨v,e,rfl,rfl⟩ c1;have M:vM ws fs (c++[s]):=λu hu=>by
  rcases eM.mp hu with hu|hu;.exact c2 u hu
  .rw[dy.mp hu];exact⟨v,e,ho⟩
 have Y:(c++[s]).length=l+1:=by simp[c3]
 have O:b0+bU ws (c++[s])=o.2+hsp v s.2:=by rw[lM,<-c4,bU,bU,iZ e];omega
 have new:(too v s.2,l+1,(a7 s,o.2+hsp v s.2))∈qD es (too v s.2) (l+1,(a7 s,o.2+hsp v s.2)):=iG.mpr (.inl ⟨rfl,rfl⟩);have mono:∀{q l2 f},(q,l2,f)∈es->At (qD es (too v s.2) (l+1,(a7 s,o.2+hsp v s.2))) q f.2 l2:=λ{q l2 f}z=>by
  by_cases c:q=too v s.2;.subst c;refine⟨_,_,new,?_⟩;have:¬ Le f.2 l2 (o.2+hsp v s.2) (l+1):=λy=>L ⟨_,_,z,y⟩;unfold Le at this ⊢;simp only;omega
  .exact⟨l2,f,iG.mpr (.inr ⟨c,z⟩),.refl⟩
 have Z:∀{q h n},At es q h n->At (qD es (too v s.2) (l+1,(a7 s,o.2+hsp v s.2))) q h n:=λ⟨l2,f,C,U⟩=>(mono C).le U;refine⟨h.wh,⟨by rw[G4];exact Gq h.cm.nd,λp l o z=>?_,?_,λp l2 f z=>?_,λp l2 f z=>?_⟩,λp l o z=>Z (h.le p l o z),λp l o hc z=>?_,λp hc=>?_,Gq h.nc,λu hu=>?_,λh5=>?_⟩
 . rcases iG.mp z with⟨rfl,_⟩|⟨_,z⟩;.exact Ls I e s.2
   .exact h.cm.inm p l o z
 .refine iG.mpr (.inr ⟨λz=>L ?_,h.cm.z⟩);have:=hZ B b0 _ c0 (by rw[<-z]at E;exact E) M;rw[O]at this;rw[<-z];exact⟨_,_,h.cm.z,by unfold Le;simp only;omega⟩
 . rcases iG.mp z with⟨rfl,y⟩|⟨_,z⟩;.cases y;exact⟨B,b0,_,c0,E,M,Y,O⟩
   .exact h.cm.wk p l2 f z
 . rcases iG.mp z with⟨rfl,y⟩|⟨_,z⟩;.cases y;obtain⟨l',o',t,A⟩:=mono J;exact .inr ⟨s,v,l',o',rfl,e,rfl,ho,t,A.add _⟩
   . rcases h.cm.stp p l2 f z with z|⟨s',G,l',o',C,z3,z4,z5,z6,z7⟩;.exact .inl z
     .obtain⟨W,X,t,A⟩:=mono z6;exact .inr ⟨s',G,W,X,C,z3,z4,z5,t,(A.add _).trans z7⟩
 . rw[zK,not_or]at hc;rcases iG.mp z with⟨rfl,_⟩|⟨_,z⟩;.exact absurd rfl hc.2
   .exact h.out p l o hc.1 z
 . rcases zK.mp hc with hc|rfl;.obtain⟨l2,f,z⟩:=h.chg p hc;obtain⟨W,X,z,_⟩:=mono z;exact⟨W,X,z⟩
   .exact⟨_,_,new⟩
 . rcases hu with hu|rfl;.exact λG H l0 o0 h0=>Z (h.dn u hu G H l0 o0 h0)
   .intro G H l0 o0 h0;rw[e]at H;cases H;obtain⟨l1,o1,t,A⟩:=h.le _ _ _ h0;obtain⟨rfl,rfl⟩:=j7 h.cm.nd J t;exact⟨_,_,new,A.add _⟩
 .obtain⟨c',t,A,q3,q4,_⟩:=short I hF (hb B b0 c0) _ (dU) E M;obtain⟨l1,o1,C,U⟩:=h.wh.wl B b0 c' _ c0 t A (by omega);rw[Y]at q4;refine absurd ((h.le _ _ _ C).le (U.trans ?_)) L;rw[<-O];unfold Le at q4 ⊢;omega
noncomputable def bE(p:Int×Int):En:=(p.1,0,(none,p.2))
theorem Wh.start{fs:List Int}{bs:List (Int×Int)}(y:∀a b,(a,b)∈bs->0<=a/\a<m)(h0:(0,0)∈bs)(u:(bs.map (·.1)).Nodup):Wh m ws fs bs 0 (bs.map (·.1)) (bs.map bE):=by
 have A:(bs.map bE).map (·.1)=bs.map (·.1):=by rw[eJ];rfl
 have un:∀{p l o},(p,l,o)∈bs.map bE->l=0/\o.1=none/\(p,o.2)∈bs:=λ{p l o}z=>by obtain⟨⟨a,b⟩,h1,e⟩:=df.mp z;cases e;exact⟨rfl,rfl,h1⟩
 have to:∀{a b},(a,b)∈bs->(a,0,(none,b))∈bs.map bE:=λh=>df.mpr ⟨_,h,rfl⟩;refine⟨⟨by rw[A];exact u,λp l o z=>y _ _ (un z).2.2,to h0,λp l o z=>?_,λp l o z=>.inl ⟨(un z).2.1,(un z).2.2,(un z).1⟩⟩,λp f=>?_,u,λa b c p t f _ hc=>?_,λl o s v _ B z=>?_,λh=>by omega⟩;.exact⟨p,o.2,[],(un z).2.2,rfl,λs hs=>(by cases hs),(un z).1.symm,by rw[bU];omega⟩
 .obtain⟨⟨a,b⟩,h1,rfl⟩:=df.mp f;exact⟨_,_,to h1⟩
 .cases c with|nil=>have:a=p:=f;subst this;exact⟨0,(none,b),to t,by unfold Le bU;simp⟩|cons _ _=>simp at hc
 .exact absurd (df.mpr ⟨_,(un z).2.2,rfl⟩) B
theorem Wh.to{fs:List Int}{bs:List (Int×Int)}{R:List Int}(h:Wh m ws fs bs n R es):In m ws fs bs n R es (λ_=>False) es []:=⟨h,h.cm,λp l o z=>⟨l,o,z,.refl⟩,λp l o _ z=>z,λp e=>(by cases e),.nil,λs hs=>hs.elim,λ_=>rfl⟩
theorem In.out'{fs:List Int}{bs:List (Int×Int)}{R:List Int}(h:In m ws fs bs n R wA (λs=>∃p∈R,lH ws fs p s=bT) es ch):Wh m ws fs bs (n+1) ch es:=by
 have f:∀{p h' k},At wA p h' k->At es p h' k:=λ⟨l,o,y,A⟩=>(h.le _ _ _ y).le A;have E:∀(s:aq)v l o,ws[s.1]?=a7 v->(frm v s.2,l,o)∈wA->lH ws fs (frm v s.2) s=bT->At es (too v s.2) (o.2+hsp v s.2) (l+1):=λs v l o e z ho=>by
  by_cases c:frm v s.2∈R;.exact h.dn s ⟨_,c,ho⟩ v e l o z
  .exact f (h.wh.cl l o s v e c z ho)
 refine⟨h.cm,h.chg,h.nc,λa b c p t G ho hc=>?_,λl o s v e hc z hs=>E s v l o e (h.out _ _ _ hc z) hs,λM=>h.few (by omega)⟩;rcases kM c with rfl|⟨B,s,rfl⟩;.exact f (h.wh.wl a b [] p t G ho (uO))
 . rw[kN]at*;obtain⟨q,h1,v,e,rfl,C⟩:=DP G;have C:too v s.2=p:=C;subst C;obtain⟨O,H,I⟩:=ho s (by simp);rw[e]at H;cases H;simp only[ei,dV,length_nil]at hc;obtain⟨l,o,y,A⟩:=h.wh.wl a b B _ t h1 (λu J=>ho u (by simp[J])) (by omega);refine(E s v l o e y I).le ?_;have:=A.add (hsp v s.2);have L:bU ws (B++[s])=bU ws B+hsp v s.2:=by rw[lM,bU,bU,iZ e];omega
   rw[L,<-Int.add_assoc];simpa using this
structure JC(m:Int)(ws:List Wy)(fs:List Int)(bs:List (Int×Int))(es:List En):Prop where
 cm:Hr m ws fs bs es
 cl:∀l o(s:aq)v,ws[s.1]?=a7 v->(frm v s.2,l,o)∈es->lH ws fs (frm v s.2) s=bT->At es (too v s.2) (o.2+hsp v s.2) (l+1)bg:∀a b,(a,b)∈bs->At es a b 0
theorem Wh.fin{fs:List Int}{bs:List (Int×Int)}(h:Wh m ws fs bs n [] es):JC m ws fs bs es:=⟨h.cm,λl o s v e z ho=>h.cl l o s v e (by simp) z ho,λa b f=>by have:=h.wl a b [] a f rfl (λs hs=>by cases hs) (uO);simpa[bU]using this⟩
noncomputable abbrev Cme(m:Int)(ws:List Wy)(fs:List Int)(es:List En):Prop:=Hr m ws fs [(0,0)] es
noncomputable abbrev jP(m:Int)(ws:List Wy)(fs:List Int)(es:List En):Prop:=JC m ws fs [(0,0)] es
theorem In.imp{fs:List Int}{bs:List (Int×Int)}{R:List Int}{K e:aq->Prop}(h:In m ws fs bs n R wA K es ch)(z:∀s,e s->K s):In m ws fs bs n R wA e es ch:=⟨h.wh,h.cm,h.le,h.out,h.chg,h.nc,λs hs=>h.dn s (z s hs),h.few⟩
theorem U4{fs:List Int}{l:List aq}(e:0<=p/\p<m):at' ((rD (j4 ws fs m.toNat l)).map D.lst) p=a7 (.lst ((l.filter (lH ws fs p)).map sD)):=by rw[Bu e.1 (by simp[rD,j4];omega)];simp[rD,j4,show p.toNat<m.toNat by omega,qq e.1]
@[simp]theorem cut3{a b c:D}:Oh (.tup [a,b,c]) (part (.con .non) .non) (part (.con (.int 2)) (.int 2))=a7 (.val (.tup [a,b])):=rfl
theorem Xh{j:Int}:cm .lt (.tup [.int a,.int i]) (.tup [.int b,.int j])=a7 (bB [a,i] [b,j]):=rfl
theorem lex_lt{i:Nat}:bB [a,(i:Int)] [b,(j:Int)]=bT↔¬ Le b j a i:=by unfold Le;simp[bB];omega
noncomputable def Bc(bs:List (Int×Int)):Sl:=.val a_ (.dv (bs.map (·.1)) (bs.map λp=>.int p.2))
noncomputable abbrev bg:Sl:=Bc [(0,0)]
inductive JC2(m:Int)(ws:List Wy)(fs:List Int)(bs:List (Int×Int))(a0 a1 a2 a3 a6:Sl)(n:Nat)(R:List Int)(wA:List En)(pre:List Int)(p:Int)(r:List D)(ρ:List Sl):Prop where|mk(es:List En)(ch:List Int)(bZ us:List aq)(s8 s9 uM:Sl)(q0:ρ=[a0,a1,a2,a3,.cY (es.map en),.val a_ (.int p),a6,.cY (ch.map Bv),s8,s9,uM])(q1:A3 (fr s8=bT) (fr s9=bT) (fr uM=bT))(q2:r=us.map sD)(q3:bZ++us=(jb ws.length).filter (lH ws fs p))(q4:In m ws fs bs n R wA (λs=>(∃q∈pre,lH ws fs q s=bT)\/s∈bZ) es ch)
inductive JC1(m:Int)(ws:List Wy)(fs:List Int)(bs:List (Int×Int))(a0 a1 a2 a3 a6:Sl)(n:Nat)(R:List Int)(wA:List En)(r:List D)(ρ:List Sl):Prop where|mk(es:List En)(ch pre qs:List Int)(s5 s8 s9 uM:Sl)(q0:ρ=[a0,a1,a2,a3,.cY (es.map en),s5,a6,.cY (ch.map Bv),s8,s9,uM])(q1:A4 (fr s5=bT) (fr s8=bT) (fr s9=bT) (fr uM=bT))(q2:r=qs.map D.int)(q3:pre++qs=R)(q4:In m ws fs bs n R wA (λs=>∃q∈pre,lH ws fs q s=bT) es ch)
inductive JCw(m:Int)(ws:List Wy)(fs:List Int)(bs:List (Int×Int))(a0 a1 a2 a3:Sl)(M:Nat)(ρ:List Sl):Prop where|mk(n:Nat)(R:List Int)(es:List En)(s5 s7 s8 s9 uM:Sl)(q0:ρ=[a0,a1,a2,a3,.cY (es.map en),s5,.own a_ (R.map D.int),s7,s8,s9,uM])(q1:A4 (fr s5=bT) (fr s8=bT) (fr s9=bT) (fr uM=bT))(q2:(s7=.aM\/∃d,s7=.val a_ d))(q3:Wh m ws fs bs n R es)(q4:7<=n+M)
inductive JC0(a0 a1 a2 a3:Sl)(bs:List (Int×Int))(r:List D)(ρ:List Sl):Prop where|mk(bZ us:List (Int×Int))(s5:Sl)(q0:ρ=[a0,a1,a2,a3,.cY ((bZ.map bE).map en),s5,.aM,.aM,.aM,.aM,.aM])(q1:fr s5=bT)(q2:r=(us.map (·.1)).map D.int)(q3:bZ++us=bs)
theorem Eg{a b:Int}:∀{bs:List (Int×Int)},(bs.map (·.1)).Nodup->(a,b)∈bs->mQ ((bs.map (·.1)).zip (bs.map λp=>D.int p.2)) a=a7 (.int b)
 |[],_,h=>by cases h|p::bs,e,h=>by
   rw[de,eH]at e;unfold mQ;rw[de,de,List.zip_cons_cons,fF];rcases c_.mp h with h|h;.subst h;simp
   .have f:p.1≠a:=λz=>e.1 (by rw[z];exact df.mpr ⟨_,h,rfl⟩);have:=Eg e.2 h;unfold mQ at this;simpa[f]using this
theorem Ia{s:Sl}{fs:List Int}{bs:List (Int×Int)}(hw:100<=w)(hF:Pt ws fs F)(hb:∀a b,(a,b)∈bs->0<=a/\a<m)(h0:(0,0)∈bs)(I:(bs.map (·.1)).Nodup)(hZ:∀a b c,(a,b)∈bs->jK ws 0 c a->vM ws fs c->0<=b+bU ws c)(hs:SlL s fs)(h:HN m ws)(hf:fs.length=ws.length)(k:∀es,JC m ws fs bs es->Q (.val (oh es)) [.val a_ (bC m ws),s,Bc bs]):(run Γ w (n+3) 5 [.val a_ (bC m ws),s,Bc bs]).sat Q:=by
 have hn:=h.len;have m0:=h.m0;have m1:=h.m1;refine bh (d:=f5) rfl rfl (by decide) ?_;refine eZ (λρ=>ρ=[.val a_ (bC m ws),s,Bc bs,.val a_ (.lst ((rD (j4 ws fs m.toNat (jb ws.length))).map D.lst)),.aM,.aM,.aM,.aM,.aM,.aM,.aM]) ?_ ?_;.have ax:=hs;rcases hs with rfl|⟨b,rfl⟩;all_goals simp[f5,Bc];refine M6 (by first|exact .inl rfl|exact .inr ⟨_,rfl⟩) h hf ?_;simp
 rintro _ rfl;generalize hA:((rD (j4 ws fs m.toNat (jb ws.length))).map D.lst)=A;have ay:bs.length<=6:=by
  have:=six m1 I λp hp=>by obtain⟨⟨a,b⟩,h1,rfl⟩:=df.mp hp;exact hb a b h1
  simpa using this
 apply ak;simp;apply ak;simp[Bc];refine bO (JC0 (.val a_ (bC m ws)) s (Bc bs) (.val a_ (.lst A)) bs) ?_ ?_ ⟨[],bs,.aM,rfl,rfl,by rw[eJ],rfl⟩;.rintro d r _⟨E,B,s5,rfl,O,hr,hd⟩;cases B with|nil=>cases hr|cons u B=>
     obtain⟨rfl,rfl⟩:d=.int u.1/\r=(B.map (·.1)).map D.int:=by simpa using hr
     have am:(E++[u])++B=bs:=by rw[eF];exact hd
     have hg:=Eg (a:=u.1) (b:=u.2) I (by rw[<-hd];simp);have hk:qZ ((E.map bE).map en) u.1=a_:=kin_no λ⟨l,o,z⟩=>by obtain⟨⟨a,b⟩,h1,e⟩:=df.mp z;cases e;rw[<-hd,ig,lb]at I;exact I.2.2 u.1 (df.mpr ⟨_,h1,rfl⟩) u.1 (by simp) rfl
     have hp:iB ((E.map bE).map en) u.1 (.tup [.int u.2,.int 0,.non])=((E++[u]).map bE).map en:=by rw[ug hk,ig,ig];rfl
     have aE:E.length<=bs.length:=by rw[<-hd];simp
     simp[O];apply ak;rw[eJ]at hp;simp[Bc,hg];refine⟨λ_=>⟨E++[u],B,.val a_ (.int u.1),by rw[hp],rfl,(eJ ..).symm,am⟩,by show _<16777216;omega⟩
 rintro _⟨E,B,s5,rfl,O,hr,hd⟩;have:B=[]:=by cases B with|nil=>rfl|cons _ _=>cases hr
 subst this;rw[e_]at hd;obtain rfl:bs=E:=hd.symm;simp;apply ak;simp[Bc,show bs.length<=16777216 by omega];apply ak;simp;rw[show map (en ∘ bE) bs=(bs.map bE).map en from(eJ ..).symm,show map (D.int ∘ λx=>x.1) bs=(bs.map (·.1)).map D.int from(eJ ..).symm];refine kI (JCw m ws fs bs _ _ _ _) ?_ (k:=w) (m:=50) (by omega) ⟨0,bs.map (·.1),bs.map bE,s5,.aM,.aM,.aM,.aM,rfl,⟨O,rfl,rfl,rfl⟩,.inl rfl,Wh.start hb h0 I,by omega⟩;rintro M _⟨Z,R,es,s5,s7,s8,s9,uM,rfl,⟨O,U,W,C⟩,h7,hW,hM⟩;by_cases hR:R=[];.subst hR;simp;apply ak;simp;have:=k es hW.fin;simp[lx,en];exact this
 . have ap:0<R.length:=by cases R with|nil=>exact absurd rfl hR|cons _ _=>simp
   simp[ap];refine eZ (λρ=>ρ=[.val a_ (bC m ws),s,Bc bs,.val a_ (.lst A),.cY (es.map en),s5,.own a_ (R.map D.int),.cY [],s8,s9,uM]) ?_ ?_
   . rcases h7 with rfl|⟨d,rfl⟩;.simp[Bc]
     .simp[Bc]
   rintro _ rfl;(first|apply ak|apply Hx);simp;refine bO (JC1 m ws fs bs _ _ _ _ _ Z R es) ?_ ?_ ⟨es,[],[],R,s5,s8,s9,uM,rfl,⟨O,U,W,C⟩,rfl,rfl,hW.to.imp λs hs=>by obtain⟨q,hq,_⟩:=hs;cases hq⟩;.rintro d r _⟨f,ch,pre,qs,s5,s8,s9,uM,rfl,⟨O,U,W,C⟩,hr,J,t⟩;cases qs with|nil=>cases hr|cons p qs=>
       obtain⟨rfl,rfl⟩:d=.int p/\r=qs.map D.int:=by simpa using hr
       have af:p∈R:=by rw[<-J];simp
       have ar:0<=p/\p<m:=by obtain⟨l,o,ho⟩:=t.row af;exact t.cm.inm _ _ _ ho
       have Y:=U4 (ws:=ws) (fs:=fs) (l:=jb ws.length) ar;rw[hA]at Y;simp[O];apply ak;simp[Y];refine bO (JC2 m ws fs bs _ _ _ _ _ Z R es pre p) ?_ ?_ ⟨f,ch,[],_,s8,s9,uM,rfl,⟨U,W,C⟩,rfl,rfl,t.imp λs hs=>by rcases hs with hs|hs;exact hs;cases hs⟩;.rintro d r _⟨f,ch,E,B,s8,s9,uM,rfl,⟨U,W,C⟩,hr,L,t⟩;cases B with|nil=>cases hr|cons u B=>
           obtain⟨rfl,rfl⟩:d=sD u/\r=B.map sD:=by simpa using hr
           have hu:lH ws fs p u=bT:=by
            have:u∈(jb ws.length).filter (lH ws fs p):=by rw[<-L];simp
            exact(kK.mp this).2
           obtain⟨v,g,e1,e2,e3,e4⟩:=sV hu;have ag:(E++[u])++B=(jb ws.length).filter (lH ws fs p):=by rw[eF];exact L
           obtain⟨H,op,ac⟩:=t.row af;subst e3;have gp:=rR t.cm.nd ac;have aw:=t.cm.len m1;have av:ch.length<=6:=six m1 t.nc λq hq=>by obtain⟨l,o,z⟩:=t.chg q hq;exact t.cm.inm _ _ _ z
           have ah:∀s,((∃q∈pre,lH ws fs q s=bT)\/s∈E++[u])->((∃q∈pre,lH ws fs q s=bT)\/s∈E)\/s=u:=λs hs=>by
            rcases hs with hs|hs;.exact .inl (.inl hs)
            . rcases eM.mp hs with hs|hs;.exact .inl (.inr hs)
              .exact .inr (by simpa using hs)
           simp[U];apply ak;simp[sD];refine mW e1 ?_;simp[W];apply ak;simp[gp,Ff];refine vg e1 ?_;simp[gp,Ff,C];apply ak;have keep:At f (too v u.2) (op.2+hsp v u.2) (H+1)->JC2 m ws fs bs (.val a_ (bC m ws)) s (Bc bs) (.val a_ (.lst A)) (.lent (R.map D.int)) Z R es pre (frm v u.2) (B.map sD) [.val a_ (bC m ws),s,Bc bs,.val a_ (.lst A),.cY (f.map en),.val a_ (.int (frm v u.2)),.lent (R.map D.int),.cY (ch.map Bv),.val a_ (gK u.1 u.2),.val a_ (.int (too v u.2)),.val a_ (.tup [.int (op.2+hsp v u.2),.int ((H:Int)+1)])]:=λG=>⟨f,ch,E++[u],B,_,_,_,rfl,⟨rfl,rfl,rfl⟩,rfl,ag,(t.keep e1 ac G).imp ah⟩;have ai:¬ At f (too v u.2) (op.2+hsp v u.2) (H+1)->JC2 m ws fs bs (.val a_ (bC m ws)) s (Bc bs) (.val a_ (.lst A)) (.lent (R.map D.int)) Z R es pre (frm v u.2) (B.map sD) [.val a_ (bC m ws),s,Bc bs,.val a_ (.lst A),.cY ((qD f (too v u.2) (H+1,(a7 u,op.2+hsp v u.2))).map en),.val a_ (.int (frm v u.2)),.lent (R.map D.int),.cY ((uf ch (too v u.2)).map Bv),.val a_ (gK u.1 u.2),.val a_ (.int (too v u.2)),.val a_ (.tup [.int (op.2+hsp v u.2),.int ((H:Int)+1)])]:=λG=>⟨_,_,E++[u],B,_,_,_,rfl,⟨rfl,rfl,rfl⟩,rfl,ag,(t.put h hF hb hZ e1 ac hu G).imp ah⟩;have p1:iB (f.map en) (too v u.2) (.tup [.int (op.2+hsp v u.2),.int ((H:Int)+1),gK u.1 u.2])=(qD f (too v u.2) (H+1,(a7 u,op.2+hsp v u.2))).map en:=by rw[<-Ri];simp[Ff,oS,sD]
           have p2:iB (ch.map Bv) (too v u.2) (.bl bT)=(uf ch (too v u.2)).map Bv:=Qd;by_cases hq:∃l o,(too v u.2,l,o)∈f
           . obtain⟨l,o,X⟩:=hq;have gt:=rR t.cm.nd X;have kt:qZ (f.map en) (too v u.2)=bT:=BX.mpr ⟨l,o,X⟩;have ae:=lex_lt (a:=op.2+hsp v u.2) (i:=H+1) (b:=o.2) (j:=l);rw[show((H+1:Nat):Int)=(H:Int)+1 by omega]at ae;simp[kt,gt,Ff,Xh];refine⟨λz=>?_,λz=>?_⟩
             . have G:¬ At f (too v u.2) (op.2+hsp v u.2) (H+1):=λ⟨l2,o2,y1,y2⟩=>by obtain⟨rfl,rfl⟩:=j7 t.cm.nd X y1;exact ae.mp z y2
               (first|apply ak|apply Hx);simp[p1];refine⟨by decide,λ_=>?_,by show _<16777216;omega⟩;(first|apply ak|apply Hx);simp[p2];refine⟨λ_=>ai G,by show _<16777216;omega⟩
             . have G:At f (too v u.2) (op.2+hsp v u.2) (H+1):=by
                refine⟨l,o,X,?_⟩;by_cases y:Le o.2 l (op.2+hsp v u.2) (H+1);.exact y
                .rw[ae.mpr y]at z;cases z
               exact keep G
           .have kt:qZ (f.map en) (too v u.2)=a_:=kin_no hq;simp[kt];apply ak;simp[p1];refine⟨by decide,λ_=>?_,by show _<16777216;omega⟩;(first|apply ak|apply Hx);simp[p2];exact⟨λ_=>ai λ⟨l2,o2,y1,_⟩=>hq ⟨l2,o2,y1⟩,by show _<16777216;omega⟩
       . rintro _⟨f,ch,E,B,s8,s9,uM,rfl,⟨U,W,C⟩,hr,L,t⟩;have:B=[]:=by cases B with|nil=>rfl|cons _ _=>cases hr
         subst this;rw[e_]at L;simp;refine⟨f,ch,pre++[p],qs,_,_,_,_,rfl,⟨rfl,U,W,C⟩,rfl,by rw[eF];exact J,t.imp λs hs=>?_⟩;obtain⟨q,hq,hs⟩:=hs;rcases eM.mp hq with hq|hq;.exact .inl ⟨q,hq,hs⟩
         . obtain rfl:q=p:=by simpa using hq
           refine .inr ?_;rw[L];obtain⟨v,g,e1,_⟩:=sV hs;exact kK.mpr ⟨yP (fu e1).1,hs⟩
   . rintro _⟨f,ch,pre,qs,s5,s8,s9,uM,rfl,⟨O,U,W,C⟩,hr,J,t⟩;have:qs=[]:=by cases qs with|nil=>rfl|cons _ _=>cases hr
     subst this;rw[e_]at J;subst J;have av:ch.length<=6:=six m1 t.nc λq hq=>by obtain⟨l,o,z⟩:=t.chg q hq;exact t.cm.inm _ _ _ z
     have hO:=t.out';have aI:Z<6:=by
      by_cases c:6<=Z;.exact absurd (hW.few c) hR
      .omega
     simp;apply ak;simp[show ch.length<=16777216 by omega];exact⟨M-1,by omega,Z+1,ch,f,_,_,_,_,_,rfl,⟨O,U,W,C⟩,.inr ⟨_,rfl⟩,hO,by omega⟩
theorem zZ{s:Sl}{fs:List Int}(t:100<=w)(f:Pt ws fs F)(hs:SlL s fs)(h:HN m ws)(u:fs.length=ws.length)(k:∀es,jP m ws fs es->Q (.val (oh es)) [.val a_ (bC m ws),s,bg]):(run Γ w (n+3) 5 [.val a_ (bC m ws),s,bg]).sat Q:=by
 have m0:=h.m0;have one:∀{a b:Int},(a,b)∈[((0:Int),(0:Int))]->a=0/\b=0:=λe=>by have:=dy.mp e;cases this;exact⟨rfl,rfl⟩
 refine Ia t f (λa b e=>by obtain⟨rfl,rfl⟩:=one e;omega) (by simp) (by simp) (λa b c e y ho=>?_) hs h u k;obtain⟨rfl,rfl⟩:=one e;have:=oZ f y ho;omega
theorem jP.all{m:Int}{ws:List Wy}{fs:List Int}{es:List En}(h:jP m ws fs es){b:Int}:∀{c:List aq}{a:Int}{l:Nat}{o:Option aq×Int},jK ws b c a->vM ws fs c->(a,l,o)∈es->At es b (o.2+bU ws c) (l+c.length)|[],a,l,o,f,_,z=>by have:a=b:=f;subst this;exact⟨l,o,z,by unfold Le bU;simp⟩|s::c,a,l,o,⟨v,e,y,f⟩,ho,z=>by subst y;obtain⟨I,t,A⟩:=ho s (by simp);rw[e]at t;cases t;obtain⟨J,L,B,M⟩:=h.cl l o s v e z A;obtain⟨l2,C,E,G⟩:=jP.all h f (λu H=>ho u (dS _ H)) B;refine⟨l2,C,E,G.trans ?_⟩;rw[bU,iZ e,dV];unfold Le at*;omega
theorem jP.l5{fs:List Int}(h:jP m ws fs es)(f:HN m ws)(t:Pt ws fs F)(z:(p,l,o)∈es):l<=5:=by
 have m0:=f.m0;obtain⟨a,b,c,e,c1,c2,c3,c4⟩:=h.cm.wk p l o z;obtain⟨rfl,rfl⟩:a=0/\b=0:=by have:=dy.mp e;cases this;exact⟨rfl,rfl⟩
 obtain⟨E,u,y,G,A,_⟩:=short f t ⟨by omega,by omega⟩ _ (dU) c1 c2;obtain⟨l2,H,B,C⟩:=h.all u y h.cm.z;obtain⟨rfl,rfl⟩:=j7 h.cm.nd z B;rw[Int.zero_add]at c4;rw[c3,c4]at A;unfold Le at*;simp only at C;omega
theorem jP.on{fs:List Int}(h:jP m ws fs es)(z:(p,l,o)∈es):(o=(none,0)/\p=0/\l=0)\/∃(s:aq)(v:Wy)(f:Nat)(e:Option aq×Int),o=(a7 s,e.2+hsp v s.2)/\l=f+1/\ws[s.1]?=a7 v/\too v s.2=p/\lH ws fs (frm v s.2) s=bT/\(frm v s.2,f,e)∈es:=by
 rcases h.cm.stp p l o z with⟨h1,t,rfl⟩|⟨s,v,f,e,h1,u,rfl,y,A,C⟩
 . obtain⟨rfl,_⟩:p=0/\o.2=0:=by have:=dy.mp t;exact⟨congrArg Prod.fst this,congrArg Prod.snd this⟩
   exact .inl ⟨(j7 h.cm.nd z h.cm.z).2,rfl,rfl⟩
 . obtain⟨l2,E,B,G⟩:=h.cl f e s v u A y;obtain⟨rfl,rfl⟩:=j7 h.cm.nd z B;refine .inr ⟨s,v,f,e,?_,?_,u,rfl,y,A⟩;.exact oy.mpr ⟨h1,by show _=e.2+hsp v s.2;unfold Le at*;omega⟩
   .unfold Le at*;omega
structure Su(ws:List Wy)(fs:List Int)(es:List En)(p:Int)(L:Nat)(H:Int)(a:Int)(l:Nat)(h:Int)(c:List aq):Prop where
 N8:jK ws p c a
 j4:vM ws fs c
 nd:(c.map (·.1)).Nodup
 lv:∀s∈c,∀v,ws[s.1]?=a7 v->∃l1 o1 o2,(frm v s.2,l1,o1)∈es/\(too v s.2,l1+1,o2)∈es/\l<=l1
 len:c.length+l=L
 hrs:bU ws c+h=H
theorem nW{f g:Bool}(h:g≠f):frm v g=too v f/\too v g=frm v f:=by cases f<;>cases g<;>first|exact absurd rfl h|exact⟨rfl,rfl⟩
theorem Su.cons{m:Int}{ws:List Wy}{fs:List Int}{es:List En}{p:Int}{L l:Nat}{H x:Int}{c:List aq}{s:aq}{v:Wy}{o G:Option aq×Int}(hc:Cme m ws fs es)(h:Su ws fs es p L H (too v s.2) (l+1) (x+hsp v s.2) c)(e:ws[s.1]?=a7 v)(h1:(too v s.2,l+1,o)∈es)(A:(frm v s.2,l,G)∈es)(ho:lH ws fs (frm v s.2) s=bT):Su ws fs es p L H (frm v s.2) l x (s::c):=by
 refine⟨⟨v,e,rfl,h.N8⟩,λu hu=>?_,?_,λu hu x ex=>?_,by have:=h.len;simp only[dV];omega,by have:=h.hrs;rw[bU,iZ e];omega⟩
 . rcases c_.mp hu with rfl|hu;.exact⟨v,e,ho⟩
   .exact h.j4 u hu
 . rw[de,eH];refine⟨λI=>?_,h.nd⟩;obtain⟨t,ht,J⟩:=df.mp I;obtain⟨B,C,E,f,y,M⟩:=h.lv t ht v (by rw[J];exact e);by_cases z:t.2=s.2;.rw[z]at f;have:=(j7 hc.nd f A).1;omega
   .rw[(nW z).2]at y;have:=(j7 hc.nd y A).1;omega
 . rcases c_.mp hu with rfl|hu;.rw[e]at ex;cases ex;exact⟨l,_,_,A,h1,dU⟩
   .obtain⟨B,C,E,f,y,M⟩:=h.lv u hu x ex;exact⟨B,C,E,f,y,by omega⟩
theorem K6(e:(es.map (·.1)).Nodup)(h:(p,x)∈es):mQ ((es.map (·.1)).zip (es.map Ff)) p=a7 (Ff (p,x)):=by
 have:(es.map (·.1)).zip (es.map Ff)=es.map en:=by rw[List.zip_map'];rfl
 rw[this];exact rR e h
inductive JSt(m:Int)(ws:List Wy)(fs:List Int)(es:List En)(p:Int)(L:Nat)(H:Int)(a0 a1 a2:Sl)(M:Nat)(ρ:List Sl):Prop where|mk(a:Int)(l:Nat)(o:Option aq×Int)(c:List aq)(s5:Sl)(q0:ρ=[a0,a1,a2,.own a_ (c.reverse.map sD),.val a_ (.int a),s5])(q1:fr s5=bT)(q2:(a,l,o)∈es)(q3:Su ws fs es p L H a l o.2 c)(q4:l<=M)
theorem GJ{L:Nat}{fs:List Int}(E:100<=w)(h:jP m ws fs es)(G:L<=5)(A:(p,L,o)∈es)(k:∀c,Su ws fs es p L o.2 0 0 0 c->Q (.val (.tup (c.map sD))) [.val a_ (bC m ws),.val a_ (oh es),.val a_ (.int p)]):(run Γ w (n+2) 6 [.val a_ (bC m ws),.val a_ (oh es),.val a_ (.int p)]).sat Q:=by
 refine bh (d:=f6) rfl rfl (by decide) ?_;(first|apply ak|apply Hx);simp[f6];apply ak;simp;apply ak;simp;refine kI (JSt m ws fs es p L o.2 _ _ _) ?_ (k:=w) (m:=L) (by omega) ⟨p,L,o,[],.aM,rfl,rfl,A,⟨rfl,λs hs=>(by cases hs),by simp,by simp,by simp,by rw[bU];omega⟩,dU⟩;rintro M _⟨a,l,H,c,s5,rfl,B,f,hc,I⟩;have t:=K6 h.cm.nd f;rcases h.on f with⟨rfl,rfl,rfl⟩|⟨s,v,y,C,rfl,rfl,e,rfl,ho,z⟩;.simp[oh,t,Ff,oS];(first|apply ak|apply Hx);simp;exact k c hc
 . simp[oh,t,Ff,oS,sD,gK];(first|apply ak|apply Hx);simp[t,Ff,oS,B];apply ak;have u:c.length<16777216:=by have:=hc.len;omega
   simp[u];apply ak;simp[sD];refine mW e ?_;simp;exact⟨y,by omega,frm v s.2,y,C,s::c,.val a_ (gK s.1 s.2),by simp[oh,sD],rfl,z,hc.cons h.cm e f z ho,dU⟩
noncomputable def sg(x:Int)(f:Bool):Int:=if f then x else-x
noncomputable def kh(x:Int)(fs:List Int)(s:aq):List Int:=fs.set s.1 ((fs[s.1]?.getD 0)+sg x s.2)
noncomputable def aug(x:Int)(fs:List Int)(c:List aq):List Int:=c.foldl (kh x) fs
@[simp]theorem yZ{x:Int}{fs:List Int}{s:aq}:(kh x fs s).length=fs.length:=by simp[kh]
theorem xn{x:Int}:∀{c:List aq}{fs:List Int},(aug x fs c).length=fs.length|[],_=>rfl|s::c,fs=>by show(aug x (kh x fs s) c).length=_;rw[xn,yZ]
theorem qR{x:Int}{j:Nat}:∀{c:List aq}{fs:List Int},j∉c.map (·.1)->(aug x fs c)[j]?=fs[j]?|[],_,_=>rfl|s::c,fs,h=>by rw[de,c_,not_or]at h;show(aug x (kh x fs s) c)[j]?=_;rw[qR h.2];unfold kh;rw[ew (λz=>h.1 z.symm)]
theorem BK{x:Int}:∀{c:List aq}{fs:List Int}{s:aq}{g:Int},(c.map (·.1)).Nodup->s∈c->fs[s.1]?=a7 g->(aug x fs c)[s.1]?=a7 (g+sg x s.2)
 |[],_,_,_,_,h,_=>by cases h|t::c,fs,s,g,f,h,e=>by
   rw[de,eH]at f;show(aug x (kh x fs t) c)[s.1]?=_;have u:=(fu e).1;rcases c_.mp h with rfl|h;.rw[qR f.1];unfold kh;rw[cu u,e];rfl
   .refine BK f.2 h ?_;unfold kh;rw[ew (λz=>f.1 (by rw[z];exact df.mpr ⟨s,h,rfl⟩))];exact e
inductive JWt(x:Int)(fs:List Int)(c:List aq)(a0 a1 a2:Sl)(r:List D)(ρ:List Sl):Prop where|mk(bZ us:List aq)(s4 s5:Sl)(q0:ρ=[a0,a1,a2,.own a_ ((aug x fs bZ).map D.int),s4,s5])(q1:fr s4=bT)(q2:fr s5=bT)(q3:r=us.map sD)(q4:bZ++us=c)
theorem K5{s:Sl}{x:Int}{fs:List Int}(hs:SlL s fs)(hc:∀s∈c,s.1<fs.length)(k:Q (.own ((aug x fs c).map D.int)) [s,.val a_ (.tup (c.map sD)),.val a_ (.int x)]):(run Γ w (n+1) 7 [s,.val a_ (.tup (c.map sD)),.val a_ (.int x)]).sat Q:=by
 refine bh (d:=f7) rfl rfl (by decide) ?_;refine eZ (λρ=>ρ=[s,.val a_ (.tup (c.map sD)),.val a_ (.int x),.own a_ (fs.map D.int),.aM,.aM]) ?_ ?_;.rcases hs with rfl|⟨b,rfl⟩;all_goals simp[f7]
 rintro _ rfl;(first|apply ak|apply Hx);simp;refine bO (JWt x fs c _ _ _) ?_ ?_ ⟨[],c,.aM,.aM,rfl,rfl,rfl,rfl,rfl⟩;.rintro d r _⟨e,h,s4,s5,rfl,z,A,hr,hd⟩;cases h with|nil=>cases hr|cons u h=>
     obtain⟨rfl,rfl⟩:d=sD u/\r=h.map sD:=by simpa using hr
     have C:u.1<(aug x fs e).length:=by rw[xn];exact hc u (by rw[<-hd];simp)
     have y:(aug x fs e)[u.1]?=a7 (aug x fs e)[u.1]:=by simp[C]
     have B:jm (aug x fs e).length (u.1:Int)=a7 u.1:=by unfold jm;rw[if_pos (by omega),if_pos (by omega)];simp
     have he:aug x fs (e++[u])=(aug x fs e).set u.1 ((aug x fs e)[u.1]+sg x u.2):=by unfold aug;rw[List.foldl_append];show kh x (aug x fs e) u=_;unfold kh;rw[y];rfl
     have t:(e++[u])++h=c:=by rw[eF];exact hd
     generalize(aug x fs e)[u.1]=g at*;simp[sD,gK,z,A];apply ak;obtain⟨j,f⟩:=u;cases f with|true=>simp[gP y,B];exact⟨e++[(j,bT)],h,_,_,by rw[he,rb];rfl,rfl,rfl,rfl,t⟩|false=>simp[gP y,B];exact⟨e++[(j,a_)],h,_,_,by rw[he,rb];rfl,rfl,rfl,rfl,t⟩
 . rintro _⟨e,h,s4,s5,rfl,z,A,hr,hd⟩;have:h=[]:=by cases h with|nil=>rfl|cons _ _=>cases hr
   subst this;rw[e_]at hd;subst hd;simp;apply ak;simp;exact k
noncomputable def IV(F:Int->Int)(D:Int):List En->Int->Int|[],p=>F p+D|e::es,p=>if e.1=p then e.2.2.2 else IV F D es p
theorem jB{F:Int->Int}{D p:Int}{l:Nat}{o:Option aq×Int}:∀{es:List En},(es.map (·.1)).Nodup->(p,l,o)∈es->IV F D es p=o.2
 |[],_,h=>by cases h|e::es,f,h=>by
   rw[de,eH]at f;rw[IV];rcases c_.mp h with rfl|h;.rw[if_pos rfl]
   .rw[if_neg (λz=>f.1 (by rw[z];exact df.mpr ⟨_,h,rfl⟩))];exact jB f.2 h
theorem rF{F:Int->Int}{D p:Int}:∀{es:List En},(¬ ∃l o,(p,l,o)∈es)->IV F D es p=F p+D|[],_=>rfl|e::es,h=>by rw[IV,if_neg (λz=>h ⟨e.2.1,e.2.2,by rw[<-z];simp⟩)];exact rF λ⟨l,o,z⟩=>h ⟨l,o,dS _ z⟩
theorem Fq(F:Int->Int):∀(es:List En),∃D,∀p l o,(p,l,o)∈es->o.2<=F p+D
 |[]=>⟨0,λ_ _ _ h=>by cases h⟩|e::es=>by
   obtain⟨D,h⟩:=Fq F es;refine⟨max D (e.2.2.2-F e.1),λp l o z=>?_⟩;rcases c_.mp z with rfl|z;.simp only;omega
   .have:=h p l o z;omega
theorem jP.pt{fs:List Int}{D:Int}(h:jP m ws fs es)(f:Pt ws fs F)(t:∀p l o,(p,l,o)∈es->o.2<=F p+D):Pt ws fs (IV F D es):=λs v e ho=>by
 by_cases c:∃l o,(frm v s.2,l,o)∈es;.obtain⟨l,o,c⟩:=c;obtain⟨l2,u,c2,c3⟩:=h.cl l o s v e c ho;rw[jB h.cm.nd c,jB h.cm.nd c2];unfold Le at c3;omega
 . rw[rF c];have h1:=f s v e ho;by_cases c2:∃l o,(too v s.2,l,o)∈es;.obtain⟨l2,u,c2⟩:=c2;rw[jB h.cm.nd c2];have:=t _ _ _ c2;omega
   .rw[rF c2];omega
theorem J1{fs:List Int}{G:Int->Int}(d:Int)(f:Pt ws fs F)(h:Pt ws fs G):Pt ws fs (λp=>min (F p) (G p+d)):=λs v e ho=>by have h1:=f s v e ho;have t:=h s v e ho;simp only;omega
theorem vV{ws:List Wy}{fs:List Int}{F:Int->Int}(h:Pt ws fs F){b:Int}:∀{c:List aq}{a:Int},jK ws b c a->vM ws fs c->F b=F a+bU ws c->∀s∈c,∀v,ws[s.1]?=a7 v->F (too v s.2)=F (frm v s.2)+hsp v s.2
 |[],_,_,_,_,s,hs,_,_=>by cases hs|s::c,a,⟨v,e,t,y⟩,ho,he,u,hu,x,ex=>by
   have f:vM ws fs c:=λu hu=>ho u (dS _ hu);have h1:=oZ h y f;obtain⟨B,z,o⟩:=ho s (by simp);rw[e]at z;cases z;have A:=h s v e o;rw[t]at A;rw[bU,iZ e]at he;rcases c_.mp hu with rfl|hu;.rw[e]at ex;cases ex;rw[t];omega
   .exact vV h y f (by omega) u hu x ex
theorem tR{fs:List Int}{x:Int}{t:aq}(hc:vM ws fs c)(e:ws[t.1]?=a7 v)(h:lH ws (aug x fs c) (frm v t.2) t=bT):lH ws fs (frm v t.2) t=bT\/∃s∈c,s.1=t.1/\t.2≠s.2:=by
 by_cases z:t.1∈c.map (·.1)
 . obtain⟨s,hs,es⟩:=df.mp z;by_cases q:t.2=s.2;.have:t=s:=oy.mpr ⟨es.symm,q⟩;subst this;obtain⟨u,f,o⟩:=hc t hs;rw[e]at f;cases f;exact .inl o
   .exact .inr ⟨s,hs,es,q⟩
 .refine .inl ?_;unfold lH at h ⊢;rwa[qR z]at h
theorem Pt.aug{ws:List Wy}{fs:List Int}{F:Int->Int}(h:Pt ws fs F){a b x:Int}{c:List aq}(f:jK ws b c a)(ho:vM ws fs c)(he:F b=F a+bU ws c):Pt ws (aug x fs c) F:=λt v e o=>by
 rcases tR ho e o with o|⟨u,y,z,ne⟩;.exact h t v e o
 . have:=vV h f ho he u y v (by rw[z];exact e);rw[(nW ne).1,(nW ne).2];have:hsp v t.2=-hsp v u.2:=by cases h1:t.2<;>cases h2:u.2<;>simp[hsp]<;>(rw[h1,h2]at ne;exact absurd rfl ne)
   omega
noncomputable def dJ(G:Wy->Int):List Wy->List Int->Int|v::ws,g::fs=>G v*g+dJ G ws fs|_,_=>0
noncomputable def uU(H:Wy->Int):List Wy->Int|[]=>0|v::ws=>H v+uU H ws
theorem xT{G H:Wy->Int}:∀{ws:List Wy}{fs:List Int},fs.length=ws.length->(∀(j:Nat)v g,ws[j]?=a7 v->fs[j]?=a7 g->G v*g<=H v)->dJ G ws fs<=uU H ws|[],[],_,_=>fh _|[],_::_,h,_=>by simp at h|_::_,[],h,_=>by simp at h|v::ws,g::fs,h,k=>by have h1:=k 0 v g rfl rfl;have t:=xT (G:=G) (H:=H) (ws:=ws) (fs:=fs) (by simpa using h) λj v g e f=>k (j+1) v g (by simpa using e) (by simpa using f);rw[dJ,uU];omega
theorem xU{G H:Wy->Int}:∀{ws:List Wy}{fs:List Int},fs.length=ws.length->(∀(j:Nat)v g,ws[j]?=a7 v->fs[j]?=a7 g->H v<=G v*g)->uU H ws<=dJ G ws fs|[],[],_,_=>fh _|[],_::_,h,_=>by simp at h|_::_,[],h,_=>by simp at h|v::ws,g::fs,h,k=>by have h1:=k 0 v g rfl rfl;have t:=xU (G:=G) (H:=H) (ws:=ws) (fs:=fs) (by simpa using h) λj v g e f=>k (j+1) v g (by simpa using e) (by simpa using f);rw[dJ,uU];omega
theorem Ed{G:Wy->Int}{v:Wy}{g y:Int}:∀{j:Nat}{ws:List Wy}{fs:List Int},ws[j]?=a7 v->fs[j]?=a7 g->dJ G ws (fs.set j (g+y))=dJ G ws fs+G v*y|_,[],_,e,_=>by simp at e|_,_::_,[],_,e=>by simp at e|0,u::ws,f::fs,h,t=>by simp at h t;subst h t;rw[List.set_cons_zero,dJ,dJ,ng];omega|j+1,u::ws,f::fs,h,t=>by rw[List.set_cons_succ,dJ,dJ,Ed (j:=j) (by simpa using h) (by simpa using t)];omega
noncomputable def gap(k:Int)(q:Int->Int)(v:Wy):Int:=q v.t-q v.s-k*v.h
theorem JT{x:Int}{f:Bool}:gap k q v*sg x f=x*(q (too v f)-q (frm v f)-k*hsp v f):=by cases f with|true=>show(q v.t-q v.s-k*v.h)*x=x*(q v.t-q v.s-k*v.h);exact ic _ _|false=>show(q v.t-q v.s-k*v.h)*(-x)=x*(q v.s-q v.t-k*(-v.h));rw[qV,qV k,show q v.s-q v.t- -(k*v.h)=-(q v.t-q v.s-k*v.h)by omega,qV,ic]
theorem wL{k x:Int}{q:Int->Int}{ws:List Wy}{b:Int}:∀{c:List aq}{fs:List Int}{a:Int},fs.length=ws.length->jK ws b c a->dJ (gap k q) ws (aug x fs c)=dJ (gap k q) ws fs+x*(q b-q a-k*bU ws c)
 |[],fs,a,_,h=>by have:a=b:=h;subst this;show _=_+x*(q a-q a-k*0);simp;rfl|s::c,fs,a,t,⟨v,e,y,z⟩=>by
   show dJ (gap k q) ws (aug x (kh x fs s) c)=_;have f:s.1<fs.length:=by rw[t];exact(fu e).1
   have u:fs[s.1]?=a7 fs[s.1]:=by simp[f]
   rw[wL (by rw[yZ];exact t) z];have:kh x fs s=fs.set s.1 (fs[s.1]+sg x s.2):=by unfold kh;rw[u];rfl
   rw[this,Ed e u,JT,y,Int.add_assoc,<-ng,bU,iZ e,ng k];congr 2;omega
structure Ai(ws:List Wy)(fs:List Int):Prop where
 len:fs.length=ws.length
 ok:∀(j:Nat)v g,ws[j]?=a7 v->fs[j]?=a7 g->0<=g/\g<=v.r
theorem Ai.aug{ws:List Wy}{fs:List Int}{c:List aq}{x:Int}(h:Ai ws fs)(A:(c.map (·.1)).Nodup)(B:0<x)(hc:∀s∈c,∃v g,ws[s.1]?=a7 v/\fs[s.1]?=a7 g/\x<=qx v g s.2):Ai ws (aug x fs c):=by
 refine⟨by rw[xn];exact h.len,λj v g f e=>?_⟩;by_cases z:j∈c.map (·.1);.obtain⟨s,hs,rfl⟩:=df.mp z;obtain⟨C,g',t,u,y⟩:=hc s hs;rw[f]at t;cases t;rw[BK A hs u]at e;cases e;have:=h.ok _ _ _ f u;cases hf:s.2<;>rw[hf]at y<;>simp[qx,sg]at y ⊢<;>omega
 .rw[qR z]at e;exact h.ok _ _ _ f e
noncomputable def JN(q:Int->Int)(v:Wy):Int:=v.r*max 0 (q v.t-q v.s-v.h)
noncomputable def O8(q:Int->Int)(ws:List Wy):Int:=uU (JN q) ws
theorem abC:gap 1 q v=q v.t-q v.s-v.h:=by unfold gap;omega
theorem xr{fs:List Int}(h:Ai ws fs):dJ (gap 1 q) ws fs<=O8 q ws:=xT h.len λj v g e f=>by
 have:=h.ok _ _ _ e f;rw[abC];unfold JN;generalize q v.t-q v.s-v.h=y;by_cases c:0<=y;.rw[Int.max_eq_right c,ic];exact i6 this.2 c
 .rw[Int.max_eq_left (by omega),m4];exact Int.mul_nonpos_of_nonpos_of_nonneg (by omega) this.1
theorem Pn{fs:List Int}(h:Ai ws fs)(u:Pt ws fs q):O8 q ws=dJ (gap 1 q) ws fs:=by
 refine Int.le_antisymm (xU h.len λj v g e f=>?_) (xr h);have C:=h.ok _ _ _ e f;have B:0<v.r-g->q v.t<=q v.s+v.h:=λz=>u (j,bT) v e (by rw[mL (s:=(j,bT)) e f];simp[frm,qx];omega);have A:0<g->q v.s<=q v.t+-v.h:=λz=>u (j,a_) v e (by rw[mL (s:=(j,a_)) e f];simp[frm,qx];omega);rw[abC];unfold JN;generalize E:q v.t-q v.s-v.h=y;by_cases c:g=v.r
 . subst c;by_cases c0:0<v.r;.have:=A c0;rw[Int.max_eq_right (by omega),ic];exact fh _
   . have:v.r=0:=by omega
     rw[this];simp
 . have:=B (by omega);rw[Int.max_eq_left (by omega),m4];by_cases c0:0<g;.have:=A c0;rw[show y=0 by omega];simp
   .rw[show g=0 by omega];simp
noncomputable def tE(fs:List Int)(x:List aq×Int):List Int:=aug x.2 fs x.1
noncomputable def flow(N:Nat)(cs:List (List aq×Int)):List Int:=cs.foldl tE (cp N 0)
theorem yV{x:List aq×Int}:flow N (cs++[x])=aug x.2 (flow N cs) x.1:=by unfold flow;rw[List.foldl_append];rfl
noncomputable def bQ(H:List aq×Int->Int):List (List aq×Int)->Int|[]=>0|x::cs=>H x+bQ H cs
theorem kj{H:List aq×Int->Int}{x:List aq×Int}:∀{cs:List (List aq×Int)},bQ H (cs++[x])=bQ H cs+H x|[]=>by simp[bQ]|y::cs=>by rw[iN,bQ,bQ,kj];omega
theorem nJ{H K:List aq×Int->Int}:∀{cs:List (List aq×Int)},(∀x∈cs,H x=K x)->bQ H cs=bQ K cs|[],_=>rfl|x::cs,h=>by rw[bQ,bQ,h x (by simp),nJ λy e=>h y (by simp[e])]
theorem Nm{H:List aq×Int->Int}:∀{cs:List (List aq×Int)},(∀x∈cs,1<=H x)->(cs.length:Int)<=bQ H cs|[],_=>by simp[bQ]|x::cs,h=>by have h1:=h x (by simp);have f:=Nm (H:=H) (cs:=cs) λy e=>h y (by simp[e]);rw[bQ,dV];omega
noncomputable def aa4(ws:List Wy)(T:Int)(x:List aq×Int):Int:=if bU ws x.1<=T then x.2*(T-bU ws x.1+1)else 0
noncomputable def val(ws:List Wy)(T:Int)(cs:List (List aq×Int)):Int:=bQ (aa4 ws T) cs
structure qe(m:Int)(ws:List Wy)(T v:Int):Prop where
 ex:∃q:Int->Int,q 0=0/\q (m-1)=T+1/\O8 q ws=v
 le:∀q:Int->Int,q 0=0->q (m-1)=T+1->v<=O8 q ws
theorem zA{T:Int}{fs:List Int}{G:Int->Int}(fit:Ai ws fs)(dt:∀k q,dJ (gap k q) ws fs=bQ (λx=>x.2*(q (m-1)-q 0-k*bU ws x.1)) cs)(y:∀x∈cs,bU ws x.1<=T+1)(z:Pt ws fs G)(h:G 0=0)(t:G (m-1)=T+1):qe m ws T (val ws T cs):=by
 have u:∀q:Int->Int,q 0=0->q (m-1)=T+1->dJ (gap 1 q) ws fs=val ws T cs:=λq e f=>by
  rw[dt,e,f];refine nJ λx A=>?_;have:=y x A;unfold aa4;split;.congr 1;omega
  .rw[show T+1-0-1*bU ws x.1=0 by omega,m4]
 exact⟨⟨G,h,t,by rw[Pn fit z,u G h t]⟩,λq e f=>by rw[<-u q e f];exact xr fit⟩
structure Ay(m:Int)(ws:List Wy)(cs:List (List aq×Int))(fs:List Int)(F:Int->Int)(d:Int):Prop where
 fit:Ai ws fs
 pt:Pt ws fs F
 z:F 0=0
 e:F (m-1)=d
 d0:0<=d
 nn:(∀v∈ws,1<=v.h)->1<=d/\∀x∈cs,1<=bU ws x.1
 ch:∀x∈cs,bU ws x.1<=d/\0<x.2/\∀s∈x.1,s.1<ws.length
 dt:∀k q,dJ (gap k q) ws fs=bQ (λx=>x.2*(q (m-1)-q 0-k*bU ws x.1)) cs
 lst:∀T,0<=T->T+1<=d->qe m ws T (val ws T cs)
theorem zy{G:Wy->Int}:∀{ws:List Wy}{n:Nat},dJ G ws (cp n 0)=0|[],n=>by unfold dJ;rfl|v::ws,0=>rfl|v::ws,n+1=>by rw[fj,dJ,zy];simp
theorem Bw(h:(cp n (0:Int))[j]?=a7 g):g=0:=(List.mem_replicate.mp (dQ h)).2
noncomputable def F01(b p:Int):Int:=if p=0 then 0 else b
theorem Ay.zero(m0:2<=m)(y:∀v∈ws,0<=v.h)(hr:∀v∈ws,0<=v.r):∃b,Ay m ws [] (cp ws.length 0) (F01 b) b:=by
 have fit:Ai ws (cp ws.length 0):=⟨by simp,λj v g f t=>by rw[Bw t];exact⟨fh _,hr v (dQ f)⟩⟩;have pt:∀b:Int,0<=b->(∀v∈ws,b<=v.h)->Pt ws (cp ws.length 0) (F01 b):=λb b0 A s v e ho=>by obtain⟨C,g,f,t,_,u⟩:=sV ho;rw[e]at f;cases f;have:=Bw t;subst this;have:=A v (dQ e);cases hf:s.2<;>rw[hf]at u<;>simp[qx,hsp,F01]at u ⊢;split<;>split<;>omega
 have dt:∀k q,dJ (gap k q) ws (cp ws.length 0)=bQ (λx=>x.2*(q (m-1)-q 0-k*bU ws x.1)) []:=λk q=>by rw[zy];rfl
 have f:∀b,F01 b (m-1)=b:=λb=>by unfold F01;rw[if_neg (by omega)]
 by_cases c:∀v∈ws,1<=v.h;.exact⟨1,fit,pt 1 (by omega) c,rfl,f 1,by omega,λ_=>⟨fh _,by simp⟩,by simp,dt,λT h1 B=>zA fit dt (by simp) (pt 1 (by omega) c) rfl (by rw[f];omega)⟩
 .exact⟨0,fit,pt 0 (by omega) y,rfl,f 0,by omega,λz=>absurd z c,by simp,dt,λT h1 B=>by omega⟩
theorem Ay.at{d T:Int}{fs:List Int}{G:Int->Int}(h:Ay m ws cs fs F d)(e:d<=T+1)(f:Pt ws fs G)(t:G 0=0)(u:G (m-1)=T+1):qe m ws T (val ws T cs):=zA h.fit h.dt (λx y=>Int.le_trans (h.ch x y).1 e) f t u
theorem Ay.more{d:Int}{fs:List Int}{x:Int}(h:Ay m ws cs fs F d)(f:jP m ws fs es)(t:(m-1,l,o)∈es)(hc:Su ws fs es (m-1) l o.2 0 0 0 c)(u:0<x)(hr:∀s∈c,∃v g,ws[s.1]?=a7 v/\fs[s.1]?=a7 g/\x<=qx v g s.2):∃E,Ay m ws (cs++[(c,x)]) (aug x fs c) E o.2:=by
 obtain⟨D,G⟩:=Fq F es;have A:=f.pt h.pt G;have I:bU ws c=o.2:=by have:=hc.hrs;omega
 have B:IV F D es 0=0:=jB f.cm.nd f.cm.z;have C:IV F D es (m-1)=o.2:=jB f.cm.nd t;have hd:d<=o.2:=by have:=oZ h.pt hc.N8 hc.j4;rw[h.e,h.z]at this;omega
 refine⟨IV F D es,h.fit.aug hc.nd u hr,A.aug hc.N8 hc.j4 (by rw[B,C];omega),B,C,by have:=h.d0;omega,λz=>⟨by have:=(h.nn z).1;omega,λy hy=>?_⟩,λy hy=>?_,λk q=>?_,λT h0 h1=>?_⟩
 . rcases eM.mp hy with hy|hy;.exact(h.nn z).2 y hy
   .rw[dy.mp hy];show 1<=bU ws c;have:=(h.nn z).1;omega
 . rcases eM.mp hy with hy|hy;.have:=h.ch y hy;exact⟨by omega,this.2⟩
   .rw[dy.mp hy];refine⟨by show bU ws c<=_;omega,u,λs hs=>?_⟩;obtain⟨v,g,e,_⟩:=hr s hs;exact(fu e).1
 .rw[wL h.fit.len hc.N8,kj,h.dt]
 . have H:val ws T (cs++[(c,x)])=val ws T cs:=by unfold val;rw[kj];show _+(if bU ws c<=T then _ else 0)=_;rw[if_neg (by omega)];omega
   rw[H];by_cases q:T+1<=d;.exact h.lst T h0 q
   . refine h.at (by omega) (J1 (T+1-d) A h.pt) ?_ ?_;.have:=h.z;omega
     .have:=h.e;omega
theorem Ay.least{d T:Int}{fs:List Int}(h:Ay m ws cs fs F d)(f:jP m ws fs es)(t:¬ ∃l o,(m-1,l,o)∈es)(h0:0<=T):qe m ws T (val ws T cs):=by
 by_cases q:T+1<=d;.exact h.lst T h0 q
 . obtain⟨D,u⟩:=Fq F es;have y:=f.pt (D:=max D (T+1-d)) h.pt λp l o z=>by have:=u p l o z;omega
   have A:IV F (max D (T+1-d)) es 0=0:=jB f.cm.nd f.cm.z;have B:IV F (max D (T+1-d)) es (m-1)=F (m-1)+max D (T+1-d):=rF t;refine h.at (by omega) (J1 (T+1-d) y h.pt) ?_ ?_;.have:=h.z;omega
   .have:=h.e;omega
noncomputable def Iz(v:Wy)(f:Bool):Int:=7*hsp v f+1
noncomputable def Ss(ws:List Wy)(fs:List Int)(P:Int->Int):Prop:=∀(s:aq)(v:Wy),ws[s.1]?=a7 v->lH ws fs (frm v s.2) s=bT->P (too v s.2)<=P (frm v s.2)+Iz v s.2
noncomputable def Bb(ws:List Wy)(c:List aq):Int:=7*bU ws c+c.length
theorem tu(e:ws[s.1]?=a7 v):Bb ws (s::c)=Iz v s.2+Bb ws c:=by unfold Bb Iz;rw[bU,iZ e,dV];omega
theorem Df{ws:List Wy}{fs:List Int}{P:Int->Int}(h:Ss ws fs P){b:Int}:∀{c:List aq}{a:Int},jK ws b c a->vM ws fs c->P b<=P a+Bb ws c|[],a,f,_=>by have:a=b:=f;rw[this];simp[Bb,bU]|s::c,a,⟨v,e,y,f⟩,ho=>by have h1:=Df h f λu z=>ho u (dS _ z);obtain⟨B,t,o⟩:=ho s (by simp);rw[e]at t;cases t;have A:=h s v e o;rw[y]at A;rw[tu e];omega
theorem vA{ws:List Wy}{fs:List Int}{P:Int->Int}(h:Ss ws fs P){b:Int}:∀{c:List aq}{a:Int},jK ws b c a->vM ws fs c->P b=P a+Bb ws c->∀s∈c,∀v,ws[s.1]?=a7 v->P (too v s.2)=P (frm v s.2)+Iz v s.2
 |[],_,_,_,_,s,hs,_,_=>by cases hs|s::c,a,⟨v,e,t,y⟩,ho,he,u,hu,x,ex=>by
   have f:vM ws fs c:=λu hu=>ho u (dS _ hu);have h1:=Df h y f;obtain⟨B,z,o⟩:=ho s (by simp);rw[e]at z;cases z;have A:=h s v e o;rw[t]at A;rw[tu e]at he;rcases c_.mp hu with rfl|hu;.rw[e]at ex;cases ex;rw[t];omega
   .exact vA h y f (by omega) u hu x ex
noncomputable def tgt(ws:List Wy)(fs:List Int)(P:Int->Int)(s:aq):Bool:=match ws[s.1]?with|some v=>lH ws fs (frm v s.2) s&&decide (P (too v s.2)=P (frm v s.2)+Iz v s.2)|none=>a_
theorem Kw{fs:List Int}{P:Int->Int}(e:ws[s.1]?=a7 v):tgt ws fs P s=(lH ws fs (frm v s.2) s&&decide (P (too v s.2)=P (frm v s.2)+Iz v s.2)):=by unfold tgt;rw[e]
noncomputable def Mz(ws:List Wy)(fs:List Int)(P:Int->Int):Nat:=((jb ws.length).filter (tgt ws fs P)).length
theorem Ej{fs:List Int}{P:Int->Int}(h:ws.length<=12):Mz ws fs P<=24:=by have:=pE (tgt ws fs P) (jb ws.length);rw[yX]at this;unfold Mz;omega
theorem Lq{p q:aq->Bool}(h:∀t,q t=bT->p t=bT):∀(l:List aq),(l.filter q).length<=(l.filter p).length|[]=>dU|t::l=>by have e:=Lq h l;cases hq:q t with|true=>simp[hq,h t hq,e]|false=>cases hp:p t with|true=>simp[hq,hp];omega|false=>simp[hq,hp,e]
theorem Jj{p q:aq->Bool}{s:aq}(h:∀t,q t=bT->p t=bT)(e:p s=bT)(f:q s=a_):∀{l:List aq},s∈l->(l.filter q).length<(l.filter p).length
 |[],hs=>by cases hs|t::l,hs=>by
   have le:=Lq h l;rcases c_.mp hs with rfl|hs;.simp[e,f];omega
   .have u:=Jj h e f hs;cases hq2:q t with|true=>simp[hq2,h t hq2,u]|false=>cases hp2:p t with|true=>simp[hq2,hp2];omega|false=>simp[hq2,hp2,u]
theorem JL{fs:List Int}(f:(c.map (·.1)).Nodup)(hs:s∈c)(e:ws[s.1]?=a7 v)(h:fs[s.1]?=a7 g):lH ws (aug (qx v g s.2) fs c) p s=a_:=by
 rw[mL e (BK f hs h)];have:qx v (g+sg (qx v g s.2) s.2) s.2=0:=by cases s.2<;>simp[qx,sg]<;>omega
 rw[this];simp
theorem Ss.aug{ws:List Wy}{fs:List Int}{P:Int->Int}(h:Ss ws fs P){a b:Int}{c:List aq}{s:aq}{v:Wy}{g:Int}(C:jK ws b c a)(ho:vM ws fs c)(E:(c.map (·.1)).Nodup)(he:P b=P a+Bb ws c)(hs:s∈c)(e:ws[s.1]?=a7 v)(G:fs[s.1]?=a7 g):Ss ws (aug (qx v g s.2) fs c) P/\Mz ws (aug (qx v g s.2) fs c) P<Mz ws fs P:=by
 have z:=vA h C ho he;have back:∀(t u:aq)(x:Wy),u∈c->u.1=t.1->t.2≠u.2->ws[t.1]?=a7 x->P (too x t.2)<P (frm x t.2)+Iz x t.2:=λt u x f y ne ex=>by
  have h1:=z u f x (by rw[y];exact ex);rw[(nW ne).1,(nW ne).2];have A:hsp x t.2=-hsp x u.2:=by cases h1:t.2<;>cases A:u.2<;>simp[hsp]<;>(rw[h1,A]at ne;exact absurd rfl ne)
  unfold Iz at*;omega
 refine⟨λt x ex o=>?_,?_⟩
 . rcases tR ho ex o with o|⟨u,f,y,ne⟩;.exact h t x ex o
   .have:=back t u x f y ne ex;omega
 . obtain⟨H,B,o⟩:=ho s hs;rw[e]at B;cases B;refine Jj (s:=s) (λt ht=>?_) (by rw[Kw e,o,z s hs v e];simp) (by rw[Kw e,JL E hs e G];rfl) (yP (fu e).1);unfold tgt at ht ⊢;split at ht
   . rename_i x ex;simp only[fk,decide_eq_true_eq]at ht ⊢;refine⟨?_,ht.2⟩;rcases tR ho ex ht.1 with o|⟨u,f,y,ne⟩;.exact o
     .have:=back t u x f y ne ex;omega
   .cases ht
noncomputable abbrev Sd:=List (Option Bool)
noncomputable def mj:List Wy->Sd->Int|v::ws,a7 f::es=>Iz v f+mj ws es|_::ws,none::es=>mj ws es|_,_=>0
noncomputable def Hc(N:Nat):List aq->Sd|[]=>cp N none|s::c=>(Hc N c).set s.1 (a7 s.2)
theorem wK{N:Nat}:∀{c:List aq},(Hc N c).length=N|[]=>by simp[Hc]|s::c=>by rw[Hc,oU,wK]
theorem Gg{N j:Nat}:∀{c:List aq},j<N->j∉c.map (·.1)->(Hc N c)[j]?=a7 none|[],h,_=>by simp[Hc,h]|s::c,h,e=>by rw[de,c_,not_or]at e;rw[Hc,ew (λz=>e.1 z.symm)];exact Gg h e.2
theorem zF{v:Wy}{f:Bool}:∀{j:Nat}{ws:List Wy}{es:Sd},ws[j]?=a7 v->es[j]?=a7 none->mj ws (es.set j (a7 f))=mj ws es+Iz v f|_,[],_,e,_=>by simp at e|_,_::_,[],_,e=>by simp at e|0,u::ws,x::es,h,t=>by simp at h t;subst h t;rw[List.set_cons_zero,mj,mj];omega|j+1,u::ws,x::es,h,t=>by have y:=zF (f:=f) (j:=j) (ws:=ws) (es:=es) (by simpa using h) (by simpa using t);rw[List.set_cons_succ];cases x with|none=>rw[mj,mj,y]|some g=>rw[mj,mj,y];omega
theorem v7:∀{ws:List Wy}{n:Nat},mj ws (cp n none)=0|[],n=>by unfold mj;rfl|v::ws,0=>rfl|v::ws,n+1=>by rw[fj,mj,v7]
theorem xZ{ws:List Wy}{b:Int}:∀{c:List aq}{a:Int},jK ws b c a->(c.map (·.1)).Nodup->mj ws (Hc ws.length c)=Bb ws c|[],_,_,_=>by rw[Hc,v7];simp[Bb,bU]|s::c,a,⟨v,e,_,h⟩,f=>by rw[de,eH]at f;rw[Hc,zF e (Gg (fu e).1 f.1),xZ h f.2,tu e];omega
noncomputable def uW:Nat->List Sd|0=>[[]]|n+1=>(uW n).map (none::·)++((uW n).map (a7 bT::·)++(uW n).map (a7 a_::·))
theorem rW:∀{n:Nat},(uW n).length=3^n|0=>rfl|n+1=>by rw[uW,ei,ei,ef,ef,ef,rW,Nat.pow_succ];omega
theorem sS:∀{e:Sd},e∈uW e.length|[]=>by simp[uW]|x::e=>by have h:=sS (e:=e);rw[dV,uW,eM,eM];cases x with|none=>exact .inl (df.mpr ⟨e,h,rfl⟩)|some f=>cases f with|true=>exact .inr (.inl (df.mpr ⟨e,h,rfl⟩))|false=>exact .inr (.inr (df.mpr ⟨e,h,rfl⟩))
structure Q4(m:Int)(ws:List Wy)(k:Nat)(fs:List Int)(P:Int->Int)(lam:Int)(seen:List Sd):Prop where
 pt:Ss ws fs P
 z:P 0=0
 e:P (m-1)=lam
 nd:seen.Nodup
 sl:∀e∈seen,e.length=ws.length/\mj ws e<=lam
 cnt:k+Mz ws fs P<=25*(seen.length+1)
theorem Q4.few{f:Int}{k:Nat}{fs:List Int}{P:Int->Int}{seen:List Sd}(h:Q4 m ws k fs P f seen)(t:ws.length<=12):k<=13286050:=by
 have h1:=m6 (l2:=uW ws.length) h.nd λe he=>by rw[<-(h.sl e he).1];exact sS
 rw[rW]at h1;have u:3^ws.length<=3^12:=i7 (by decide) t;have y:(3:Nat)^12=531441:=by decide
 have:=h.cnt;omega
theorem Q4.zero(u:ws.length<=12)(y:∀v∈ws,0<=v.h):Q4 m ws 0 (cp ws.length 0) (λ_=>0) 0 []:=by refine⟨λs v e ho=>?_,rfl,rfl,.nil,by simp,by have:=Ej (fs:=cp ws.length 0) (P:=λ_=>0) u;simp;omega⟩;obtain⟨A,g,f,z,_,t⟩:=sV ho;rw[e]at f;cases f;have:=Bw z;subst this;have:=y v (dQ e);cases hf:s.2<;>rw[hf]at t<;>simp[qx,Iz,hsp]at t ⊢;omega
noncomputable def Oi(F:Int->Int)(D:Int):List En->Int->Int|[],p=>F p+D|e::es,p=>if e.1=p then 7*e.2.2.2+(e.2.1:Int)else Oi F D es p
theorem o5{F:Int->Int}{D p:Int}{l:Nat}{o:Option aq×Int}:∀{es:List En},(es.map (·.1)).Nodup->(p,l,o)∈es->Oi F D es p=7*o.2+l
 |[],_,h=>by cases h|e::es,f,h=>by
   rw[de,eH]at f;rw[Oi];rcases c_.mp h with rfl|h;.rw[if_pos rfl]
   .rw[if_neg (λz=>f.1 (by rw[z];exact df.mpr ⟨_,h,rfl⟩))];exact o5 f.2 h
theorem yp{F:Int->Int}{D p:Int}:∀{es:List En},(¬ ∃l o,(p,l,o)∈es)->Oi F D es p=F p+D|[],_=>rfl|e::es,h=>by rw[Oi,if_neg (λz=>h ⟨e.2.1,e.2.2,by rw[<-z];simp⟩)];exact yp λ⟨l,o,z⟩=>h ⟨l,o,dS _ z⟩
theorem MP(F:Int->Int):∀(es:List En),∃D,∀p l o,(p,l,o)∈es->7*o.2+(l:Int)<=F p+D
 |[]=>⟨0,λ_ _ _ h=>by cases h⟩|e::es=>by
   obtain⟨D,h⟩:=MP F es;refine⟨max D (7*e.2.2.2+(e.2.1:Int)-F e.1),λp l o z=>?_⟩;rcases c_.mp z with rfl|z;.simp only;omega
   .have:=h p l o z;omega
theorem jP.pts{fs:List Int}{P:Int->Int}{D:Int}(h:jP m ws fs es)(f:HN m ws)(t:Pt ws fs F)(u:Ss ws fs P)(y:∀p l o,(p,l,o)∈es->7*o.2+(l:Int)<=P p+D):Ss ws fs (Oi P D es):=λs v e ho=>by
 by_cases c:∃l o,(frm v s.2,l,o)∈es;.obtain⟨l,o,c⟩:=c;obtain⟨l2,z,c2,c3⟩:=h.cl l o s v e c ho;rw[o5 h.cm.nd c,o5 h.cm.nd c2];have:=h.l5 f t c2;unfold Le at c3;unfold Iz;omega
 . rw[yp c];have h1:=u s v e ho;by_cases c2:∃l o,(too v s.2,l,o)∈es;.obtain⟨l2,z,c2⟩:=c2;rw[o5 h.cm.nd c2];have:=y _ _ _ c2;omega
   .rw[yp c2];omega
theorem Q4.more{f:Int}{k:Nat}{fs:List Int}{P:Int->Int}{seen:List Sd}(h:Q4 m ws k fs P f seen)(A:HN m ws)(H:Pt ws fs F)(t:jP m ws fs es)(u:(m-1,l,o)∈es)(hc:Su ws fs es (m-1) l o.2 0 0 0 c)(hs:s∈c)(e:ws[s.1]?=a7 v)(B:fs[s.1]?=a7 g):∃I J L,Q4 m ws (k+1) (aug (qx v g s.2) fs c) I J L:=by
 have M:bU ws c=o.2:=by have:=hc.hrs;omega
 have O:c.length=l:=by have:=hc.len;omega
 have U:Bb ws c=7*o.2+l:=by unfold Bb;rw[M,O]
 have W:f<=Bb ws c:=by have:=Df h.pt hc.N8 hc.j4;rw[h.e,h.z]at this;omega
 by_cases q:f=Bb ws c;.have y:=h.pt.aug hc.N8 hc.j4 hc.nd (by rw[h.e,h.z];omega) hs e B;exact⟨P,f,seen,y.1,h.z,h.e,h.nd,h.sl,by have:=h.cnt;omega⟩
 . obtain⟨D,X⟩:=MP P es;have Y:=t.pts A H h.pt X;have C:Oi P D es 0=0:=by rw[o5 t.cm.nd t.cm.z];rfl
   have E:Oi P D es (m-1)=Bb ws c:=by rw[o5 t.cm.nd u,U]
   have y:=Y.aug hc.N8 hc.j4 hc.nd (by rw[C,E];omega) hs e B;have G:=xZ hc.N8 hc.nd;refine⟨Oi P D es,Bb ws c,seen++[Hc ws.length c],y.1,C,E,?_,λx hx=>?_,?_⟩;.rw[lb];refine⟨h.nd,by simp,λa Z b hb ab=>?_⟩;have:=(h.sl a Z).2;rw[ab,dy.mp hb,G]at this;omega
   . rcases eM.mp hx with hx|hx;.have:=h.sl x hx;exact⟨this.1,by omega⟩
     .rw[dy.mp hx];exact⟨wK,by rw[G];exact fh _⟩
   .have h1:=Ej (fs:=fs) (P:=Oi P D es) A.len;have h2:=h.cnt;rw[ei,kR];omega
noncomputable def cD(x:List aq×Int):D:=.tup [.tup (x.1.map sD),.int x.2]
theorem Wz{ns:List Int}(h:ns≠[]):∃i,ns.min?=a7 i/\i∈ns/\∀j∈ns,i<=j:=by cases e:ns.min? with|none=>rw[List.min?_eq_none_iff]at e;exact absurd e h|some i=>have:=pz.mp e;exact⟨i,rfl,this.1,this.2⟩
noncomputable def unS:D->aq|.tup [.int j,.bl f]=>(j.toNat,f)|_=>(0,bT)
@[simp]theorem MF{s:aq}:unS (sD s)=s:=rfl
noncomputable def Ti(ws:List Wy)(fs:List Int)(s:aq):Int:=match ws[s.1]?,fs[s.1]?with|some v,a7 g=>qx v g s.2|_,_=>0
noncomputable def rmD(ws:List Wy)(fs:List Int)(d:D):D:=.int (Ti ws fs (unS d))
@[simp]theorem aaV{es:List En}{p:Int}:zJ a_ (.int p) (oh es)=a7 (.val (.bl (qZ (es.map en) p))):=by show a7 (R.val (.bl ((es.map (·.1)).contains p)))=a7 (R.val (.bl ((Od (es.map en)).contains p)));rw[BW]
noncomputable def Chk(m:Int)(ws:List Wy)(x:List aq×Int):Prop:=x.1.length<=5/\(∀s∈x.1,s.1<ws.length)/\jK ws (m-1) x.1 0/\(x.1.map (·.1)).Nodup
structure Stg(m:Int)(ws:List Wy)(bZ:List (List aq×Int))(x:List aq×Int):Prop where
 iv:∃F d,Ay m ws bZ (flow ws.length bZ) F d
 ht:∃F,Pt ws (flow ws.length bZ) F/\F 0=0/\F (m-1)=bU ws x.1
 op:vM ws (flow ws.length bZ) x.1
 rm:∀s∈x.1,∃v g,ws[s.1]?=a7 v/\(flow ws.length bZ)[s.1]?=a7 g/\x.2<=qx v g s.2
theorem Ay.ht{d:Int}{fs:List Int}(h:Ay m ws cs fs F d)(f:jP m ws fs es)(t:(m-1,l,o)∈es)(hc:Su ws fs es (m-1) l o.2 0 0 0 c):(∃F,Pt ws fs F/\F 0=0/\F (m-1)=bU ws c)/\d<=bU ws c:=by
 obtain⟨D,u⟩:=Fq F es;have y:bU ws c=o.2:=by have:=hc.hrs;omega
 refine⟨⟨IV F D es,f.pt h.pt u,jB f.cm.nd f.cm.z,by rw[jB f.cm.nd t,y]⟩,?_⟩;have:=oZ h.pt hc.N8 hc.j4;rw[h.e,h.z]at this;omega
noncomputable def Hd(m:Int)(ws:List Wy)(cs:List (List aq×Int)):Prop:=cs.Pairwise (λa b=>bU ws a.1<=bU ws b.1)/\∀f x e,cs=f++x::e->Stg m ws f x
theorem Hd.snoc{y:List aq×Int}(h:Hd m ws cs)(h1:∀x∈cs,bU ws x.1<=bU ws y.1)(u:Stg m ws cs y):Hd m ws (cs++[y]):=by
 refine⟨?_,λt x f e=>?_⟩;.rw[kX];exact⟨h.1,by simp,λa A b B=>by rw[dy.mp B];exact h1 a A⟩
 . rcases kM f with rfl|⟨r,z,rfl⟩;.obtain⟨C,E⟩:=List.append_inj' e rfl;cases E;subst C;exact u
   . rw[kN]at e;have G:cs++[y]=(t++x::r)++[z]:=by rw[e];simp
     exact h.2 t x r (List.append_inj' G rfl).1
structure Ends(m:Int)(ws:List Wy)(cs:List (List aq×Int))(fs:List Int)(F:Int->Int)(d:Int)(es:List En):Prop where
 fl:fs=flow ws.length cs
 iv:Ay m ws cs fs F d
 cm:jP m ws fs es
 no:¬ ∃l o,(m-1,l,o)∈es
 ck:∀x∈cs,Chk m ws x
 st:Hd m ws cs
inductive FcE(a0 a1 a2 a3 a4 a5 a6:Sl)(ρ:List Sl):Prop where|mk(s:Sl)(q0:ρ=[a0,a1,a2,a3,a4,a5,a6,s])(q1:fr s=bT)
inductive JE(m:Int)(ws:List Wy)(M:Nat)(ρ:List Sl):Prop where|mk(cs:List (List aq×Int))(fs:List Int)(es:List En)(F:Int->Int)(d:Int)(s5 s6:Sl)(q0:ρ=[.val a_ (bC m ws),.val a_ (.int (m-1)),.own a_ (fs.map D.int),.own a_ (cs.map cD),.val a_ (oh es),s5,s6])(q1:(fr s5=bT/\fr s6=bT))(q2:fs=flow ws.length cs)(q3:Ay m ws cs fs F d)(q4:jP m ws fs es)(q5:(∃P lam seen,Q4 m ws cs.length fs P lam seen))(q6:cs.length+M=13286050)(q7:(∀x∈cs,Chk m ws x))(q8:Hd m ws cs)
theorem yN(hw:13286250<=w)(h:HN m ws)(hr:∀v∈ws,0<=v.r)(k:∀cs fs F d es,cs.length<=13286050->Ends m ws cs fs F d es->Q (.own (cs.map cD)) [.val a_ (bC m ws)]):(run Γ w (n+4) 8 [.val a_ (bC m ws)]).sat Q:=by
 have hn:=h.len;have m0:=h.m0;have m1:=h.m1;refine bh (d:=f8) rfl rfl (by decide) ?_;(first|apply ak|apply Hx);simp[f8];refine eZ (λρ=>ρ=[.val a_ (bC m ws),.val a_ (.int (m-1)),.own a_ ((flow ws.length []).map D.int),.aM,.aM,.aM,.aM]) ?_ ?_;.simp[flow];show _<=16777216;omega
 rintro _ rfl;have hh:∀v∈ws,0<=v.h:=λv hv=>(h.ok v hv).2.2;obtain⟨b0,Z⟩:∃b,Ay m ws [] (flow ws.length []) (F01 b) b:=Ay.zero m0 hh hr;(first|apply ak|apply Hx);simp;apply ak;simp;refine zZ (by omega) Z.pt (.inr ⟨bT,rfl⟩) h Z.fit.len λes f=>?_;simp;apply ak;simp;refine kI (JE m ws) ?_ (k:=w) (m:=13286050) (by omega) ⟨[],flow ws.length [],es,F01 b0,b0,.aM,.aM,rfl,⟨rfl,rfl⟩,rfl,Z,f,⟨_,_,_,Q4.zero hn hh⟩,by simp,by simp,by simp,λbZ x aE e=>by cases bZ<;>cases e⟩;rintro M _⟨cs,fs,es,F,d,s5,s6,rfl,⟨h5,h6⟩,C,E,f,⟨P,aI,seen,hS⟩,hM,J,hst⟩;have ac:=E.fit.len;by_cases hq:∃l o,(m-1,l,o)∈es
 . obtain⟨l,o,t⟩:=hq;have kt:qZ (es.map en) (m-1)=bT:=BX.mpr ⟨l,o,t⟩;have ae:=f.l5 h E.pt t;simp[kt];apply ak;simp;refine GJ (by omega) f ae t λc hc=>?_;simp[h5];apply ak;have af:c.length<=5:=by have:=hc.len;omega
   have Y:∀s∈c,∃v g,ws[s.1]?=a7 v/\fs[s.1]?=a7 g/\0<qx v g s.2:=λs hs=>by obtain⟨v,e,o⟩:=hc.j4 s hs;obtain⟨v',g,z,B,_,e4⟩:=sV o;exact⟨v',g,z,B,e4⟩
   simp[show c.length<=16777216 by omega];refine cX (FcE _ _ _ _ _ _ _) (rmD ws fs) ⟨.aM,rfl,rfl⟩ ?_ ?_;.rintro d hd _⟨s',rfl,L⟩;obtain⟨s,hs,rfl⟩:=df.mp hd;obtain⟨v,g,z,B,_⟩:=Y s hs;simp[L,sD];refine vO (.inr ⟨bT,rfl⟩) z B ?_;simp;refine⟨?_,_,rfl,rfl⟩;show D.int (Ti ws fs (unS (sD s)))=_;rw[MF];unfold Ti;rw[z,B]
   rintro _⟨s',rfl,L⟩;have O:(c.map sD).map (rmD ws fs)=(c.map (Ti ws fs)).map D.int:=by rw[eJ,eJ];rfl
   rw[O];have ag:c≠[]:=by rintro rfl;have:(0:Int)=m-1:=hc.N8;omega
   obtain⟨x,ah,ai,am⟩:=Wz (ns:=c.map (Ti ws fs)) (by simpa using ag);obtain⟨s,hs,ap⟩:=df.mp ai;obtain⟨v,g,z,B,e3⟩:=Y s hs;have ar:qx v g s.2=x:=by rw[<-ap];unfold Ti;rw[z,B]
   have av:0<x:=by omega
   have G:∀s∈c,∃v g,ws[s.1]?=a7 v/\fs[s.1]?=a7 g/\x<=qx v g s.2:=λu I=>by obtain⟨v,g,z,B,_⟩:=Y u I;refine⟨v,g,z,B,?_⟩;have:=am _ (df.mpr ⟨u,I,rfl⟩);unfold Ti at this;rw[z,B]at this;exact this
   have U:∀s∈c,s.1<ws.length:=λu I=>by obtain⟨v,g,z,_⟩:=Y u I;exact(fu z).1
   obtain⟨F',H⟩:=E.more f t hc av G;have W:Hd m ws (cs++[(c,x)]):=by obtain⟨g1,g2⟩:=E.ht f t hc;refine hst.snoc (λy hy=>Int.le_trans (E.ch y hy).1 g2) ?_;have X:=E;rw[C]at X g1 G;exact⟨⟨_,_,X⟩,g1,by rw[<-C];exact hc.j4,G⟩
   have A:=hS.more h E.pt f t hc hs z B;rw[ar]at A;obtain⟨P',Yj,Oa,A⟩:=A;have aS:=A.few hn;generalize c.map (Ti ws fs)=ns at*;simp[iH,ah,h6];apply ak;simp[show cs.length<16777216 by omega];apply ak;simp;refine K5 (.inr ⟨bT,rfl⟩) (λu I=>by rw[ac];exact U u I) ?_;simp;apply ak;have aw:aug x fs c=flow ws.length (cs++[(c,x)]):=by rw[yV,<-C]
   simp;refine zZ (by omega) H.pt (.inr ⟨bT,rfl⟩) h H.fit.len λax ay=>?_;simp;refine⟨M-1,by omega,cs++[(c,x)],aug x fs c,ax,F',o.2,.val a_ (.tup (c.map sD)),.val a_ (.int x),by simp[cD],⟨rfl,rfl⟩,aw,H,ay,⟨P',Yj,Oa,by rw[ei];exact A⟩,by simp;omega,λy hy=>?_,W⟩;rcases eM.mp hy with hy|hy;.exact J y hy
   . obtain rfl:y=(c,x):=by simpa using hy
     exact⟨af,U,hc.N8,hc.nd⟩
 .have kt:qZ (es.map en) (m-1)=a_:=kin_no hq;simp[kt];apply ak;simp;exact k cs fs F d es (by omega) ⟨C,E,f,hq,J,hst⟩
noncomputable def cV(m:Int)(ws:List Wy)(cs:List (List aq×Int)):Prop:=(∀v∈ws,1<=v.h)/\∃fs F d es,Ends m ws cs fs F d es
noncomputable def jC(cs:List (List aq×Int)):Int:=bQ (λx=>x.2) cs
theorem Js{c:Call}{x:Nat}{k d:P}:ev c (.XX x k d) ρ=match ρ[x]?with
 |some (.gZ _)=>(cZ (isVar k) (ev c k) ρ).bind λe ρ=>(cZ (isVar d) (ev c d) ρ).bind λdd ρ=>match ρ[x]?with|some (.gZ m)=>lift ((m.get e).bind λo=>(je dd).map λv=>.val (.int (o.getD v))) ρ|_=>.stuck
 |_=>.stuck:=(rfl)
theorem Ga{c:Call}{x:Nat}:ex c n (.Ik x a_) ρ=match ρ[x]?with|some .aM=>.ok .next (ρ.set x (.gZ (.k [])))|_=>.stuck:=(rfl)
theorem DG{c:Call}{x:Nat}{k e:P}:ex c n (.dput x k e) ρ=(ev c e ρ).bind λr ρ=>match ρ[x]?with
 |some (.gZ _)=>(cZ (isVar k) (ev c k) ρ).bind λf ρ=>match ρ[x]?,r with
   |some (.gZ m),.val (.int v)=>match m.put f v with|some h=>.ok .next (ρ.set x (.gZ h))|none=>.stuck
   |_,_=>.stuck
 |_=>.stuck:=(rfl)
@[simp]theorem Y8{x:Nat}{k d:P}:isVar (.XX x k d)=none:=rfl
@[simp]theorem aaX{kvs:List (Int×Int)}:blt .Ny [.dI (.k kvs)]=if kvs.length<=16777216/\kvs.Pairwise (λa b=>a.1<b.1)then a7 (.own (kvs.map gO))else none:=rfl
theorem Ck:(Dc.get (.k kvs) (.int i))=a7 ((kvs.find? λe=>decide (e.1=i)).map (·.2)):=rfl
theorem R0{v:Int}(h:kvs.length<lim):Dc.put (.k kvs) (.int i) v=a7 (.k (putD kvs i v)):=by show(if _ then _ else _)=_;rw[if_pos h]
noncomputable def hsD(ws:List Wy)(d:D):D:=.int (hst ws (unS d))
theorem Gk{ws:List Wy}:∀{c:List aq},(c.map (hst ws)).sum=bU ws c|[]=>rfl|s::c=>by rw[de,mM,Gk,bU]
inductive F2s(a b:Sl)(ρ:List Sl):Prop where|mk(s:Sl)(q0:ρ=[a,b,s])(q1:fr s=bT)
theorem BV(hc:∀s∈c,s.1<ws.length)(z:c.length<=1000)(k:Q (.val (.int (bU ws c))) [.val a_ (bC m ws),.val a_ (.tup (c.map sD))]):(run Γ w (n+2) 3 [.val a_ (bC m ws),.val a_ (.tup (c.map sD))]).sat Q:=by
 refine bh (d:=f3) rfl rfl (by decide) ?_;(first|apply ak|apply Hx);simp[f3,show c.length<=16777216 by omega];refine cX (F2s _ _) (hsD ws) ⟨.aM,rfl,rfl⟩ ?_ ?_
 . rintro d hd _⟨y,rfl,f⟩;obtain⟨s,hs,rfl⟩:=df.mp hd;have u:=hc s hs;have e:ws[s.1]?=a7 ws[s.1]:=by simp[u]
   simp[f,sD];refine vg e ?_;simp;refine⟨?_,_,rfl,rfl⟩;show D.int (hst ws (unS (sD s)))=_;rw[MF,iZ e]
 rintro _⟨y,rfl,f⟩;have h:(c.map sD).map (hsD ws)=(c.map (hst ws)).map D.int:=by rw[eJ,eJ];rfl
 rw[h];have t:=Gk (ws:=ws) (c:=c);generalize c.map (hst ws)=ns at*;simp[iH,t];exact k
noncomputable def gv(kvs:List (Int×Int))(k:Int):Int:=((kvs.find? λe=>decide (e.1=k)).map (·.2)).getD 0
noncomputable def YD(W:Int->Int->Int):Prop:=∀k a b,W k (a+b)=W k a+W k b
noncomputable def iQ(W:Int->Int->Int):List (Int×Int)->Int|[]=>0|kv::r=>W kv.1 kv.2+iQ W r
theorem Et{W:Int->Int->Int}{b:List (Int×Int)}:∀{a:List (Int×Int)},iQ W (a++b)=iQ W a+iQ W b|[]=>by simp[iQ]|x::a=>by rw[iN,iQ,iQ,Et];omega
theorem DR{k v:Int}:∀{r:List (Int×Int)},k∉r.map (·.1)->(r.map λe=>if e.1=k then(e.1,v)else e)=r|[],_=>rfl|x::r,h=>by rw[de,c_,not_or]at h;rw[de,DR h.2,if_neg (λz=>h.1 z.symm)]
theorem Ec{W:Int->Int->Int}(u:YD W){k x:Int}:∀{r:List (Int×Int)},(r.map (·.1)).Nodup->k∈r.map (·.1)->iQ W (r.map λe=>if e.1=k then(e.1,gv r k+x)else e)=iQ W r+W k x
 |[],_,h=>by cases h|y::r,f,h=>by
   rw[de,eH]at f;by_cases c:y.1=k
   . have t:gv (y::r) k=y.2:=by unfold gv;rw[fF];simp[c]
     rw[t,de,if_pos c,DR (by rw[<-c];exact f.1),iQ,iQ];show W y.1 (y.2+x)+_=_;rw[u,c];omega
   . have t:gv (y::r) k=gv r k:=by unfold gv;rw[fF];simp[c]
     have z:k∈r.map (·.1):=by
      rcases c_.mp h with h|h;.exact absurd h.symm c
      .exact h
     rw[t,de,if_neg c,iQ,iQ,Ec u f.2 z];omega
theorem Xe(h:k∉r.map (·.1)):gv r k=0:=by
 unfold gv;rw[List.find?_eq_none.mpr];.rfl
 .intro x f;simp;intro e;exact h (df.mpr ⟨x,f,e⟩)
theorem abb(h:∀f∈r,0<f.2):0<=gv r k:=by unfold gv;cases e:r.find? λf=>decide (f.1=k)with|none=>simp|some x=>have:=h x (List.mem_of_find?_eq_some e);simp;omega
theorem yc{x:Int}(t:(r.map (·.1)).Nodup):((putD r k (gv r k+x)).map (·.1)).Nodup/\(putD r k (gv r k+x)).length<=r.length+1/\(∀f∈putD r k (gv r k+x),f=(k,gv r k+x)\/f∈r)/\∀W,YD W->iQ W (putD r k (gv r k+x))=iQ W r+W k x:=by
 have A:(r.any λf=>decide (f.1=k))=bT↔k∈r.map (·.1):=by rw[og,df];exact⟨λ⟨y,h1,u⟩=>⟨y,h1,by simpa using u⟩,λ⟨y,h1,u⟩=>⟨y,h1,by simpa using u⟩⟩
 unfold putD;by_cases c:k∈r.map (·.1)
 . rw[if_pos (A.mpr c)];have e:(r.map λf=>if f.1=k then(f.1,gv r k+x)else f).map (·.1)=r.map (·.1):=by rw[eJ];refine gu λy _=>?_;show(if y.1=k then _ else _:Int×Int).1=y.1;split<;>rfl
   refine⟨by rw[e];exact t,by simp,λf h=>?_,λW B=>Ec B t c⟩;obtain⟨y,C,rfl⟩:=df.mp h;by_cases z:y.1=k;.rw[if_pos z,z];exact .inl rfl
   .rw[if_neg z];exact .inr C
 . rw[if_neg λz=>c (A.mp z),Xe c,Int.zero_add];refine⟨?_,by simp,λf h=>?_,λW _=>?_⟩;.rw[ig,lb];exact⟨t,by simp,λa E b G e=>c (by
      have:b=k:=by simpa using G
      rw[<-this,<-e];exact E)⟩
   . rcases eM.mp h with hj|hj;.exact .inr hj
     .exact .inl (dy.mp hj)
   .rw[Et];simp[iQ]
theorem U3{v:Int}(h:r.Pairwise (λa b=>a.1<b.1))(t:∀u∈r,u.1<=k):(putD r k v).Pairwise (λa b=>a.1<b.1):=by
 unfold putD;split;.rw[m2];refine h.imp λ{a b}e=>?_;split<;>split<;>exact e
 .rename_i y;rw[kX];refine⟨h,by simp,λa f b A=>?_⟩;have h1:=t a f;have B:a.1≠k:=λz=>y (og.mpr ⟨a,f,by simpa using z⟩);rw[dy.mp A];show a.1<k;omega
noncomputable def TX:D->Int×Int|.tup [.int a,.int b]=>(a,b)|_=>(0,0)
@[simp]theorem ahQ{a b:Int}:TX (.tup [.int a,.int b])=(a,b):=rfl
structure S8(ws:List Wy)(cs:List (List aq×Int))(kvs:List (Int×Int)):Prop where
 nd:(kvs.map (·.1)).Nodup
 len:kvs.length<=cs.length
 nn:∀kv∈kvs,1<=kv.1/\0<kv.2
 key:∀kv∈kvs,∃x∈cs,kv.1=bU ws x.1
 so:kvs.Pairwise (λa b=>a.1<b.1)sm:∀W,YD W->iQ W kvs=bQ (λx=>W (bU ws x.1) x.2) cs
theorem S8.put(h:S8 ws cs kvs){x:List aq×Int}(h0:1<=bU ws x.1)(h1:0<x.2)(A:∀y∈cs,bU ws y.1<=bU ws x.1):S8 ws (cs++[x]) (putD kvs (bU ws x.1) (gv kvs (bU ws x.1)+x.2)):=by
 obtain⟨p1,p2,p3,B⟩:=yc (k:=bU ws x.1) (x:=x.2) h.nd;have C:=h.len;refine⟨p1,by simp;omega,λt f=>?_,λt f=>?_,U3 h.so λt f=>?_,λW z=>?_⟩
 . rcases p3 t f with e|e;.have:=abb (k:=bU ws x.1) λt f=>(h.nn t f).2;rw[e];exact⟨h0,by show 0<_+_;omega⟩
   .exact h.nn t e
 . rcases p3 t f with e|e;.exact⟨x,by simp,by rw[e]⟩
   .obtain⟨y,u,e⟩:=h.key t e;exact⟨y,by simp[u],e⟩
 .obtain⟨y,u,e⟩:=h.key t f;rw[e];exact A y u
 .rw[B W z,h.sm W z,kj]
theorem Np{ws:List Wy}{b:Int}(h0:∀v∈ws,0<=v.h)(f:∀v∈ws,v.h<=1000000):∀{c:List aq}{a:Int},jK ws b c a->bU ws c<=1000000*(c.length:Int)
 |[],_,_=>by simp[bU]|s::c,a,⟨v,e,_,t⟩=>by
   have h1:=Np h0 f t;have u:=f v (dQ e);have y:=h0 v (dQ e);have z:hst ws s<=1000000:=by rw[iZ e];unfold hsp;split<;>omega
   rw[bU,dV];omega
theorem S8.few(h:S8 ws cs kvs)(u:∀x∈cs,Chk m ws x)(y:ws.length<=12):kvs.length<=531441:=by
 have h1:=m6 (l2:=(uW ws.length).map λe=>mj ws e/7) h.nd λk f=>by obtain⟨z,t,rfl⟩:=df.mp f;obtain⟨x,A,e⟩:=h.key z t;obtain⟨c1,c2,c3,c4⟩:=u x A;refine df.mpr ⟨Hc ws.length x.1,by have:=sS (e:=Hc ws.length x.1);rwa[wK]at this,?_⟩;rw[xZ c3 c4,e];unfold Bb;omega
 rw[ef,ef,rW]at h1;have B:3^ws.length<=3^12:=i7 (by decide) y;have C:(3:Nat)^12=531441:=by decide
 omega
inductive JBn(m:Int)(ws:List Wy)(cs:List (List aq×Int))(r:List D)(ρ:List Sl):Prop where|mk(bZ us:List (List aq×Int))(kvs:List (Int×Int))(s2 s3 s4:Sl)(q0:ρ=[.val a_ (bC m ws),.gZ (.k kvs),s2,s3,s4])(q1:A3 (fr s2=bT) (fr s3=bT) (fr s4=bT))(q2:r=us.map cD)(q3:bZ++us=cs)(q4:S8 ws bZ kvs)
theorem lR(X:13286250<=w)(h:fJ m ws)(k:∀cs fs F d es kvs,kvs.length<=531441->Ends m ws cs fs F d es->S8 ws cs kvs->kvs.Pairwise (λa b=>a.1<b.1)->(∀E∈kvs,E.1<=5000000)->Q (.own (kvs.map gO)) [.val a_ (bC m ws)]):(run Γ w (n+5) 10 [.val a_ (bC m ws)]).sat Q:=by
 refine bh (d:=f10) rfl rfl (by decide) ?_;(first|apply ak|apply Hx);simp[f10,Ga];apply ak;simp;refine yN X (HN.of h) (λv A=>(h.ok v A).r0) λcs fs F d es hl t=>?_;simp;refine bO (JBn m ws cs) ?_ ?_ ⟨[],cs,[],.aM,.aM,.aM,rfl,⟨rfl,rfl,rfl⟩,rfl,rfl,⟨by simp,by simp,by simp,by simp,by simp,λW _=>rfl⟩⟩;.rintro d r _⟨B,z,kvs,s2,s3,s4,rfl,⟨G,M,O⟩,hr,hd,f⟩;cases z with|nil=>cases hr|cons u z=>
     obtain⟨rfl,rfl⟩:d=cD u/\r=z.map cD:=by simpa using hr
     have H:u∈cs:=by rw[<-hd];simp
     have C:=t.ck u H;have Y:B.length<=cs.length:=by rw[<-hd];simp
     have I:=f.len;have J:(B++[u])++z=cs:=by rw[eF];exact hd
     simp[cD,G,M];apply ak;simp;refine BV C.2.1 (by have:=C.1;omega) ?_;simp[O];apply ak;simp[DG,Js,Ck];rw[R0 (by show _<16777216;omega)];simp;refine⟨B++[u],z,_,_,_,_,rfl,⟨rfl,rfl,rfl⟩,rfl,J,f.put ((t.iv.nn λv A=>(h.ok v A).h0).2 u H) (t.iv.ch u H).2.1 λy Z=>?_⟩;have hst:=t.st.1;rw[<-hd,kX]at hst;exact hst.2.2 y Z u (by simp)
 . rintro _⟨B,z,kvs,s2,s3,s4,rfl,⟨G,M,O⟩,hr,hd,f⟩;have:z=[]:=by cases z with|nil=>rfl|cons _ _=>cases hr
   subst this;rw[e_]at hd;subst hd;have I:=f.len;simp;apply ak;simp[show kvs.length<=16777216 by omega,f.so];refine k B fs F d es kvs (f.few t.ck (HN.of h).len) t f f.so λE L=>?_;obtain⟨x,U,e⟩:=f.key E L;have h1:=Np (λv A=>((HN.of h).ok v A).2.2) (λv A=>(h.ok v A).h1) (t.ck x U).2.2.1;have G:=(t.ck x U).1;rw[e];omega
noncomputable def vt(T k v:Int):Int:=if k<=T then v*(T-k+1)else 0
noncomputable def gt(T k v:Int):Int:=if k<=T then v else 0
theorem Lx{T:Int}:YD (vt T):=λk a b=>by
 unfold vt;split;.exact add_mul ..
 .rfl
theorem Lj{T:Int}:YD (gt T):=λk a b=>by unfold gt;split<;>rfl
theorem Uv:YD λ_ v=>v:=λ_ _ _=>rfl
noncomputable def Rt(ws:List Wy)(cs:List (List aq×Int))(T:Int):Int:=bQ (λx=>gt T (bU ws x.1) x.2) cs
theorem qe.uniq{T v e:Int}(h:qe m ws T v)(h':qe m ws T e):v=e:=by obtain⟨q,f,t,u⟩:=h.ex;obtain⟨r,r0,r1,y⟩:=h'.ex;have:=h.le r r0 r1;have:=h'.le q f t;omega
theorem cV.least{m:Int}{ws:List Wy}{cs:List (List aq×Int)}(h:cV m ws cs){T:Int}(h0:0<=T):qe m ws T (val ws T cs):=by obtain⟨f,fs,F,d,es,e⟩:=h;exact e.iv.least e.cm e.no h0
theorem Am{H K:List aq×Int->Int}:∀{cs:List (List aq×Int)},bQ (λx=>H x-K x) cs=bQ H cs-bQ K cs|[]=>rfl|x::cs=>by rw[bQ,bQ,bQ,Am];omega
theorem wO{H K:List aq×Int->Int}:∀{cs:List (List aq×Int)},(∀x∈cs,H x<=K x)->bQ H cs<=bQ K cs|[],_=>fh _|x::cs,h=>by have h1:=h x (by simp);have f:=wO (H:=H) (K:=K) (cs:=cs) λy e=>h y (by simp[e]);rw[bQ,bQ];omega
theorem Bs{T:Int}:Rt ws cs T=val ws T cs-val ws (T-1) cs:=by
 unfold Rt val;rw[<-Am];refine nJ λx _=>?_;show gt T (bU ws x.1) x.2=vt T (bU ws x.1) x.2-vt (T-1) (bU ws x.1) x.2;unfold gt vt;by_cases c:bU ws x.1<=T-1;.rw[if_pos (by omega),if_pos (by omega),if_pos c,<-m_,show T-bU ws x.1+1-(T-1-bU ws x.1+1)=1 by omega,mul_one]
 . by_cases c2:bU ws x.1<=T;.rw[if_pos c2,if_pos c2,if_neg c,show T-bU ws x.1+1=1 by omega,mul_one];omega
   .rw[if_neg c2,if_neg c2,if_neg c];rfl
theorem cV.nn{m:Int}{ws:List Wy}{cs:List (List aq×Int)}(h:cV m ws cs):∀x∈cs,1<=bU ws x.1/\0<x.2:=by obtain⟨e,fs,F,d,es,f⟩:=h;exact λx t=>⟨(f.iv.nn e).2 x t,(f.iv.ch x t).2.1⟩
theorem cV.dC(h:cV m ws cs){T:Int}(h0:T<=0):val ws T cs=0:=by
 have:val ws T cs=bQ (λ_=>0) cs:=nJ λx e=>by have:=(h.nn x e).1;show vt T (bU ws x.1) x.2=0;unfold vt;rw[if_neg (by omega)]
 rw[this];clear this h;induction cs with|nil=>rfl|cons x cs f=>rw[bQ,f];rfl
theorem cV.val_eq{e:List (List aq×Int)}(h:cV m ws cs)(h':cV m ws e)(T:Int):val ws T cs=val ws T e:=by
 by_cases c:0<=T;.exact(h.least c).uniq (h'.least c)
 .rw[h.dC (by omega),h'.dC (by omega)]
theorem cV.aab{e:List (List aq×Int)}(h:cV m ws cs)(h':cV m ws e)(T:Int):Rt ws cs T=Rt ws e T:=by rw[Bs,Bs,h.val_eq h',h.val_eq h']
theorem cV.mono(h:cV m ws cs){T U:Int}(f:T<=U):Rt ws cs T<=Rt ws cs U:=wO λx e=>by have:=(h.nn x e).2;unfold gt;split<;>split<;>omega
theorem cV.ah8(h:cV m ws cs){T:Int}:Rt ws cs T<=jC cs:=wO λx e=>by have:=(h.nn x e).2;unfold gt;split<;>omega
theorem cV.aib(h:cV m ws cs){T:Int}:0<=Rt ws cs T:=by
 have h1:=h.mono (T:=min T 0) (U:=T) (by omega);have:Rt ws cs (min T 0)=0:=by rw[Bs,h.dC (by omega),h.dC (by omega)];rfl
 omega
noncomputable def moD(T:Int)(d:D):Option D:=if(TX d).1<=T then a7 (.int ((TX d).2*(T-(TX d).1+1)))else none
theorem VG{T:Int}:∀(kvs:List (Int×Int)),∃ns:List Int,(kvs.map gO).filterMap (moD T)=ns.map D.int/\ns.sum=iQ (vt T) kvs
 |[]=>⟨[],rfl,rfl⟩|kv::r=>by
   obtain⟨ns,h1,f⟩:=VG (T:=T) r;have e:moD T (gO kv)=if kv.1<=T then a7 (.int (kv.2*(T-kv.1+1)))else none:=rfl;rw[de,gT,h1,iQ,<-f,e];unfold vt;by_cases c:kv.1<=T;.rw[if_pos c,if_pos c];exact⟨_::ns,rfl,by rw[mM]⟩
   .rw[if_neg c,if_neg c];exact⟨ns,rfl,by omega⟩
inductive F2t(a b:Sl)(ρ:List Sl):Prop where|mk(s:Sl)(t:Sl)(q0:ρ=[a,b,s,t])(q1:fr s=bT)(q2:fr t=bT)
noncomputable def tk:List (Int×Int)->Int->List (Int×Int)|[],_=>[]|kv::r,q=>(kv.1,min q kv.2)::tk r (q-min q kv.2)
noncomputable def TF:List (Int×Int)->Int->Int|[],q=>q|kv::r,q=>TF r (q-min q kv.2)
noncomputable def lh:List (Int×Int)->Int->Int|[],_=>0|kv::r,q=>kv.1*min q kv.2+lh r (q-min q kv.2)
noncomputable def vs:List (Int×Int)->Int|[]=>0|kv::r=>kv.2+vs r
theorem uG:∀{l:List (Int×Int)},(∀kv∈l,1<=kv.1/\0<kv.2)->0<=vs l|[],_=>fh _|kv::r,h=>by have h1:=h kv (by simp);have f:=uG (l:=r) λx e=>h x (by simp[e]);rw[vs];omega
theorem Tj:∀{l:List (Int×Int)}{q:Int},(∀kv∈l,1<=kv.1/\0<kv.2)->0<=q->q<=vs l->TF l q=0|[],q,_,h0,h1=>by rw[vs]at h1;rw[TF];omega|kv::r,q,h,h0,h1=>by have f:=h kv (by simp);have hr:∀x∈r,1<=x.1/\0<x.2:=λx e=>h x (by simp[e]);have t:=uG hr;rw[vs]at h1;rw[TF];exact Tj hr (by omega) (by omega)
theorem G3:∀{l:List (Int×Int)},(∀kv∈l,1<=kv.1/\0<kv.2)->lh l 0=0|[],_=>rfl|kv::r,h=>by have f:=h kv (by simp);rw[lh,show min 0 kv.2=0 by omega,m4,mP,G3 λx e=>h x (by simp[e])];rfl
theorem S7{T:Int}:∀{l:List (Int×Int)}{q:Int},(∀kv∈l,1<=kv.1/\0<kv.2)->0<=q->q<=vs l->(T+1)*q-iQ (vt T) l<=lh l q
 |[],q,_,h0,h1=>by
   rw[vs]at h1;have:q=0:=by omega
   subst this;simp[iQ,lh]|kv::r,q,h,h0,h1=>by
   have t:=h kv (by simp);have hr:∀x∈r,1<=x.1/\0<x.2:=λx e=>h x (by simp[e]);have u:=uG hr;rw[vs]at h1;have y:=S7 (T:=T) (l:=r) (q:=q-min q kv.2) hr (by omega) (by omega);rw[iQ,lh];have z:(T+1)*q=(T+1)*min q kv.2+(T+1)*(q-min q kv.2):=by rw[<-ng];congr 1;omega
   have A:(T+1)*min q kv.2-vt T kv.1 kv.2<=kv.1*min q kv.2:=by
    unfold vt;by_cases c:kv.1<=T
    . rw[if_pos c];have f:min q kv.2*(T-kv.1+1)<=kv.2*(T-kv.1+1):=i6 (by omega) (by omega);have B:(T+1)*min q kv.2=kv.1*min q kv.2+min q kv.2*(T-kv.1+1):=by rw[ic (min q kv.2),<-add_mul];congr 1;omega
      omega
    .rw[if_neg c];have f:(T+1)*min q kv.2<=kv.1*min q kv.2:=i6 (by omega) (by omega);omega
   omega
theorem Lf{W:Int->Int->Int}:∀{l:List (Int×Int)},(∀kv∈l,W kv.1 kv.2=0)->iQ W l=0|[],_=>rfl|kv::r,h=>by rw[iQ,h kv (by simp),Lf λx e=>h x (by simp[e])];rfl
theorem Td:∀{l:List (Int×Int)}{q:Int},(∀kv∈l,1<=kv.1/\0<kv.2)->l.Pairwise (λa b=>a.1<b.1)->0<q->q<=vs l->∃kv∈l,kv.1*q-iQ (vt (kv.1-1)) l=lh l q
 |[],q,_,_,h0,h1=>by rw[vs]at h1;omega|kv::r,q,h,t,h0,h1=>by
   have z:=h kv (by simp);have hr:∀x∈r,1<=x.1/\0<x.2:=λx f=>h x (by simp[f]);have t:=h8.mp t;rw[vs]at h1;by_cases c:q<=kv.2;.refine⟨kv,by simp,?_⟩;rw[lh,show min q kv.2=q by omega,ro,G3 hr,iQ,Lf λx f=>by have:=t.1 x f;unfold vt;rw[if_neg (by omega)]];unfold vt;rw[if_neg (by omega)];omega
   . obtain⟨x,f,e⟩:=Td (l:=r) (q:=q-kv.2) hr t.2 (by omega) (by omega);have u:=t.1 x f;refine⟨x,by simp[f],?_⟩;rw[lh,show min q kv.2=kv.2 by omega,<-e,iQ];have y:vt (x.1-1) kv.1 kv.2=kv.2*x.1-kv.2*kv.1:=by unfold vt;rw[if_pos (by omega),<-m_];congr 1;omega
     rw[y,m_,ic x.1 kv.2,ic kv.1 kv.2];omega
theorem Cy:∀{l:List (Int×Int)},iQ (λ_ v=>v) l=vs l|[]=>rfl|kv::r=>by rw[iQ,vs,Cy]
inductive JCv(a0 a1:Sl)(N:Nat)(out:List (Int×Int))(z:Int)(r:List D)(ρ:List Sl):Prop where|mk(us bZ:List (Int×Int))(q:Int)(s4 s5 s6:Sl)(q0:ρ=[a0,a1,.own a_ (bZ.map gO),.val a_ (.int q),s4,s5,s6])(q1:A3 (fr s4=bT) (fr s5=bT) (fr s6=bT))(q2:r=us.map gO)(q3:bZ++tk us q=out)(q4:TF us q=z)(q5:bZ.length+us.length=N)
theorem Mx{q:Int}(B:kvs.length<=16000000)(hz:TF kvs q=0)(k:Q (.own ((tk kvs q).map gO)) [.own a_ (kvs.map gO),.val a_ (.int q)]):(run Γ w (n+1) 9 [.own a_ (kvs.map gO),.val a_ (.int q)]).sat Q:=by
 refine bh (d:=f9) rfl rfl (by decide) ?_;(first|apply ak|apply Hx);simp[f9];apply ak;simp;apply ak;simp;refine bO (JCv _ _ kvs.length (tk kvs q) 0) ?_ ?_ ⟨kvs,[],q,.aM,.aM,.aM,rfl,⟨rfl,rfl,rfl⟩,rfl,rfl,hz,by simp⟩;.rintro d r _⟨e,f,q,s4,s5,s6,rfl,⟨h,t,y⟩,hr,ho,hz,z⟩;cases e with|nil=>cases hr|cons u e=>
     obtain⟨rfl,rfl⟩:d=gO u/\r=e.map gO:=by simpa using hr
     rw[tk]at ho;rw[TF]at hz;rw[dV]at z;simp[gO,h,t];apply ak;simp[y];apply ak;simp[show f.length<16777216 by omega];apply ak;simp;have A:(if u.2<q then u.2 else q)=min q u.2:=by split<;>omega
     rw[A];exact⟨e,f++[(u.1,min q u.2)],q-min q u.2,.val a_ (.int u.1),.val a_ (.int u.2),.val a_ (.int (min q u.2)),by rw[ig];rfl,⟨rfl,rfl,rfl⟩,rfl,by rw[eF];exact ho,hz,by simp;omega⟩
 . rintro _⟨e,f,q,s4,s5,s6,rfl,⟨h,t,y⟩,hr,ho,hz,z⟩;have:e=[]:=by cases e with|nil=>rfl|cons _ _=>cases hr
   subst this;rw[tk,e_]at ho;rw[TF]at hz;subst ho;subst hz;simp;apply ak;simp;apply ak;simp;exact k
theorem Je:∀{l:List (Int×Int)}{q:Int},(tk l q).length=l.length|[],_=>rfl|kv::r,q=>by rw[tk,dV,Je,dV]
theorem Jt:∀{l:List (Int×Int)}{q:Int}{x:Int×Int},x∈tk l q->∃kv∈l,x.1=kv.1
 |[],_,_,h=>by cases h|kv::r,q,x,h=>by
   rw[tk,c_]at h;rcases h with rfl|h;.exact⟨kv,by simp,rfl⟩
   .obtain⟨y,f,e⟩:=Jt h;exact⟨y,by simp[f],e⟩
theorem Ke:∀{l:List (Int×Int)}{q:Int},((tk l q).map λx=>x.1*x.2).sum=lh l q|[],_=>rfl|kv::r,q=>by rw[tk,lh,de,mM,Ke]
noncomputable def mlD(d:D):D:=.int ((TX d).1*(TX d).2)
structure vD(m:Int)(ws:List Wy)(cs:List (List aq×Int))(kvs:List (Int×Int)):Prop where
 e:cV m ws cs
 b:S8 ws cs kvs
 so:kvs.Pairwise (λa b=>a.1<b.1)le:∀kv∈kvs,kv.1<=5000000
 len:kvs.length<=531441
theorem vD.vs{m:Int}{ws:List Wy}{cs:List (List aq×Int)}{kvs:List (Int×Int)}(h:vD m ws cs kvs):_T.vs kvs=jC cs:=by rw[<-Cy];exact h.b.sm _ Uv
theorem vD.vt{m:Int}{ws:List Wy}{cs:List (List aq×Int)}{kvs:List (Int×Int)}(h:vD m ws cs kvs)(U:Int):iQ (_T.vt U) kvs=val ws U cs:=h.b.sm _ Lx
theorem Bf{q:Int}(E:13286250<=w)(h:fJ m ws)(G:0<=q)(H:∀cs kvs,vD m ws cs kvs->q<=_T.vs kvs)(k:∀cs kvs,vD m ws cs kvs->Q (.val (.int (lh kvs q))) [.val a_ (bC m ws),.val a_ (.int q)]):(run Γ w (n+6) 11 [.val a_ (bC m ws),.val a_ (.int q)]).sat Q:=by
 refine bh (d:=f11) rfl rfl (by decide) ?_;(first|apply ak|apply Hx);simp[f11];refine lR E h λcs fs F d es kvs y I z A f=>?_;have B:vD m ws cs kvs:=⟨⟨λv J=>(h.ok v J).h0,fs,F,d,es,I⟩,z,A,f,y⟩;simp;have y:=y;refine Mx (by omega) (Tj z.nn G (H cs kvs B)) ?_;simp[Je,show kvs.length<=16777216 by omega];refine cX (F2t _ _) mlD ⟨.aM,.aM,rfl,rfl,rfl⟩ ?_ ?_
 . rintro d hd _⟨s,t,rfl,hs,ht⟩;obtain⟨x,L,rfl⟩:=df.mp hd;obtain⟨C,u,e⟩:=Jt L;have h1:=f C u;have U:=(z.nn C u).1;have M:j8 (.int x.1) (.int x.2)=a7 (.val (.int (x.1*x.2))):=by show(if _ then _ else _)=_;rw[if_pos];left;omega
   simp[hs,ht,gO,mlD,M];exact⟨_,_,rfl,rfl,rfl⟩
 . rintro _⟨s,t,rfl,hs,ht⟩;have e:((tk kvs q).map gO).map mlD=((tk kvs q).map λx=>x.1*x.2).map D.int:=by rw[eJ,eJ];rfl
   rw[e];have O:=Ke (l:=kvs) (q:=q);generalize((tk kvs q).map λx=>x.1*x.2)=ns at*;simp[iH,O];exact k cs kvs B
noncomputable def wZ(S:List Int):List Wy->Int|[]=>0|w::ws=>(if w.s∈S/\w.t∉S then w.r else 0)+wZ S ws
noncomputable def SdP(m:Int)(S:List Int):Prop:=0∈S/\m-1∉S
theorem GD{m:Int}{S T:List Int}:∀{ws:List Wy},(∀w∈ws,(0<=w.s/\w.s<m)/\(0<=w.t/\w.t<m))->(∀x,0<=x->x<m->(x∈S↔x∈T))->wZ S ws=wZ T ws|[],_,_=>rfl|w::ws,h,e=>by have f:=h w (by simp);rw[wZ,wZ,GD (ws:=ws) (λv u=>h v (by simp[u])) e];simp only[e w.s f.1.1 f.1.2,e w.t f.2.1 f.2.2]
theorem M7(h:fJ m ws):∀w∈ws,(0<=w.s/\w.s<m)/\(0<=w.t/\w.t<m):=λw e=>by have:=h.ok w e;exact⟨⟨this.s0,this.s1⟩,⟨this.t0,this.t1⟩⟩
noncomputable def Jp(S:List Int)(v:Wy):Int:=if v.s∈S/\v.t∉S then v.r else 0
theorem oH{S:List Int}:∀{ws:List Wy},uU (Jp S) ws=wZ S ws|[]=>rfl|v::ws=>by rw[uU,wZ,oH];rfl
noncomputable def nS(S:List Int)(p:Int):Int:=if p∈S then 0 else 1
theorem Ends.tot{d:Int}{fs:List Int}(f:Ends m ws cs fs F d es){S:List Int}(e:SdP m S):jC cs=dJ (gap 0 (nS S)) ws fs:=by rw[f.iv.dt];refine nJ λx _=>?_;show x.2=x.2*((if m-1∈S then 0 else 1)-(if 0∈S then 0 else 1)-0*bU ws x.1);rw[if_neg e.2,if_pos e.1];simp
theorem cV.Jf(h:cV m ws cs){S:List Int}(f:SdP m S):jC cs<=wZ S ws:=by obtain⟨_,fs,F,d,es,e⟩:=h;rw[e.tot f,<-oH];refine xT e.iv.fit.len λj v g u y=>?_;have z:=e.iv.fit.ok _ _ _ u y;unfold gap nS Jp;by_cases a:v.s∈S<;>by_cases b:v.t∈S<;>simp[a,b]<;>omega
theorem cV.cut(h:cV m ws cs):∃S,SdP m S/\wZ S ws<=jC cs:=by
 obtain⟨_,fs,F,d,es,u⟩:=h;refine⟨es.map (·.1),?_,?_⟩;.exact⟨df.mpr ⟨_,u.cm.cm.z,rfl⟩,λz=>by obtain⟨⟨p,l,o⟩,he,e⟩:=df.mp z;have e:p=m-1:=e;exact u.no ⟨l,o,e▸he⟩⟩
 . have C:SdP m (es.map (·.1)):=⟨df.mpr ⟨_,u.cm.cm.z,rfl⟩,λz=>by obtain⟨⟨p,l,o⟩,he,e⟩:=df.mp z;have e:p=m-1:=e;exact u.no ⟨l,o,e▸he⟩⟩;rw[u.tot C,<-oH];have step:∀(j:Nat)(v:Wy)(g:Int),ws[j]?=a7 v->fs[j]?=a7 g->∀f:Bool,frm v f∈es.map (·.1)->too v f∉es.map (·.1)->¬ 0<qx v g f:=λj v g y A f h1 E G=>by obtain⟨⟨p,l,o⟩,he,e⟩:=df.mp h1;have e:p=frm v f:=e;subst e;obtain⟨l2,H,B,_⟩:=u.cm.cl l o (j,f) v y he (by rw[mL (s:=(j,f)) y A];simp[G]);exact E (df.mpr ⟨_,B,rfl⟩)
   refine xU u.iv.fit.len λj v g y A=>?_;have I:=u.iv.fit.ok _ _ _ y A;have s1:=step j v g y A bT;have s2:=step j v g y A a_;generalize es.map (·.1)=S at*;have s1:v.s∈S->v.t∉S->¬ 0<v.r-g:=s1;have s2:v.t∈S->v.s∉S->¬ 0<g:=s2;unfold gap nS Jp;by_cases a:v.s∈S<;>by_cases b:v.t∈S;.simp[a,b]
   .have:=s1 a b;simp[a,b];omega
   .have:=s2 b a;simp[a,b];omega
   .simp[a,b]
theorem DY{c:Call}{n:Nat}{r:List S}:∀{l:List S}{ρ f:List Sl},(∀s∈l,∀ρ,wF c n s ρ=none)->fW c n l ρ=.ok .next f->fW c n (l++r) ρ=fW c n r f/\fX c n (l++r) ρ=fX c n r f|[],ρ,f,_,h=>by rw[fW]at h;cases h;exact⟨rfl,rfl⟩|s::l,ρ,f,t,h=>by rw[fW]at h;rw[iN,fW,fX,t s (by simp)];cases e:ex c n s ρ with|stuck=>rw[e]at h;cases h|exc _ _=>rw[e]at h;cases h|ok fl u=>rw[e]at h;cases fl with|next=>exact DY (l:=l) (λs hs=>t s (by simp[hs])) h|brk=>cases h|cont=>cases h|ret _=>cases h
theorem vU{c:Call}{n:Nat}:∀{l:List S},(∀s∈l,∀ρ,wF c n s ρ=none)->∀ρ,fX c n l ρ=none|[],_,ρ=>by rw[fX]|s::l,f,ρ=>by rw[fX,f s (by simp)];cases ex c n s ρ with|stuck=>rfl|exc _ _=>rfl|ok fl e=>cases fl with|next=>exact vU (λs hs=>f s (by simp[hs])) e|brk=>rfl|cont=>rfl|ret _=>rfl
theorem pU{is:List Nat}{one:Bool}{body:List Sl->Res Fl}{f:List Sl->Option (Nat×List Sl)}(h:∀ρ,f ρ=none):∀{t:List D}{ρ:List Sl},xm is one body f t ρ=none|[],_=>rfl|d::r,ρ=>by rw[xm];cases cA ρ is one d with|none=>rfl|some e=>dsimp only;rw[h];cases body e with|stuck=>rfl|exc _ _=>rfl|ok fl u=>cases fl with|next=>exact pU h|cont=>exact pU h|brk=>rfl|ret _=>rfl
theorem G6{c:Call}{src:P}{is:List Nat}{one:Bool}{body:List S}(h0:∀ρ,iu c src ρ=none)(h:∀s∈body,∀ρ,wF c n s ρ=none)(ρ:List Sl):wF c n (.gQ src is one body) ρ=none:=by rw[wF,h0];dsimp only;cases srcOf (isVar src) (ev c src) ρ with|stuck=>rfl|exc _ _=>rfl|ok f e=>dsimp only;rw[pU (vU h)];rfl
theorem QX{c:Call}{k:Nat}:ex c n (.Aq k) ρ=.stuck:=(rfl)
noncomputable def pD(u:D×Int):D:=.tup [u.1,.int u.2]
noncomputable def IW:List (D×Int)->Int|[]=>0|u::r=>u.2+IW r
theorem K4:∀{l:List (D×Int)},(∀u∈l,0<u.2)->0<=IW l|[],_=>fh _|u::r,h=>by have h1:=h u (by simp);have f:=K4 (l:=r) λx e=>h x (by simp[e]);rw[IW];omega
inductive JCx(a0 a1:Sl)(N:Nat)(z:Int)(r:List D)(ρ:List Sl):Prop where|mk(us:List (D×Int))(bZ:List D)(q:Int)(s4 s5 s6:Sl)(q0:ρ=[a0,a1,.own a_ bZ,.val a_ (.int q),s4,s5,s6])(q1:A3 (fr s4=bT) (fr s5=bT) (fr s6=bT))(q2:r=us.map pD)(q3:(∀u∈us,0<u.2))(q4:q-IW us=z)(q5:bZ.length+us.length=N)
theorem Ka{q:Int}{l:List (D×Int)}(W:l.length<=16000000)(h0:∀u∈l,0<u.2)(X:IW l<q):∃args,run Γ w (n+1) 9 [.own a_ (l.map pD),.val a_ (.int q)]=.exc 7 args:=by
 have key:(fW (run Γ w n) w [.asg 2 (.lst []),.asg 3 (.var 1),.gQ (.var 0) [4,5] a_ [.asg 6 (.blt .min2 [.var 3,.var 5]),.app 2 (.tup [.var 4,.var 6]),.aug 3 bT (.var 6)]] [.own a_ (l.map pD),.val a_ (.int q),.aM,.aM,.aM,.aM,.aM]).sat λfl ρ=>fl=.next/\∃h t A s4 s5 s6 z,ρ=[h,t,A,.val a_ (.int z),s4,s5,s6]/\0<z:=by
  (first|apply ak|apply Hx);simp;apply ak;simp;apply ak;simp;refine bO (JCx _ _ l.length (q-IW l)) ?_ ?_ ⟨l,[],q,.aM,.aM,.aM,rfl,⟨rfl,rfl,rfl⟩,rfl,h0,rfl,by simp⟩;.rintro d r _⟨f,E,q,s4,s5,s6,rfl,⟨G,H,I⟩,hr,y,hz,J⟩;cases f with|nil=>cases hr|cons u f=>
      obtain⟨rfl,rfl⟩:d=pD u/\r=f.map pD:=by simpa using hr
      have Y:=y u (by simp);have hs:=K4 λx B=>y x (dS _ B);rw[IW]at hz;rw[dV]at J;simp[pD,G,H];apply ak;simp[I];apply ak;simp[show E.length<16777216 by omega];apply ak;simp;have L:(if u.2<q then u.2 else q)=u.2:=by split<;>omega
      rw[L];exact⟨f,_,q-u.2,_,_,_,rfl,⟨rfl,rfl,rfl⟩,rfl,λx B=>y x (by simp[B]),by omega,by simp;omega⟩
  . rintro _⟨f,E,M,s4,s5,s6,rfl,⟨G,H,I⟩,hr,y,hz,J⟩;have:f=[]:=by cases f with|nil=>rfl|cons _ _=>cases hr
    subst this;have C:0<M:=by have e:IW []=0:=rfl;rw[e]at hz;omega
    simp;exact⟨_,_,_,_,_,_,_,⟨rfl,rfl,rfl,rfl,rfl,rfl,rfl⟩,C⟩
 obtain⟨fl,ρ,e,rfl,h,t,A,s4,s5,s6,z,rfl,hz⟩:=sat_iff.mp key;obtain⟨O,U⟩:=DY (r:=[.ifs (.cmp .gt (.var 3) (.con (.int 0))) [.Aq 7] [],.ret (.var 2)]) (λs hs=>by
  simp only[c_,g9,or_false]at hs;rcases hs with rfl|rfl|rfl;.intro _;rfl
  .intro _;rfl
  .refine G6 (λ_=>rfl) λs hs=>?_;simp only[c_,g9,or_false]at hs;rcases hs with rfl|rfl|rfl<;>(intro _;rfl)) e;have t1:fW (run Γ w n) w f9.body ([.own a_ (l.map pD),.val a_ (.int q)]++cp (f9.nn-f9.np) .aM)=.stuck:=by refine O.trans ?_;simp[fW,QX,hz]
 have t2:fX (run Γ w n) w f9.body ([.own a_ (l.map pD),.val a_ (.int q)]++cp (f9.nn-f9.np) .aM)=a7 (7,[h,t,A,.val a_ (.int z),s4,s5,s6]):=by refine U.trans ?_;simp[fX,wF,jV,hz]
 refine⟨[h,t],?_⟩;rw[oJ (d:=f9) rfl];unfold enter;rw[if_pos ⟨rfl,by decide⟩,t1];dsimp only;rw[t2];rfl
theorem abP:kvs.map gO=(kvs.map λe=>(D.int e.1,e.2)).map pD:=by rw[eJ];rfl
theorem Ly:∀{kvs:List (Int×Int)},IW (kvs.map λkv=>(D.int kv.1,kv.2))=vs kvs|[]=>rfl|kv::r=>by rw[de,IW,Ly,vs]
theorem Kv{q:Int}(G:13286250<=w)(h:fJ m ws)(H:∀cs kvs,vD m ws cs kvs->_T.vs kvs<q):∃args,run Γ w (n+6) 11 [.val a_ (bC m ws),.val a_ (.int q)]=.exc 7 args:=by obtain⟨r,ρ,e,kvs,rfl,rfl,t,I,y⟩:=sat_iff.mp (lR (w:=w) (n:=n) (Q:=λr ρ=>∃kvs:List (Int×Int),r=.own (kvs.map gO)/\ρ=[.val a_ (bC m ws)]/\kvs.length<=531441/\(∀f∈kvs,1<=f.1/\0<f.2)/\_T.vs kvs<q) G h λcs fs F d es kvs t J C z A=>⟨kvs,rfl,rfl,t,C.nn,H cs kvs ⟨⟨λv y=>(h.ok v y).h0,fs,F,d,es,J⟩,C,z,A,t⟩⟩);obtain⟨args,E⟩:=Ka (w:=w) (n:=n+4) (q:=q) (l:=kvs.map λf=>(D.int f.1,f.2)) (by simp;omega) (λu L=>by obtain⟨f,B,rfl⟩:=df.mp L;exact(I f B).2) (by rw[Ly];exact y);rw[<-abP]at E;generalize kvs.map gO=M at*;rw[oJ (d:=f11) rfl];unfold enter;simp[f11,b11,fW,fX,wF,iu,mV,jE,mK,mO,mR,jJ,jz,ir,dz,aO,e,E]
noncomputable def cpD(u:List aq×Int):D×Int:=(.tup (u.1.map sD),u.2)
theorem afL:cs.map cD=(cs.map cpD).map pD:=by rw[eJ];rfl
theorem Eu:∀{cs:List (List aq×Int)},IW (cs.map cpD)=jC cs|[]=>rfl|u::r=>by rw[de,IW,Eu];rfl
theorem Nj{q:Int}(C:13286250<=w)(h:fJ m ws)(E:∀cs,cV m ws cs->jC cs<q):∃args,run Γ w (n+6) 13 [.val a_ (bC m ws),.val a_ (.int q)]=.exc 7 args:=by
 have G:=HN.of h;obtain⟨r,ρ,e,cs,rfl,rfl,z,H,f⟩:=sat_iff.mp (yN (w:=w) (n:=n+1) (Q:=λr ρ=>∃cs:List (List aq×Int),r=.own (cs.map cD)/\ρ=[.val a_ (bC m ws)]/\cs.length<=13286050/\(∀u∈cs,0<u.2)/\jC cs<q) C G (λv f=>(h.ok v f).r0) λcs fs F d es z A=>⟨cs,rfl,rfl,z,λu t=>(A.iv.ch u t).2.1,E cs ⟨λv f=>(h.ok v f).h0,fs,F,d,es,A⟩⟩);obtain⟨args,B⟩:=Ka (w:=w) (n:=n+4) (q:=q) (l:=cs.map cpD) (by simp;omega) (λu t=>by obtain⟨x,I,rfl⟩:=df.mp t;exact H x I) (by rw[Eu];exact f);rw[<-afL]at B;generalize cs.map cD=J at*;have L:=h.len;have y:j8 (.lst [.int 0]) (.int (ws.length:Int))=a7 (.own ((cp ws.length (0:Int)).map D.int)):=by show(if _ then _ else _)=_;rw[if_pos ⟨by omega,by simp,by simp;show _<=16777216;omega⟩];simp
 rw[oJ (d:=f13) rfl];unfold enter;simp[f13,b13,fW,fX,wF,iu,mV,jE,mK,mO,mR,jJ,jz,ir,dz,aO,e,B,y]
theorem Ew{c:Call}{body:List S}{bs:List (Option Bool)}:ex c n (.NP body bs) ρ=match fX c n body ρ with|some (k,_)=>if ρ.all R9=bT then match bs.getD k none with|some b=>.ok (.ret (.val (.bl b))) (cp ρ.length .aM)|none=>.stuck else .stuck|none=>.stuck:=(rfl)
theorem Ak{q:Int}{t:Int}(e:13286250<=w)(h:fJ m ws)(h1:∀cs kvs,vD m ws cs kvs->_T.vs kvs<q)(f:∀cs,cV m ws cs->jC cs<q)(k:Q (.val (.bl bT)) [.aM,.aM,.aM]):(run Γ w (n+7) 23 [.val a_ (bC m ws),.val a_ (.int q),.val a_ (.int t)]).sat Q:=by
 obtain⟨z,u⟩:=Kv (n:=n) e h h1;obtain⟨A,y⟩:=Nj (n:=n) e h f;refine bh (d:=f23) rfl rfl (by decide) ?_;(first|apply ak|apply Hx);simp[f23];apply ak;by_cases c:t=0;.simp[Ew,fX,wF,iu,mV,jE,mK,mO,mR,jJ,jz,ir,dz,aO,u,R9,jV,c];exact k
 .simp[Ew,fX,wF,iu,mV,jE,mK,mO,mR,jJ,jz,ir,dz,aO,y,R9,jV,c];exact k
theorem wC{T:Int}:∀{l:List (Int×Int)},(∀e∈l,T<e.1)->iQ (gt T) l=0|[],_=>rfl|x::l,h=>by have h1:=h x (by simp);have f:=wC (T:=T) (l:=l) λy t=>h y (by simp[t]);show gt T x.1 x.2+iQ (gt T) l=0;rw[f];unfold gt;rw[if_neg (by omega)];rfl
theorem vz{x:Int×Int}{l:List (Int×Int)}(h:(x::l).Pairwise (λa b=>a.1<b.1)):iQ (gt x.1) (x::l)=x.2:=by have h:=h8.mp h;show gt x.1 x.1 x.2+iQ (gt x.1) l=_;rw[wC h.1];unfold gt;rw[if_pos (fh _)];omega
theorem vR:∀{a b:List (Int×Int)},a.Pairwise (λa b=>a.1<b.1)->b.Pairwise (λa b=>a.1<b.1)->(∀f∈a,0<f.2)->(∀f∈b,0<f.2)->(∀T,iQ (gt T) a=iQ (gt T) b)->a=b
 |[],[],_,_,_,_,_=>rfl|[],y::b,_,t,_,A,h=>by have h1:=h y.1;rw[vz t]at h1;have H:=A y (by simp);have I:iQ (gt y.1) []=0:=rfl;omega|x::a,[],u,_,B,_,h=>by have h1:=h x.1;rw[vz u]at h1;have H:=B x (by simp);have I:iQ (gt x.1) []=0:=rfl;omega|x::a,y::b,u,t,B,A,h=>by
   have M:=B x (by simp);have O:=A y (by simp);have C:=h8.mp u;have E:=h8.mp t;have lt:¬ x.1<y.1:=λz=>by
    have h1:=h x.1;rw[vz u,wC λf hkv=>?_]at h1;.omega
    . rcases c_.mp hkv with rfl|hkv;.exact z
      .have:=E.1 f hkv;omega
   have J:¬ y.1<x.1:=λz=>by
    have h1:=h y.1;rw[vz t,wC λf hkv=>?_]at h1;.omega
    . rcases c_.mp hkv with rfl|hkv;.exact z
      .have:=C.1 f hkv;omega
   have G:x.1=y.1:=by omega
   have L:x.2=y.2:=by have h1:=h x.1;rw[vz u,G,vz t]at h1;exact h1
   have e:x=y:=oy.mpr ⟨G,L⟩;subst e;rw[vR C.2 E.2 (λf z=>B f (by simp[z])) (λf z=>A f (by simp[z])) λT=>?_];have h1:gt T x.1 x.2+iQ (gt T) a=gt T x.1 x.2+iQ (gt T) b:=h T;omega
theorem vD.uniq{t:List (List aq×Int)}{f:List (Int×Int)}(h:vD m ws cs kvs)(h':vD m ws t f):kvs=f:=vR h.so h'.so (λu z=>(h.b.nn u z).2) (λu z=>(h'.b.nn u z).2) λT=>by rw[h.b.sm _ Lj,h'.b.sm _ Lj];exact h.e.aab h'.e T
noncomputable def UL(p:Int):List Wy->List Int->Int|w::ws,f::fs=>(if w.t=p then f else 0)+UL p ws fs|_,_=>0
noncomputable def Xy(p:Int):List Wy->List Int->Int|w::ws,f::fs=>(if w.s=p then f else 0)+Xy p ws fs|_,_=>0
noncomputable def over(p:Int)(ws:List Wy)(fs:List Int):Int:=Xy p ws fs-UL p ws fs
theorem vQ{w:Wy}{f:Int}{fs:List Int}:over p (w::ws) (f::fs)=(if w.s=p then f else 0)-(if w.t=p then f else 0)+over p ws fs:=by simp only[over,Xy,UL];omega
structure Hh(m:Int)(ws:List Wy)(fs:List Int):Prop where
 fit:Ai ws fs
 r0:0<=over 0 ws fs
 mid:∀p,1<=p->p<m-1->over p ws fs=0
noncomputable def hrs(ws:List Wy)(fs:List Int):Int:=dJ (λv=>v.h) ws fs
noncomputable def SP:Nat->(Int->Int)->Int|0,_=>0|n+1,g=>SP n g+g n
theorem CW{f g:Int->Int}:∀{n:Nat},SP n (λp=>f p+g p)=SP n f+SP n g|0=>rfl|n+1=>by rw[SP,SP,SP,CW];omega
theorem Fj{q:Int->Int}{s f:Int}:∀{n:Nat},SP n (λp=>q p*(if s=p then f else 0))=if 0<=s/\s<(n:Int)then q s*f else 0
 |0=>by rw[SP,if_neg (by omega)]|n+1=>by
   rw[SP,Fj];by_cases c:s=(n:Int);.subst c;rw[if_neg (by omega),if_pos rfl,if_pos ⟨by omega,by omega⟩];omega
   . rw[if_neg c,m4,pV];by_cases d:0<=s/\s<(n:Int);.rw[if_pos d,if_pos ⟨d.1,by omega⟩]
     .rw[if_neg d,if_neg (by omega)]
theorem Uj:∀{n:Nat}{g:Int->Int},(∀p:Int,0<=p->p<(n:Int)->g p=0)->SP n g=0|0,_,_=>rfl|n+1,g,h=>by rw[SP,Uj λp e p1=>h p e (by omega),h n (by omega) (by omega)];rfl
theorem M9:∀{n:Nat}{f g:Int->Int},(∀p:Int,0<=p->p<(n:Int)->f p=g p)->SP n f=SP n g|0,_,_,_=>rfl|n+1,f,g,h=>by rw[SP,SP,M9 λp e p1=>h p e (by omega),h n (by omega) (by omega)]
theorem Nh{g:Int->Int}:∀{n:Nat},(∀p:Int,1<=p->p<(n:Int)+1->g p=0)->SP (n+2) g=g 0+g ((n:Int)+1)|0,_=>by show 0+g 0+g 1=g 0+g 1;omega|n+1,h=>by rw[SP,Nh (n:=n) λp e p1=>h p e (by omega),h ((n:Int)+1) (by omega) (by omega)];show g 0+0+g ((n+1+1:Nat):Int)=_;rw[show((n+1+1:Nat):Int)=((n+1:Nat):Int)+1 by omega];omega
theorem xQ{M:Nat}{k:Int}{q:Int->Int}:∀{ws:List Wy}{fs:List Int},(∀w∈ws,(0<=w.s/\w.s<(M:Int))/\(0<=w.t/\w.t<(M:Int)))->dJ (gap k q) ws fs=-SP M (λp=>q p*over p ws fs)-k*hrs ws fs
 |[],fs,_=>by
   have:SP M (λp=>q p*over p [] fs)=0:=Uj λp _ _=>by show q p*(0-0)=0;simp
   rw[this];unfold hrs;cases fs<;>simp[dJ]|v::ws,[],_=>by
   have:SP M (λp=>q p*over p (v::ws) [])=0:=Uj λp _ _=>by show q p*(0-0)=0;simp
   rw[this];unfold hrs;simp[dJ]|v::ws,g::fs,h=>by
   have f:=h v (by simp);have u:=xQ (M:=M) (k:=k) (q:=q) (ws:=ws) (fs:=fs) λw y=>h w (by simp[y]);have e:SP M (λp=>q p*over p (v::ws) (g::fs))=q v.s*g-q v.t*g+SP M (λp=>q p*over p ws fs):=by
    have z:SP M (λp=>q p*over p (v::ws) (g::fs))=SP M (λp=>(q p*(if v.s=p then g else 0)+(-q p)*(if v.t=p then g else 0))+q p*over p ws fs):=M9 λp _ _=>by rw[vQ,ng,m_,Int.neg_mul];omega
    rw[z,CW,CW,Fj,Fj (q:=λp=>-q p),if_pos ⟨f.1.1,f.1.2⟩,if_pos ⟨f.2.1,f.2.2⟩,Int.neg_mul];omega
   rw[e];show gap k q v*g+dJ (gap k q) ws fs=_-k*(v.h*g+hrs ws fs);rw[u];unfold gap;rw[Int.sub_mul,Int.sub_mul,ng,Int.mul_assoc];omega
theorem Hh.dot{fs:List Int}(h:Hh m ws fs)(e:fJ m ws):dJ (gap k q) ws fs=over 0 ws fs*(q (m-1)-q 0)-k*hrs ws fs:=by
 obtain⟨n,E⟩:∃n:Nat,m=(n:Int)+2:=⟨(m-2).toNat,by have:=e.m0;omega⟩;have f:∀w∈ws,(0<=w.s/\w.s<((n+2:Nat):Int))/\(0<=w.t/\w.t<((n+2:Nat):Int)):=λw u=>by have:=M7 e w u;omega
 have two:∀q:Int->Int,SP (n+2) (λp=>q p*over p ws fs)=q 0*over 0 ws fs+q (m-1)*over (m-1) ws fs:=λq=>by rw[Nh λp y p1=>by rw[h.mid p y (by omega),m4],show(n:Int)+1=m-1 by omega]
 have A:=xQ (M:=n+2) (k:=0) (q:=λ_=>1) (fs:=fs) f;rw[two (λ_=>1)]at A;have z:dJ (gap 0 λ_=>1) ws fs=0:=by
  have:∀(ws:List Wy)(fs:List Int),dJ (gap 0 λ_=>1) ws fs=0:=λws=>by induction ws with|nil=>intro fs;cases fs<;>rfl|cons v ws B=>intro fs;cases fs with|nil=>rfl|cons g fs=>show gap 0 (λ_=>1) v*g+dJ _ ws fs=0;rw[B];unfold gap;simp
  exact this ws fs
 rw[xQ f,two q];have C:over (m-1) ws fs=-over 0 ws fs:=by omega
 rw[C,m_,ic (q 0),qV,ic (q (m-1))];omega
theorem Xo{fs:List Int}(h:Ai ws fs)(h1:∀v∈ws,1<=v.h):0<=hrs ws fs:=by
 have:=xU (G:=λv=>v.h) (H:=λ_=>0) h.len λj v g e f=>by have a:=h1 v (dQ e);have b:=(h.ok _ _ _ e f).1;exact Int.mul_nonneg (by omega) b
 have z:∀ws:List Wy,uU (λ_=>0) ws=0:=λws=>by induction ws with|nil=>rfl|cons v ws t=>rw[uU,t];rfl
 rw[z]at this;exact this
theorem Hh.le{fs:List Int}(h:Hh m ws fs)(z:fJ m ws)(A:cV m ws cs):over 0 ws fs<=jC cs:=by
 obtain⟨S,y,hc⟩:=A.cut;have e:=h.dot (k:=0) (q:=nS S) z;have f:nS S (m-1)=1:=if_neg y.2;have u:nS S 0=0:=if_pos y.1;rw[f,u]at e;have:=xT (G:=gap 0 (nS S)) (H:=Jp S) h.fit.len λj v g f u=>by have B:=h.fit.ok _ _ _ f u;unfold gap nS Jp;by_cases a:v.s∈S<;>by_cases b:v.t∈S<;>simp[a,b]<;>omega
 rw[oH]at this;omega
theorem Hh.least{m:Int}{ws:List Wy}{fs:List Int}{cs:List (List aq×Int)}{kvs:List (Int×Int)}(h:Hh m ws fs)(z:fJ m ws)(f:vD m ws cs kvs):lh kvs (over 0 ws fs)<=hrs ws fs:=by
 have t:=h.le z f.e;rw[<-f.vs]at t;by_cases c:over 0 ws fs=0;.rw[c,G3 f.b.nn];exact Xo h.fit f.e.1
 .have r0:=h.r0;obtain⟨u,y,e⟩:=Td f.b.nn f.so (q:=over 0 ws fs) (by omega) t;have E:=(f.b.nn u y).1;rw[<-e,f.vt];obtain⟨q,A,B,C⟩:=(f.e.least (T:=u.1-1) (by omega)).ex;have:=xr (q:=q) h.fit;rw[h.dot z,A,B,C,show u.1-1+1-0=u.1 by omega,ic (over 0 ws fs)]at this;omega
noncomputable def uB:List (List aq×Int)->Int->List (List aq×Int)|[],_=>[]|x::r,q=>(x.1,min q x.2)::uB r (q-min q x.2)
noncomputable def Yn:List (List aq×Int)->Int->Int|[],q=>q|x::r,q=>Yn r (q-min q x.2)
theorem O5:∀{l:List (List aq×Int)}{q:Int},(uB l q).length=l.length|[],_=>rfl|x::r,q=>by rw[uB,dV,O5,dV]
theorem QQ:∀{l:List (List aq×Int)}{q:Int}{y:List aq×Int},y∈uB l q->∃x∈l,y.1=x.1
 |[],_,_,h=>by cases h|x::r,q,y,h=>by
   rw[uB,c_]at h;rcases h with rfl|h;.exact⟨x,by simp,rfl⟩
   .obtain⟨z,hz,e⟩:=QQ h;exact⟨z,by simp[hz],e⟩
theorem RM:∀{l:List (List aq×Int)}{q:Int},(∀x∈l,0<x.2)->0<=q->q<=jC l->Yn l q=0
 |[],q,_,h0,h1=>by have h1:q<=0:=h1;rw[Yn];omega|x::r,q,h,h0,h1=>by
   have u:=h x (by simp);have h1:q<=x.2+jC r:=h1;have hr:0<=jC r:=by
    have:∀(l:List (List aq×Int)),(∀x∈l,0<x.2)->0<=jC l:=λl=>by induction l with|nil=>intro _;exact fh _|cons y l f=>intro e;have A:=f λz hz=>e z (by simp[hz]);have B:=e y (by simp);show 0<=y.2+jC l;omega
    exact this r λz hz=>h z (by simp[hz])
   rw[Yn];exact RM (λy t=>h y (by simp[t])) (by omega) (by omega)
theorem Ko{fs:List Int}:∀{c:List aq},aug 0 fs c=fs
 |[]=>rfl|s::c=>by
   show aug 0 (kh 0 fs s) c=fs;have:kh 0 fs s=fs:=by
    unfold kh;have h0:sg 0 s.2=0:=by cases s.2<;>rfl
    rw[h0,pV];refine List.ext_getElem? λi=>?_;rw[lc];split
    . rename_i e;subst e;split;.rename_i h;simp[h]
      .rename_i h;simp at h;simp[h]
    .rfl
   rw[this,Ko]
structure YJ(m:Int)(ws:List Wy)(ts:List (List aq×Int))(fs:List Int):Prop where
 fit:Ai ws fs
 ht:∃F,Pt ws fs F/\F 0=0
 dt:∀k q,dJ (gap k q) ws fs=bQ (λx=>x.2*(q (m-1)-q 0-k*bU ws x.1)) ts
theorem Te:∀{l:List (List aq×Int)}{fs:List Int}{H:List aq×Int->Int},(∀x∈l,0<x.2)->(∀c,H (c,0)=0)->(uB l 0).foldl tE fs=fs/\bQ H (uB l 0)=0
 |[],_,_,_,_=>⟨rfl,rfl⟩|x::r,fs,H,h,f=>by
   have A:=h x (by simp);have t:=Te (l:=r) (fs:=fs) (λy u=>h y (by simp[u])) f;have e:uB (x::r) 0=(x.1,0)::uB r 0:=by rw[uB,show min 0 x.2=0 by omega,ro]
   rw[e,foldl_cons,bQ,f,t.2];have z:tE fs (x.1,0)=fs:=Ko;rw[z];exact⟨t.1,rfl⟩
theorem p8{H:List aq×Int->Int}{b:List (List aq×Int)}:∀{a:List (List aq×Int)},bQ H (a++b)=bQ H a+bQ H b|[]=>by simp[bQ]|x::a=>by rw[iN,bQ,bQ,p8];omega
theorem Ends.light{d:Int}{fs:List Int}(A:Ends m ws cs fs F d es):∀(f t:List (List aq×Int))(q:Int),t++f=cs->0<=q->YJ m ws (t++uB f q) ((uB f q).foldl tE (flow ws.length t)):=by
 have pos:∀x∈cs,0<x.2:=λx G=>(A.iv.ch x G).2.1;have B:∀t f,t++f=cs->YJ m ws t (flow ws.length t):=λt f e=>by cases f with|nil=>rw[e_]at e;subst e;rw[<-A.fl];exact⟨A.iv.fit,⟨F,A.iv.pt,A.iv.z⟩,A.iv.dt⟩|cons x r=>have s:=A.st.2 t x r e.symm;obtain⟨I,d0,iv⟩:=s.iv;exact⟨iv.fit,⟨I,iv.pt,iv.z⟩,iv.dt⟩
 have zero:∀(f C:List (List aq×Int))(gs:List Int),(∀x∈f,0<x.2)->YJ m ws C gs->YJ m ws (C++uB f 0) ((uB f 0).foldl tE gs):=λf C gs J h=>by have hz:=λH L=>Te (l:=f) (fs:=gs) (H:=H) J L;rw[(hz (λ_=>0) λ_=>rfl).1];refine⟨h.fit,h.ht,λk q=>?_⟩;rw[p8,(hz (λx=>x.2*(q (m-1)-q 0-k*bU ws x.1)) λc=>by simp).2,h.dt,pV]
 intro f;induction f with|nil=>intro t q e _;rw[uB,e_];exact B t [] e|cons x r M=>
   intro t q e X;have G:=pos x (by rw[<-e];simp);have hr:∀y∈r,0<y.2:=λy O=>pos y (by rw[<-e];simp[O]);rw[uB];by_cases c:x.2<=q
   . have E:min q x.2=x.2:=by omega
     rw[E];have:=M (t++[x]) (q-x.2) (by rw[eF];exact e) (by omega);rw[eF,yV]at this;exact this
   . have E:min q x.2=q:=by omega
     rw[E,ro,foldl_cons];have s:=A.st.2 t x r e.symm;have ck:=A.ck x (by rw[<-e];simp);obtain⟨F1,p1,p2,p3⟩:=s.ht;obtain⟨I,d0,iv⟩:=s.iv;have g:YJ m ws (t++[(x.1,q)]) (tE (flow ws.length t) (x.1,q)):=by
      show YJ m ws _ (aug q (flow ws.length t) x.1);refine⟨?_,⟨F1,p1.aug ck.2.2.1 s.op (by rw[p2,p3];omega),p2⟩,λk Y=>?_⟩
      . by_cases z:q=0;.subst z;rw[Ko];exact iv.fit
        .refine iv.fit.aug ck.2.2.2 (by omega) λu U=>?_;obtain⟨v,g,h1,W,Z⟩:=s.rm u U;exact⟨v,g,h1,W,by omega⟩
      .rw[wL iv.fit.len ck.2.2.1,iv.dt,kj]
     have:=zero r _ _ hr g;rw[eF]at this;exact this
noncomputable def dl(a:Int)(p:Int):Int:=if p=a then 1 else 0
theorem Ni{fs:List Int}(f:fJ m ws)(h:0<=a)(A:a<m):dJ (gap 0 (dl a)) ws fs=-over a ws fs:=by
 have u:∀w∈ws,(0<=w.s/\w.s<((m.toNat:Nat):Int))/\(0<=w.t/\w.t<((m.toNat:Nat):Int)):=λw y=>by have:=M7 f w y;omega
 rw[xQ u];have:SP m.toNat (λp=>dl a p*over p ws fs)=over a ws fs:=by
  have e:SP m.toNat (λp=>dl a p*over p ws fs)=SP m.toNat (λp=>over p ws fs*(if a=p then 1 else 0)):=M9 λp _ _=>by
   unfold dl;by_cases c:p=a;.rw[if_pos c,if_pos c.symm];omega
   .rw[if_neg c,if_neg λz=>c z.symm];omega
  rw[e,Fj (q:=λp=>over p ws fs),if_pos ⟨h,by omega⟩,mul_one]
 rw[this];omega
theorem DW:∀{l:List (List aq×Int)}{q:Int},jC (uB l q)=q-Yn l q|[],q=>by show(0:Int)=q-q;omega|x::r,q=>by rw[uB,Yn];show min q x.2+jC (uB r (q-min q x.2))=_;rw[DW];omega
noncomputable def prs(ws:List Wy)(cs:List (List aq×Int)):List (Int×Int):=cs.map λx=>(bU ws x.1,x.2)
theorem J8{ws:List Wy}:∀{l:List (List aq×Int)}{q:Int},bQ (λx=>bU ws x.1*x.2) (uB l q)=lh (prs ws l) q|[],_=>rfl|x::r,q=>by rw[uB,bQ,J8];rfl
theorem wJ{ws:List Wy}{W:Int->Int->Int}:∀{l:List (List aq×Int)},iQ W (prs ws l)=bQ (λx=>W (bU ws x.1) x.2) l|[]=>rfl|x::r=>by show W (bU ws x.1) x.2+iQ W (prs ws r)=_;rw[wJ];rfl
theorem KH:∀{l:List (Int×Int)}{q:Int},(∀kv∈l,1<=kv.1/\0<kv.2)->l.Pairwise (λa b=>a.1<=b.1)->0<q->q<=vs l->∃kv∈l,kv.1*q-iQ (vt (kv.1-1)) l=lh l q
 |[],q,_,_,h0,h1=>by rw[vs]at h1;omega|kv::r,q,h,t,h0,h1=>by
   have z:=h kv (by simp);have hr:∀x∈r,1<=x.1/\0<x.2:=λx f=>h x (by simp[f]);have t:=h8.mp t;rw[vs]at h1;by_cases c:q<=kv.2;.refine⟨kv,by simp,?_⟩;rw[lh,show min q kv.2=q by omega,ro,G3 hr,iQ,Lf λx f=>by have:=t.1 x f;unfold vt;rw[if_neg (by omega)]];unfold vt;rw[if_neg (by omega)];omega
   . obtain⟨x,f,e⟩:=KH (l:=r) (q:=q-kv.2) hr t.2 (by omega) (by omega);have u:=t.1 x f;refine⟨x,by simp[f],?_⟩;rw[lh,show min q kv.2=kv.2 by omega,<-e,iQ];have y:vt (x.1-1) kv.1 kv.2=kv.2*x.1-kv.2*kv.1:=by
      unfold vt;by_cases d:kv.1<=x.1-1;.rw[if_pos d,<-m_];congr 1;omega
      .rw[if_neg d,show x.1=kv.1 by omega];omega
     rw[y,m_,ic x.1 kv.2,ic kv.1 kv.2];omega
theorem Vy{l:List (List aq×Int)}:vs (prs ws l)=jC l:=by rw[<-Cy,wJ];rfl
theorem aeA:bQ (λ_=>0) cs=0:=by induction cs with|nil=>rfl|cons x cs e=>rw[bQ,e];rfl
theorem LR{q:Int}(y:fJ m ws)(h:vD m ws cs kvs)(A:0<=q)(B:q<=jC cs):∃fs,Hh m ws fs/\over 0 ws fs=q/\hrs ws fs=lh kvs q:=by
 have m0:=y.m0;obtain⟨h1,fs,F,d,es,C⟩:=h.e;have pos:∀x∈cs,0<x.2:=λx E=>(C.iv.ch x E).2.1;have L:=C.light cs [] q rfl A;rw[oN]at L;generalize(uB cs q).foldl tE (flow ws.length [])=gs at L;have u:jC (uB cs q)=q:=by rw[DW,RM pos A B];omega
 have ov:∀a,0<=a->a<m->-over a ws gs=q*(dl a (m-1)-dl a 0):=λa J M=>by
  rw[<-Ni y J M,L.dt];have:∀(l:List (List aq×Int))(z:Int),bQ (λx=>x.2*(z-0*bU ws x.1)) l=jC l*z:=λl z=>by induction l with|nil=>show(0:Int)=0*z;simp|cons x l G=>rw[bQ,G];show x.2*(z-0*bU ws x.1)+jC l*z=(x.2+jC l)*z;rw[add_mul,Int.zero_mul,mP]
  rw[this,u]
 have I:over 0 ws gs=q:=by have:=ov 0 (by omega) (by omega);rw[show dl 0 (m-1)=0 from if_neg (by omega),show dl 0 0=1 from if_pos rfl]at this;omega
 have R:Hh m ws gs:=⟨L.fit,by omega,λp U p1=>by have:=ov p (by omega) (by omega);rw[show dl p (m-1)=0 from if_neg (by omega),show dl p 0=0 from if_neg (by omega)]at this;omega⟩;refine⟨gs,R,I,Int.le_antisymm ?_ (by rw[<-I];exact R.least y h)⟩;have O:hrs ws gs=lh (prs ws cs) q:=by
  have H:=R.dot (k:=1) (q:=λ_=>0) y;rw[L.dt]at H;rw[<-J8];have:∀l:List (List aq×Int),bQ (λx=>x.2*((0:Int)-0-1*bU ws x.1)) l=-bQ (λx=>bU ws x.1*x.2) l:=λl=>by induction l with|nil=>rfl|cons x l G=>rw[bQ,bQ,G,show(0:Int)-0-1*bU ws x.1=-bU ws x.1 by omega,qV,ic];omega
  rw[this]at H;simp at H;omega
 rw[O];have pn:∀f∈prs ws cs,1<=f.1/\0<f.2:=λf t=>by obtain⟨x,E,rfl⟩:=df.mp t;exact h.e.nn x E
 by_cases c:q=0;.subst c;rw[G3 pn,G3 h.b.nn];exact fh _
 . have so:(prs ws cs).Pairwise (λa b=>a.1<=b.1):=by unfold prs;rw[m2];exact C.st.1
   obtain⟨f,t,e⟩:=KH pn so (q:=q) (by omega) (by rw[Vy];exact B);have W:=(pn f t).1;rw[<-e,wJ,<-h.b.sm _ Lx];have:=S7 (T:=f.1-1) h.b.nn A (by rw[h.vs];exact B);rw[show f.1-1+1=f.1 by omega]at this;exact this
@[simp]theorem TJ{i n:Nat}{a f:P}{is:List Nat}{one:Bool}{e:Option P}:isVar (.wj i a n is one e f)=none:=rfl
@[simp]theorem abG{c:Call}{i n:Nat}{a t:P}{is:List Nat}{one:Bool}{f:Option P}{ρ:List Sl}:ev c (.wj i a n is one f t) ρ=(JG i (ev c a) ρ).bind λu e=>if u.1.length<=lim then(p7 c is one f t u.1 (e++cp n .aM)).bind λxs h=>.ok (.own xs) (aP u.2 (a7 i) (h.take e.length))else .stuck:=(rfl)
theorem QT{i:Nat}{f:Ev}:JG i f ρ=(f ρ).bind λr e=>(lift (items r.d) e).bind λes e=>match e[i]?with|some (.val _ d)=>(lift (items d) e).bind λh e=>.ok ((es.zip h).map λp=>D.tup [p.1,p.2],e) e|some (.own _ h)=>.ok ((es.zip h).map λp=>D.tup [p.1,p.2],e) (e.set i (.lent h))|some (.lent h)=>.ok ((es.zip h).map λp=>D.tup [p.1,p.2],e) e|_=>.stuck:=rfl
theorem afW:Hf v.d (.int 0)=a7 (.val (.int v.s)):=by simp[Wy.d]
theorem aeP:Hf v.d (.int 1)=a7 (.val (.int v.t)):=by simp[Wy.d]
theorem Wk:Hf v.d (.int 2)=a7 (.val (.int v.r)):=by simp[Wy.d]
theorem afG:Hf v.d (.int 3)=a7 (.val (.int v.h)):=by simp[Wy.d]
noncomputable def rK(cl:List Int)(p:Int):Int:=cl.getD p.toNat 0
theorem CV{cl:List Int}(h0:0<=p)(h1:p<(cl.length:Int)):at' (cl.map D.int) p=a7 (.int (rK cl p)):=by
 obtain⟨j,rfl⟩:∃j:Nat,p=j:=⟨p.toNat,by omega⟩;have e:j<cl.length:=by omega
 rw[gP (x:=cl[j]) (by simp[e])];unfold rK;simp[e]
theorem MN:∀(ws:List Wy)(fs:List Int),((ws.map Wy.d).zip (fs.map D.int)).map (λp=>D.tup [p.1,p.2])=(ws.zip fs).map λp=>D.tup [p.1.d,.int p.2]|[],_=>by simp|_::_,[]=>by simp|w::ws,f::fs=>by simp[MN ws fs]
noncomputable def Within(ws:List Wy)(fs:List Int):Prop:=∀(k:Nat)(w:Wy)(f:Int),ws[k]?=a7 w->fs[k]?=a7 f->0<=f/\f<=w.r
noncomputable def xV(m:Int)(ws:List Wy)(fs:List Int):Prop:=fs.length=ws.length/\Within ws fs/\0<=over 0 ws fs/\∀p,1<=p->p<m-1->over p ws fs=0
theorem vh{fs:List Int}:xV m ws fs↔Hh m ws fs:=⟨λh=>⟨⟨h.1,h.2.1⟩,h.2.2.1,h.2.2.2⟩,λh=>⟨h.fit.len,h.fit.ok,h.r0,h.mid⟩⟩
theorem Mg{fs:List Int}:Within (v::ws) (g::fs)↔(0<=g/\g<=v.r)/\Within ws fs:=by
 constructor;.intro h;exact⟨h 0 v g rfl rfl,λk u f e t=>h (k+1) u f (by simpa using e) (by simpa using t)⟩
 .rintro⟨h1,y⟩k u f e t;cases k with|zero=>simp at e t;subst e t;exact h1|succ k=>exact y k u f (by simpa using e) (by simpa using t)
noncomputable def neD:D->Option D|.int i=>if i=0 then none else a7 (.int i)|_=>none
theorem Ey:∀{l:List Int},(l.map D.int).filterMap neD=(l.filter λi=>decide (i≠0)).map D.int
 |[]=>rfl|i::l=>by
   rw[de,gT,Ey,List.filter_cons];rw[show neD (.int i)=if i=0 then none else a7 (.int i)from rfl];by_cases c:i=0;.simp[c]
   .simp[c]
structure LsP(m:Int)(ws us:List Wy)(fs gs ls:List Int):Prop where
 len:(ls.length:Int)=m
 ov:∀p,0<=p->p<m->rK ls p+over p us gs=over p ws fs
 wi:Within ws fs↔Within us gs
 fl:gs.length=us.length
 ok:∀v∈us,v.Ok m
inductive JLr(m:Int)(ws:List Wy)(fs:List Int)(a0 a1 a2 a3:Sl)(r:List D)(ρ:List Sl):Prop where|mk(us:List Wy)(gs ls:List Int)(s5 s6:Sl)(q0:ρ=[a0,a1,a2,a3,.own a_ (ls.map D.int),s5,s6])(q1:(fr s5=bT/\fr s6=bT))(q2:r=(us.zip gs).map (λp=>D.tup [p.1.d,.int p.2]))(q3:LsP m ws us fs gs ls)
theorem Gi{ls:List Int}{x:Int}(e:j<ls.length)(h0:0<=p):rK (ls.set j x) p=if p=j then x else rK ls p:=by
 unfold rK;by_cases c:p=j;.subst c;rw[if_pos rfl];simp[e]
 .rw[if_neg c,fm,ew (by omega),<-fm]
theorem ae9{e:List D}:Oh (.lst e) (part (.con (.int 1)) (.int 1)) (part (.neg (.con (.int 1))) (.int (-1)))=a7 (.own (cut e (a7 1) (a7 (-1)))):=rfl
inductive FLr(a b c d e f g:Sl)(ρ:List Sl):Prop where|mk(s:Sl)(q0:ρ=[a,b,c,d,e,f,g,s])(q1:fr s=bT)
theorem Rj{ls:List Int}(h:2<=ls.length):((cut ls (a7 1) (a7 (-1))).filter λi=>decide (i≠0))=[]↔∀p:Int,1<=p->p<(ls.length:Int)-1->rK ls p=0:=by
 have e:cut ls (a7 1) (a7 (-1))=(ls.drop 1).take (ls.length-1-1):=by show(ls.drop (min 1 ls.length)).take ((-1+(ls.length:Int)).toNat-min 1 ls.length)=_;rw[show min 1 ls.length=1 by omega,show(-1+(ls.length:Int)).toNat=ls.length-1 by omega]
 rw[e,List.filter_eq_nil_iff];constructor;.intro z p y p1;have:=z (rK ls p) (dQ (i:=p.toNat-1) (by rw[ki (by omega),List.getElem?_drop,show 1+(p.toNat-1)=p.toNat by omega];unfold rK;rw[fm,fS (by omega)];rfl));simpa using this
 .intro z a u;obtain⟨j,f⟩:=lp u;have t:=(fu f).1;rw[ky,mu]at t;rw[ki (by omega),List.getElem?_drop]at f;have:=z (((1+j:Nat)):Int) (by omega) (by omega);unfold rK at this;rw[fm,ml,f]at this;simpa using this
theorem Hm{fs:List Int}(h:fJ m ws)(hf:fs.length=ws.length)(k:∀d:D,(d=.non/\¬ xV m ws fs\/d=.int (over 0 ws fs)/\xV m ws fs)->Q (.val d) [.val a_ (bC m ws),.val a_ (.tup (fs.map D.int))]):(run Γ w (n+1) 20 [.val a_ (bC m ws),.val a_ (.tup (fs.map D.int))]).sat Q:=by
 have hn:=h.len;have m0:=h.m0;have m1:=h.m1;obtain⟨M,hM⟩:∃M:Nat,m=M:=⟨m.toNat,by omega⟩;refine bh (d:=f20) rfl rfl (by decide) ?_;refine eZ (λρ=>ρ=[.val a_ (bC m ws),.val a_ (.tup (fs.map D.int)),.val a_ (.int m),.val a_ (.tup (ws.map Wy.d)),.aM,.aM,.aM]) ?_ ?_;.simp[f20,bC]
 rintro _ rfl;refine eZ (λρ=>ρ=[.val a_ (bC m ws),.val a_ (.tup (fs.map D.int)),.val a_ (.int m),.val a_ (.tup (ws.map Wy.d)),.own a_ ((cp M (0:Int)).map D.int),.aM,.aM]) ?_ ?_;.subst hM;simp;show _<=16777216;omega
 rintro _ rfl;have ae:(0:Int)<m:=by omega
 have j0:LsP m ws ws fs fs (cp M 0):=⟨by simp[hM],λp C p1=>by
  have:rK (cp M 0) p=0:=by unfold rK;simp[fm,hU];split<;>rfl
  omega,Iff.rfl,hf,h.ok⟩;have ZV:(ws.zip fs).length<=16777216:=by rw[length_zip];omega
 have X:=MN ws fs;(first|apply ak|apply Hx);all_goals
  simp;rw[X];refine bO (JLr m ws fs _ _ _ _) ?_ ?_ ⟨ws,fs,cp M 0,.aM,.aM,by rw[List.map_replicate],⟨rfl,rfl⟩,rfl,j0⟩;.rintro d r _⟨E,gs,ls,s5,s6,rfl,⟨h5,h6⟩,hr,A⟩;cases E with|nil=>simp at hr|cons v E=>cases gs with|nil=>simp at hr|cons g gs=>
        obtain⟨rfl,rfl⟩:d=D.tup [v.d,.int g]/\r=(E.zip gs).map (λp=>D.tup [p.1.d,.int p.2]):=by simpa using hr
        have I:=A.ok v (by simp);have J:=A.len;have s0:=I.s0;have s1:=I.s1;have t0:=I.t0;have t1:=I.t1;have ne:=I.ne;have O:=Mg (v:=v) (g:=g) (ws:=E) (fs:=gs);have kn:¬(0<=g/\g<=v.r)->¬ xV m ws fs:=λz y=>z (O.mp (A.wi.mp y.2.1)).1;simp[h5,h6];apply ak;by_cases c1:g<0;.simp[c1];(first|apply ak|apply Hx);simp;exact k _ (.inl ⟨rfl,kn (by omega)⟩)
        by_cases c2:v.r<g;.simp[c1,c2,Wk];(first|apply ak|apply Hx);simp;exact k _ (.inl ⟨rfl,kn (by omega)⟩)
        simp[c1,c2,Wk];have a1:=CV (cl:=ls) s0 (by omega);have x1:jm ls.length v.s=a7 v.s.toNat:=by unfold jm;rw[if_pos s0,if_pos (by omega)]
        have x2:jm ls.length v.t=a7 v.t.toNat:=by unfold jm;rw[if_pos t0,if_pos (by omega)]
        (first|apply ak|apply Hx);simp[afW,a1,x1];have Y:(ls.map D.int).set v.s.toNat (.int (rK ls v.s+g))=(ls.set v.s.toNat (rK ls v.s+g)).map D.int:=by rw[rb]
        rw[Y];have q1:=λp h0=>Gi (ls:=ls) (j:=v.s.toNat) (x:=rK ls v.s+g) (p:=p) (by omega) h0;have l1:(ls.set v.s.toNat (rK ls v.s+g)).length=ls.length:=by simp
        generalize ls.set v.s.toNat (rK ls v.s+g)=l2 at*;have a2:=CV (cl:=l2) t0 (by omega);(first|apply ak|apply Hx);rw[<-l1]at x2;simp[aeP,a2,x2];have e2:(l2.map D.int).set v.t.toNat (.int (rK l2 v.t-g))=(l2.set v.t.toNat (rK l2 v.t-g)).map D.int:=by rw[rb]
        rw[e2];refine⟨E,gs,l2.set v.t.toNat (rK l2 v.t-g),_,_,rfl,⟨rfl,rfl⟩,rfl,⟨by rw[oU];omega,λp C p1=>?_,?_,by have:=A.fl;simpa using this,λu hu=>A.ok u (by simp[hu])⟩⟩
        . have:=A.ov p C p1;rw[vQ]at this;have qt:rK l2 v.t=rK ls v.t:=by rw[q1 v.t t0,if_neg (by omega)]
          rw[Gi (by omega) C,qt,q1 p C,show((v.t.toNat:Nat):Int)=v.t by omega,show((v.s.toNat:Nat):Int)=v.s by omega];by_cases U:p=v.t;.rw[if_pos U];rw[if_neg (by omega),if_pos U.symm]at this;rw[<-U];omega
          . rw[if_neg U];rw[if_neg (c:=v.t=p) (λz=>U z.symm)]at this;by_cases W:p=v.s;.rw[if_pos W];rw[if_pos W.symm]at this;rw[<-W];omega
            .rw[if_neg W];rw[if_neg λz=>W z.symm]at this;omega
        .rw[A.wi,O];exact⟨λz=>z.2,λz=>⟨⟨by omega,by omega⟩,z⟩⟩
  . rintro _⟨E,gs,ls,s5,s6,rfl,⟨h5,h6⟩,hr,A⟩;have:E=[]:=by have:=A.fl;cases E with|nil=>rfl|cons _ _=>cases gs with|nil=>simp at this|cons _ _=>simp at hr
    subst this;have B:∀p,0<=p->p<m->rK ls p=over p ws fs:=λp C p1=>by have:=A.ov p C p1;have e:over p [] gs=0:=rfl;omega
    have Z:Within ws fs:=A.wi.mpr λk u f Y _=>by simp at Y
    have J:=A.len;have a0:=CV (cl:=ls) (p:=0) (by omega) (by omega);(first|apply ak|apply Hx);by_cases c0:rK ls 0<0;.simp[a0,c0];(first|apply ak|apply Hx);simp;exact k _ (.inl ⟨rfl,λz=>by have:=z.2.2.1;rw[<-B 0 (by omega) (by omega)]at this;omega⟩)
    have ac:(cut ls (a7 1) (a7 (-1))).length<=16777216:=fR Mf (by omega);have G:=Rj (ls:=ls) (by omega);simp[a0,c0,ae9,yr,ac];refine Ht (FLr _ _ _ _ _ _ _) neD ⟨.aM,rfl,rfl⟩ ?_ ?_
    . rintro d hd _⟨s,rfl,hs⟩;obtain⟨i,hi,rfl⟩:=df.mp hd;rw[show neD (.int i)=if i=0 then none else a7 (.int i)from rfl];by_cases c:i=0;.simp[hs,c];exact⟨_,rfl,rfl⟩
      .simp[hs,c];exact⟨_,rfl,rfl⟩
    rintro _⟨s,rfl,hs⟩;rw[Ey];generalize((cut ls (a7 1) (a7 (-1))).filter λi=>decide (i≠0))=L at*;simp[QV];refine⟨λH=>?_,λH=>?_⟩;. (first|apply ak|apply Hx);simp[a0];exact k _ (.inr ⟨by rw[B 0 (by omega) (by omega)],hf,Z,by rw[<-B 0 (by omega) (by omega)];omega,λp C p1=>by rw[<-B p (by omega) (by omega)];exact G.mp H p C (by omega)⟩)
    . (first|apply ak|apply Hx);simp;exact k _ (.inl ⟨rfl,λz=>H (G.mpr λp C p1=>by rw[B p (by omega) (by omega)];exact z.2.2.2 p C (by omega))⟩)
noncomputable def hmD:D->D|.tup [.tup [_,_,_,.int h],.int g]=>.int (h*g)|d=>d
theorem Ea:∀(ws:List Wy)(fs:List Int),((ws.zip fs).map λp=>p.1.h*p.2).sum=hrs ws fs|[],fs=>by cases fs<;>rfl|_::_,[]=>rfl|v::ws,g::fs=>by rw[List.zip_cons_cons,de,mM,Ea];rfl
inductive F4h(a b:Sl)(ρ:List Sl):Prop where|mk(s:Sl)(t:Sl)(q0:ρ=[a,b,s,t])(q1:fr s=bT)(q2:fr t=bT)
theorem Fe{fs:List Int}(h:fJ m ws)(k:Q (.val (.int (hrs ws fs))) [.val a_ (bC m ws),.val a_ (.tup (fs.map D.int))]):(run Γ w (n+1) 21 [.val a_ (bC m ws),.val a_ (.tup (fs.map D.int))]).sat Q:=by
 have C:=h.len;refine bh (d:=f21) rfl rfl (by decide) ?_;(first|apply ak|apply Hx);have f:(ws.zip fs).length<=16777216:=by rw[length_zip];omega
 simp[f21,QT];rw[MN];simp at f;refine⟨λ_=>?_,f⟩;refine cX (F4h _ _) hmD ⟨.aM,.aM,rfl,rfl,rfl⟩ ?_ ?_
 . rintro d hd _⟨s1,s2,rfl,h1,t⟩;obtain⟨⟨v,g⟩,hz,rfl⟩:=df.mp hd;have u:=h.ok v (oI hz).1;have y:=u.h0;have z:=u.h1;have A:j8 (.int v.h) (.int g)=a7 (.val (.int (v.h*g))):=by show(if _ then _ else _)=_;rw[if_pos];left;omega
   simp[h1,t,afG,A];exact⟨rfl,_,_,rfl,rfl,rfl⟩
 rintro _⟨s1,s2,rfl,h1,t⟩;have e:((ws.zip fs).map λp=>D.tup [p.1.d,.int p.2]).map hmD=((ws.zip fs).map λp=>p.1.h*p.2).map D.int:=by rw[eJ,eJ];rfl
 rw[e];have B:=Ea ws fs;generalize((ws.zip fs).map λp=>p.1.h*p.2)=ns at*;simp[iH,B];exact k
noncomputable def Ca(fs:List Int):D:=.tup (fs.map D.int)
noncomputable def pI(r:Int)(fs:List Int):List (List Int):=(dL (r+1).toNat).map λ(k:Nat)=>fs++[(k:Int)]
structure Bx(ws:List Wy)(rows:List (List Int)):Prop where
 mem:∀fs,fs∈rows↔Ai ws fs
 len:rows.length<=3^ws.length
theorem Bx.zero:Bx [] [[]]:=⟨λfs=>⟨λh=>by
 have:fs=[]:=by simpa using h
 subst this;exact⟨rfl,λj v g e=>by simp at e⟩,λh=>by have:=h.len;have:fs=[]:=ft this;simp[this]⟩,by simp⟩
theorem um{f:List Int->List (List Int)}(h:∀x,(f x).length<=3):∀{l:List (List Int)},(l.flatMap f).length<=3*l.length|[]=>by simp|x::l=>by have:=h x;have e:=um h (l:=l);rw[List.flatMap_cons,ei,dV];omega
theorem xu{r:Int}(r1:r<=2)(fs:List Int):(pI r fs).length<=3:=by unfold pI;rw[ef,kb];omega
theorem Ai.snoc{gs:List Int}:Ai (ws++[v]) (gs++[g])↔Ai ws gs/\0<=g/\g<=v.r:=by
 constructor
 . intro h;have t:gs.length=ws.length:=by have:=h.len;simpa using this
   refine⟨⟨t,λj u x e f=>?_⟩,?_⟩;.have y:=(fu e).1;exact h.ok j u x (by rw[cS y];exact e) (by rw[cS (by omega)];exact f)
   .exact h.ok ws.length v g (by simp) (by rw[<-t];simp)
 . rintro⟨h,z,A⟩;refine⟨by simp[h.len],λj u x e f=>?_⟩;by_cases c:j<ws.length;.rw[cS c]at e;rw[cS (by rw[h.len];exact c)]at f;exact h.ok j u x e f
   . have B:=(fu e).1;rw[ei,kR]at B;have:j=ws.length:=by omega
     subst this;rw[fg (dU)]at e;rw[fg (by rw[h.len];exact dU),h.len]at f;simp at e f;subst e f;exact⟨z,A⟩
theorem Bx.snoc{ws:List Wy}{v:Wy}{e:List (List Int)}(h:Bx ws e)(r0:0<=v.r)(r1:v.r<=2):Bx (ws++[v]) (e.flatMap (pI v.r)):=by
 refine⟨λfs=>?_,?_⟩
 . rw[List.mem_flatMap];constructor
   . rintro⟨gs,u,f⟩;obtain⟨k,t,rfl⟩:=df.mp f;have t:k<(v.r+1).toNat:=by simpa using t
     exact Ai.snoc.mpr ⟨(h.mem gs).mp u,by omega,by omega⟩
   . intro f;rcases kM fs with rfl|⟨gs,g,rfl⟩;.have:=f.len;simp at this
     .rw[kN]at*;obtain⟨h1,y,z⟩:=Ai.snoc.mp f;refine⟨gs,(h.mem gs).mpr h1,df.mpr ⟨g.toNat,by simp;omega,?_⟩⟩;rw[show((g.toNat:Nat):Int)=g by omega]
 .have h1:=um (λx=>xu r1 x) (l:=e);have A:=h.len;rw[ei,kR,Nat.pow_succ];omega
noncomputable def fd(kvs:List (Int×Int))(q:Int):Option Int:=(kvs.find? λe=>decide (e.1=q)).map (·.2)
theorem jG{q:Int}:fd ((a,b)::r) q=if a=q then a7 b else fd r q:=by
 unfold fd;rw[fF];by_cases c:a=q;.simp[c]
 .simp[c]
theorem fd_none{q:Int}:∀{r:List (Int×Int)},q∉r.map (·.1)->fd r q=none|[],_=>rfl|(a,b)::r,h=>by rw[de,c_,not_or]at h;rw[jG,if_neg λz=>h.1 z.symm,fd_none h.2]
theorem FJ{q:Int}:∀{r:List (Int×Int)},q∈r.map (·.1)->∃h,fd r q=a7 h
 |[],h=>by cases h|(a,b)::r,h=>by
   rw[jG];by_cases c:a=q;.exact⟨b,if_pos c⟩
   .rw[if_neg c];rw[de,c_]at h;exact FJ (h.resolve_left λz=>c z.symm)
theorem HX{v:Int}(f:a∉r.map (·.1)):putD ((a,b)::r) k v=if a=k then(a,v)::r else(a,b)::putD r k v:=by
 unfold putD;rw[l8];by_cases c:a=k
 . subst c;have e:r.map (λp=>if p.1=a then(p.1,v)else p)=r:=by refine(gu λp h=>?_).trans (List.map_id _);rw[if_neg];rfl;intro z;exact f (df.mpr ⟨p,h,z⟩)
   simp[e]
 . simp only[c,decide_false,Bool.false_or,if_false];by_cases d:(r.any λp=>decide (p.1=k))=bT;.rw[if_pos d,if_pos d,de,if_neg c]
   .rw[if_neg d,if_neg d];rfl
theorem putN{k v:Int}:∀{r:List (Int×Int)},(r.map (·.1)).Nodup->((putD r k v).map (·.1)).Nodup/\(∀j,j∈(putD r k v).map (·.1)↔j=k\/j∈r.map (·.1))/\(∀q,fd (putD r k v) q=if q=k then a7 v else fd r q)/\(putD r k v).length<=r.length+1
 |[],_=>by
   have e:putD ([]:List (Int×Int)) k v=[(k,v)]:=rfl;rw[e];refine⟨by simp,by simp,λq=>?_,by simp⟩;rw[jG];by_cases c:k=q;.rw[if_pos c,if_pos c.symm]
   .rw[if_neg c,if_neg λz=>c z.symm]|(a,b)::r,f=>by
   rw[de,eH]at f;obtain⟨u,t,y,A⟩:=putN (k:=k) (v:=v) f.2;rw[HX f.1];by_cases c:a=k
   . subst c;rw[if_pos rfl];refine⟨by rw[de,eH];exact f,λj=>by simp,λq=>?_,by simp⟩;rw[jG,jG];by_cases d:a=q;.rw[if_pos d,if_pos d.symm]
     .rw[if_neg d,if_neg λz=>d z.symm,if_neg d]
   . rw[if_neg c];refine⟨?_,λj=>?_,λq=>?_,by simp;omega⟩;.rw[de,eH,t];exact⟨λz=>z.elim c f.1,u⟩
     . rw[de,c_,t,de,c_];constructor
       . rintro(h|h|h);.exact .inr (.inl h)
         .exact .inl h
         .exact .inr (.inr h)
       . rintro(h|h|h);.exact .inr (.inl h)
         .exact .inl h
         .exact .inr (.inr h)
     . rw[jG,y,jG];by_cases d:a=q;.rw[if_pos d,if_pos d,if_neg (by omega)]
       .rw[if_neg d,if_neg d]
structure DI(m:Int)(ws:List Wy)(dn:List (List Int))(kvs:List (Int×Int)):Prop where
 nd:(kvs.map (·.1)).Nodup
 ex:∀q h,fd kvs q=a7 h->∃fs∈dn,Hh m ws fs/\over 0 ws fs=q/\hrs ws fs=h
 al:∀fs∈dn,Hh m ws fs->∃h,fd kvs (over 0 ws fs)=a7 h/\h<=hrs ws fs
 len:kvs.length<=dn.length
theorem DI.zero:DI m ws [] []:=⟨by simp,λq h e=>(by cases e),λfs h=>(by cases h),by simp⟩
theorem DI.skip{dn:List (List Int)}{fs:List Int}(h:DI m ws dn kvs)(t:¬ Hh m ws fs):DI m ws (dn++[fs]) kvs:=⟨h.nd,λq x e=>by obtain⟨gs,h1,u⟩:=h.ex q x e;exact⟨gs,by simp[h1],u⟩,λgs hg f=>by
  rcases eM.mp hg with hg|hg;.exact h.al gs hg f
  .rw[dy.mp hg]at f;exact absurd f t,by have:=h.len;simp;omega⟩
theorem DI.put{dn:List (List Int)}{fs:List Int}(h:DI m ws dn kvs)(u:Hh m ws fs):DI m ws (dn++[fs]) (putD kvs (over 0 ws fs) (min ((fd kvs (over 0 ws fs)).getD (hrs ws fs)) (hrs ws fs))):=by
 obtain⟨p1,p2,p3,C⟩:=putN (k:=over 0 ws fs) (v:=min ((fd kvs (over 0 ws fs)).getD (hrs ws fs)) (hrs ws fs)) h.nd;refine⟨p1,λq x e=>?_,λgs hg z=>?_,by have:=h.len;simp;omega⟩
 . rw[p3]at e;by_cases c:q=over 0 ws fs
   . rw[if_pos c]at e
     cases hx:fd kvs (over 0 ws fs)with|none=>
       rw[hx]at e;have e:min (hrs ws fs) (hrs ws fs)=x:=by simpa using e
       exact⟨fs,by simp,u,c.symm,by omega⟩|some y=>
       rw[hx]at e;have e:min y (hrs ws fs)=x:=by simpa using e
       by_cases d:hrs ws fs<=y;.exact⟨fs,by simp,u,c.symm,by omega⟩
       .obtain⟨gs,f,t,B,E⟩:=h.ex _ y hx;exact⟨gs,by simp[f],t,by rw[B,c],by omega⟩
   .rw[if_neg c]at e;obtain⟨gs,f,t⟩:=h.ex q x e;exact⟨gs,by simp[f],t⟩
 . rw[p3];by_cases c:over 0 ws gs=over 0 ws fs
   . refine⟨_,if_pos c,?_⟩;rcases eM.mp hg with hg|hg;.obtain⟨x,A,G⟩:=h.al gs hg z;rw[c]at A;rw[A];show min x (hrs ws fs)<=_;omega
     .rw[dy.mp hg];omega
   . rw[if_neg c];rcases eM.mp hg with hg|hg;.exact h.al gs hg z
     .rw[dy.mp hg]at c;exact absurd rfl c
theorem Ln:∀{a b:List Int},a.Nodup->(∀x∈a,x∈b)->a.length<=b.length|[],_,_,_=>uO|x::a,b,e,h=>by have f:=h x (by simp);have e:=eH.mp e;have:=Ln (a:=a) (b:=b.erase x) e.2 λy t=>(p4 λ(z:y=x)=>e.1 (z▸t)).mpr (h y (by simp[t]));rw[om f]at this;have:=oz f;rw[dV];omega
theorem DI.all{f:List (List Int)}{u:List (Int×Int)}(h:DI m ws f kvs)(z:Bx ws f)(A:fJ m ws)(t:vD m ws cs u):(kvs.length:Int)=jC cs+1/\∀q,0<=q->q<=jC cs->fd kvs q=a7 (lh u q):=by
 have key:∀q,0<=q->q<=jC cs->fd kvs q=a7 (lh u q):=λq G H=>by obtain⟨fs,R,o,e⟩:=LR A t G H;obtain⟨x,B,O⟩:=h.al fs ((z.mem fs).mpr R.fit) R;rw[o]at B;obtain⟨gs,I,y,E,J⟩:=h.ex q x B;have:=y.least A t;rw[E]at this;rw[B,show x=lh u q by omega]
 have t0:0<=jC cs:=by rw[<-t.vs];exact uG t.b.nn
 have L:=Ln (a:=kvs.map (·.1)) (b:=(dL (jC cs+1).toNat).map λ(i:Nat)=>(i:Int)) h.nd λq C=>by obtain⟨x,z⟩:=FJ C;obtain⟨gs,I,y,E,J⟩:=h.ex q x z;have a:=y.le A t.e;have b:=y.r0;exact df.mpr ⟨q.toNat,by simp;omega,by omega⟩
 have l2:=Ln (a:=(dL (jC cs+1).toNat).map λ(i:Nat)=>(i:Int)) (b:=kvs.map (·.1)) (by refine List.Pairwise.map _ (λa b(M:a≠b)=>?_) List.nodup_range;omega) λq C=>by
  obtain⟨i,hi,rfl⟩:=df.mp C;have hi:i<(jC cs+1).toNat:=by simpa using hi
  have:=key i (by omega) (by omega);by_cases c:(i:Int)∈kvs.map (·.1);.exact c
  .rw[fd_none c]at this;cases this
 simp at L l2;exact⟨by omega,key⟩
theorem Wd(t:fJ m ws):∃cs kvs,vD m ws cs kvs:=by obtain⟨_,_,_,h⟩:=sat_iff.mp (lR (w:=13286250) (n:=0) (Q:=λ_ _=>∃cs kvs,vD m ws cs kvs) (dU) t λcs fs F d es kvs u y z e f=>⟨cs,kvs,⟨λv A=>(t.ok v A).h0,fs,F,d,es,y⟩,z,e,f,u⟩);exact h
theorem DN{c:Call}{x:Nat}{e:P}:ex c n (.Ij x e) ρ=(lift (Cp ρ x) ρ).bind λ_ ρ=>(ev c e ρ).bind λr ρ=>match ρ[x]?,r with|some (.own b f),.own es=>if f.length+es.length<=lim then .ok .next (ρ.set x (.own b (f++es)))else .stuck|_,_=>.stuck:=(rfl)
theorem UJ{c:Call}{x:Nat}:ev c (.vw x) ρ=match ρ[x]?with|some (.gZ m)=>.ok (.val (.dI m)) (ρ.set x (.val a_ (.dI m)))|some (.cY kvs)=>.ok (.val (.dv (kvs.map (·.1)) (kvs.map (·.2)))) (ρ.set x (.val a_ (.dv (kvs.map (·.1)) (kvs.map (·.2)))))|some (.own b e)=>.ok (.val (.lst e)) (ρ.set x (.val b (.lst e)))|some (.val _ d)=>.ok (.val d) ρ|_=>.stuck:=(rfl)
@[simp]theorem aa1{kvs:List (Int×Int)}:blt .Nz [.dI (.k kvs)]=a7 (.val (.int kvs.length)):=rfl
theorem Qx{q x:Int}(h:fd kvs q=a7 x):uK .yF (.dI (.k kvs)) (.int q)=a7 (.val (.int x)):=by show((Dc.get (.k kvs) (.int q)).bind λo=>o.map λv=>R.val (.int v))=_;rw[Ck];show(fd kvs q).map _=_;rw[h];rfl
noncomputable def LO(s:Sl)(e:List D):Prop:=s=.own a_ e\/s=.val a_ (.lst e)
inductive aez(a0:Sl)(ws:List Wy)(r:List D)(ρ:List Sl):Prop where|mk(bZ us:List Wy)(rows:List (List Int))(s1 s2 s3 s4:Sl)(q0:ρ=[a0,s1,s2,s3,s4,.aM,.aM])(q1:LO s1 (rows.map Ca))(q2:A3 (fr s2=bT) (fr s3=bT) (fr s4=bT))(q3:r=us.map Wy.d)(q4:bZ++us=ws)(q5:Bx bZ rows)
inductive af1(a0 a1 a2:Sl)(r:Int)(rows:List (List Int))(l:List D)(ρ:List Sl):Prop where|mk(dn us:List (List Int))(s4:Sl)(q0:ρ=[a0,a1,a2,.own a_ ((dn.flatMap (pI r)).map Ca),s4,.aM,.aM])(q1:fr s4=bT)(q2:l=us.map Ca)(q3:dn++us=rows)
inductive F8a(a b c d e f g:Sl)(ρ:List Sl):Prop where|mk(s:Sl)(q0:ρ=[a,b,c,d,e,f,g,s])(q1:fr s=bT)
noncomputable def adR(fs:List Int)(d:D):D:=.tup (fs.map D.int++[d])
inductive agb(m:Int)(ws:List Wy)(a0 a1 a2 a3:Sl)(rows:List (List Int))(l:List D)(ρ:List Sl):Prop where|mk(dn us:List (List Int))(kvs:List (Int×Int))(s4 s6:Sl)(q0:ρ=[a0,a1,a2,a3,s4,.gZ (.k kvs),s6])(q1:(fr s4=bT/\fr s6=bT))(q2:l=us.map Ca)(q3:dn++us=rows)(q4:DI m ws dn kvs)
theorem Qi{r:Int}{fs:List Int}:((dL (r+1).toNat).map λ(k:Nat)=>D.int (k:Int)).map (adR fs)=(pI r fs).map Ca:=by rw[eJ,pI,eJ];refine gu λk _=>?_;show D.tup (fs.map D.int++[.int (k:Int)])=D.tup ((fs++[(k:Int)]).map D.int);rw[ig];rfl
noncomputable def lhD(kvs:List (Int×Int))(d:D):D:=.int (lh kvs (tL d))
theorem P0{H:List (Int×Int)}(h:fJ m ws)(I:ws.length<=5)(h2:∀v∈ws,v.r<=2)(hB:vD m ws cs H)(k:jC cs+1<=243->Q (.own (((dL (jC cs+1).toNat).map λ(i:Nat)=>lh H (i:Int)).map D.int)) [.val a_ (bC m ws)]):(run Γ w (n+2) 22 [.val a_ (bC m ws)]).sat Q:=by
 refine bh (d:=f22) rfl rfl (by decide) ?_;(first|apply ak|apply Hx);simp[f22];have J:3^5=243:=rfl;refine eZ (λρ=>∃(f:List (List Int))(s1 s2 s3 s4:Sl),ρ=[.val a_ (bC m ws),s1,s2,s3,s4,.aM,.aM]/\LO s1 (f.map Ca)/\(fr s2=bT/\fr s3=bT/\fr s4=bT)/\Bx ws f) ?_ ?_
 . simp[bC];refine bO (aez (.val a_ (bC m ws)) ws) ?_ ?_ ⟨[],ws,[[]],_,.aM,.aM,.aM,rfl,.inl rfl,⟨rfl,rfl,rfl⟩,rfl,rfl,.zero⟩;.rintro d r _⟨bZ,t,f,s1,s2,s3,s4,rfl,h1,⟨U,W,u⟩,hr,hd,B⟩;cases t with|nil=>cases hr|cons v t=>
       obtain⟨rfl,rfl⟩:d=v.d/\r=t.map Wy.d:=by simpa using hr
       have hv:=h.ok v (by rw[<-hd];simp);have Y:=hv.r0;have G:=h2 v (by rw[<-hd];simp);have L:f.length<=243:=fR B.len (by rw[<-J];exact i7 (by decide) (by rw[<-hd]at I;simp at I;omega));have Z:=B.snoc (v:=v) Y G;have fl:∀l:List (List Int),(l.flatMap (pI v.r)).length<=3*l.length:=λl=>um (λx=>xu G x);simp[U];apply ak;simp[W];refine eZ (λρ=>∃s1 s4,ρ=[.val a_ (bC m ws),s1,.val a_ v.d,.own a_ ((f.flatMap (pI v.r)).map Ca),s4,.aM,.aM]/\LO s1 (f.map Ca)/\fr s4=bT) ?_ ?_;.rcases h1 with rfl|rfl;all_goals
          simp;refine bO (af1 _ _ _ v.r f) ?_ ?_ ⟨[],f,s4,rfl,u,rfl,rfl⟩;.rintro d r _⟨dn,C,s4,rfl,u,hr,A⟩;cases C with|nil=>cases hr|cons fs C=>
              obtain⟨rfl,rfl⟩:d=Ca fs/\r=C.map Ca:=by simpa using hr
              have M:fs.length<=5:=by have:=((B.mem fs).mp (by rw[<-A];simp)).len;rw[this];rw[<-hd]at I;simp at I;omega
              have ac:dn.length<=243:=by rw[<-A]at L;simp at L;omega
              have af:=fl dn;have ag:=xu G fs;have X:(dn++[fs])++C=f:=by rw[eF];exact A
              simp[u];apply ak;simp[DN,Wk,show v.r+1<=1000000000 by omega,show-1000000000<=v.r+1 by omega];refine⟨λ_=>?_,by omega⟩;refine cX (F8a _ _ _ _ _ _ _) (adR fs) ⟨.aM,rfl,rfl⟩ ?_ ?_;.rintro d hd _⟨s,rfl,hs⟩;obtain⟨j,_,rfl⟩:=df.mp hd;simp[hs,Ca,adR,show fs.length+1<=lim by show _<=16777216;omega];exact⟨_,rfl,rfl⟩
              . rintro _⟨s,rfl,hs⟩;have e2:(dn++[fs]).flatMap (pI v.r)=dn.flatMap (pI v.r)++pI v.r fs:=by simp
                rw[Qi];have O:(List.flatMap (pI v.r) dn).length+(pI v.r fs).length<=lim:=by show _<=16777216;omega
                simp only[ix,oq,ef];rw[if_pos O];simp;exact⟨dn++[fs],C,.val a_ (Ca fs),by rw[e2,ig],rfl,rfl,X⟩
          . rintro _⟨dn,C,s4,rfl,u,hr,A⟩;have:C=[]:=by cases C with|nil=>rfl|cons _ _=>cases hr
            subst this;rw[e_]at A;subst A;simp;exact⟨_,_,⟨rfl,rfl⟩,by first|exact .inl rfl|exact .inr rfl,u⟩
       .rintro _⟨s1,s4,rfl,h1,u⟩;(first|apply ak|apply Hx);rcases h1 with rfl|rfl;all_goals simp;exact⟨bZ++[v],t,_,_,_,_,_,rfl,.inr rfl,⟨rfl,rfl,u⟩,rfl,by rw[eF];exact hd,Z⟩
   . rintro _⟨bZ,t,f,s1,s2,s3,s4,rfl,h1,⟨U,W,u⟩,hr,hd,B⟩;have:t=[]:=by cases t with|nil=>rfl|cons _ _=>cases hr
     subst this;rw[e_]at hd;subst hd;exact⟨rfl,f,_,_,_,_,rfl,h1,⟨U,W,u⟩,B⟩
 rintro _⟨f,s1,s2,s3,s4,rfl,h1,⟨U,W,u⟩,B⟩;have L:f.length<=243:=fR B.len (by rw[<-J];exact i7 (by decide) I);(first|apply ak|apply Hx);simp[Ga];refine eZ (λρ=>∃(kvs:List (Int×Int))(s1 s4 s6:Sl),ρ=[.val a_ (bC m ws),s1,s2,s3,s4,.gZ (.k kvs),s6]/\DI m ws f kvs) ?_ ?_;.rcases h1 with rfl|rfl;all_goals
    simp;refine bO (agb m ws _ _ _ _ f) ?_ ?_ ⟨[],f,[],s4,.aM,rfl,⟨u,rfl⟩,rfl,rfl,.zero⟩;.rintro d r _⟨dn,t,kvs,s4,s6,rfl,⟨u,g6⟩,hr,hd,E⟩;cases t with|nil=>cases hr|cons fs t=>
        obtain⟨rfl,rfl⟩:d=Ca fs/\r=t.map Ca:=by simpa using hr
        have M:fs.length=ws.length:=((B.mem fs).mp (by rw[<-hd];simp)).len;have ac:dn.length<=243:=by rw[<-hd]at L;simp at L;omega
        have ae:=E.len;have X:(dn++[fs])++t=f:=by rw[eF];exact hd
        simp[u];apply ak;simp[Ca];refine Hm h M λd hd=>?_;rcases hd with⟨rfl,hn⟩|⟨rfl,hR⟩;.simp[g6];(first|apply ak|apply Hx);simp;exact⟨dn++[fs],t,kvs,_,_,rfl,⟨rfl,rfl⟩,rfl,X,E.skip λz=>hn (vh.mpr z)⟩
        .simp[g6];(first|apply ak|apply Hx);simp;apply ak;simp[DG,Js];refine Fe h ?_;simp[Ck];refine Fe h ?_;have hp:=E.put (vh.mp hR);simp;rw[show(∀x y:Int,(if y<x then y else x)=min x y)from λx y=>by split<;>omega,R0 (by show _<16777216;omega)];simp;exact⟨dn++[fs],t,_,_,_,rfl,⟨rfl,rfl⟩,rfl,X,hp⟩
    . rintro _⟨dn,t,kvs,s4,s6,rfl,⟨u,g6⟩,hr,hd,E⟩;have:t=[]:=by cases t with|nil=>rfl|cons _ _=>cases hr
      subst this;rw[e_]at hd;subst hd;simp;exact E
 rintro _⟨kvs,s1,s4,s6,rfl,E⟩;obtain⟨hl,ha⟩:=E.all B h hB;have ae:=E.len;(first|apply ak|apply Hx);simp[UJ];refine⟨by omega,λ_=>?_,by show _<=16777216;omega⟩;refine cX (F8a _ _ _ _ _ _ _) (lhD H) ⟨.aM,rfl,rfl⟩ ?_ ?_
 . rintro d hd _⟨s,rfl,hs⟩;obtain⟨j,hj,rfl⟩:=df.mp hd;have hj:j<kvs.length:=by simpa using hj
   have hg:zU (.dI (.k kvs)) (.int (j:Int))=a7 (.val (.int (lh H (j:Int)))):=Qx (ha (j:Int) (by omega) (by omega));simp[hs,hg,lhD];first|exact⟨rfl,_,rfl,rfl⟩|exact⟨_,rfl,rfl⟩
 . rintro _⟨s,rfl,hs⟩;have e:((dL kvs.length).map λ(k:Nat)=>D.int (k:Int)).map (lhD H)=((dL (jC cs+1).toNat).map λ(i:Nat)=>lh H (i:Int)).map D.int:=by rw[show kvs.length=(jC cs+1).toNat by omega,eJ,eJ];rfl
   rw[e];exact k (by omega)
theorem o9(k:Q (.val (.bl bT)) [.val a_ (.int i)]):(run Γ w (n+1) 18 [.val a_ (.int i)]).sat Q:=by refine bh (d:=f18) rfl rfl (by decide) ?_;(first|apply ak|apply Hx);simp[f18,cJ];exact k
theorem Dw{e:Type}{l:List e}:(l.map λ_=>D.bl bT).mapM Gb=a7 (l.map λ_=>bT):=by induction l with|nil=>rfl|cons a l f=>simp[f]
theorem all_true{e:Type}{l:List e}:(l.map λ_=>bT).all id=bT:=by simp
noncomputable def kyD(d:D):D:=.int (TX d).1
noncomputable def ldD(d:D):D:=.int (TX d).2
inductive F3f(a b:Sl)(ρ:List Sl):Prop where|mk(s:Sl)(q0:ρ=[a,b,s])(q1:fr s=bT)
inductive F4f(a b:Sl)(ρ:List Sl):Prop where|mk(s:Sl)(t:Sl)(q0:ρ=[a,b,s,t])(q1:fr s=bT)(q2:fr t=bT)
theorem Qa{l:List Int}(h:l.Pairwise (·<·)){i:Nat}{u v:Int}(h1:l[i]?=a7 u)(e:l[i+1]?=a7 v):u<v:=by obtain⟨f,rfl⟩:=fu h1;obtain⟨t,rfl⟩:=fu e;exact nX.mp h i (i+1) f t (by omega)
theorem Lp{e:Type}{f:e->D}{l:List e}:l.mapM (Gb ∘(λ_=>D.bl bT)∘ f)=a7 (l.map λ_=>bT):=by induction l with|nil=>rfl|cons a l h=>simp[h]
theorem Dg(O:kvs.length<=531441)(nn:∀y∈kvs,1<=y.1/\0<y.2)(so:kvs.Pairwise (λa b=>a.1<b.1))(k:Q (.val (.bl bT)) [.own bT (kvs.map gO)]):(run Γ w (n+2) 19 [.own bT (kvs.map gO)]).sat Q:=by
 refine bh (d:=f19) rfl rfl (by decide) ?_;(first|apply ak|apply Hx);simp[f19,cJ,show kvs.length<=16777216 by omega];refine cX (F3f _ _) (λ_=>.bl bT) ⟨.aM,rfl,rfl⟩ ?_ ?_;.rintro d hd _⟨s,rfl,hs⟩;obtain⟨y,h,rfl⟩:=df.mp hd;simp[hs,gO,cJ];exact⟨_,rfl,rfl⟩
 rintro _⟨s,rfl,hs⟩;have A:=Dw (l:=kvs.map gO);have z:=all_true (l:=kvs.map gO);generalize((kvs.map gO).map λ_=>D.bl bT)=X at*;generalize((kvs.map gO).map λ_=>bT)=Y at*;simp[A,z];clear A z;(first|apply ak|apply Hx);simp[show kvs.length<=16777216 by omega];refine cX (F4f _ _) (λ_=>.bl bT) ⟨.aM,.aM,rfl,rfl,rfl⟩ ?_ ?_;.rintro d hd _⟨s,t,rfl,hs,ht⟩;obtain⟨y,h,rfl⟩:=df.mp hd;have G:=(nn y h).2;simp[hs,ht,gO];refine o9 ?_;simp;refine o9 ?_;simp[G];exact⟨_,_,rfl,rfl,rfl⟩
 rintro _⟨s,t,rfl,hs,ht⟩;have A:=Dw (l:=kvs.map gO);have z:=all_true (l:=kvs.map gO);generalize((kvs.map gO).map λ_=>D.bl bT)=X at*;generalize((kvs.map gO).map λ_=>bT)=Y at*;simp[A,z];clear A z;(first|apply ak|apply Hx);simp[show kvs.length<=16777216 by omega];refine cX (F4f _ _) kyD ⟨.aM,.aM,rfl,rfl,rfl⟩ ?_ ?_;.rintro d hd _⟨s,t,rfl,hs,ht⟩;obtain⟨y,h,rfl⟩:=df.mp hd;simp[hs,ht,gO,kyD];exact⟨_,_,rfl,rfl,rfl⟩
 rintro _⟨s,t,rfl,hs,ht⟩;have e:(kvs.map gO).map kyD=(kvs.map (·.1)).map D.int:=by rw[eJ,eJ];rfl
 rw[e];have B:(0::kvs.map (·.1)).Pairwise (·<·):=by rw[h8,m2];refine⟨λx H=>?_,so⟩;obtain⟨y,h,rfl⟩:=df.mp H;have:=(nn y h).1;omega
 have I:(kvs.map (·.1)).length=kvs.length:=by simp
 generalize kvs.map (·.1)=ks at*;simp[show 1+ks.length<=16777216 by omega,show ks.length+1<=16777216 by omega];apply ak;simp[show(kvs.length:Int)<=1000000000 by omega,show kvs.length<=16777216 by omega];refine cX (F3f _ _) (λ_=>.bl bT) ⟨.aM,rfl,rfl⟩ ?_ ?_
 . rintro d hd _⟨s,rfl,hs⟩;obtain⟨i,hi,rfl⟩:=df.mp hd;have hi:i<kvs.length:=by simpa using hi
   obtain⟨u,C⟩:∃u,(0::ks)[i]?=a7 u:=⟨_,fS (by simp;omega)⟩;obtain⟨v,E⟩:∃v,(0::ks)[i+1]?=a7 v:=⟨_,fS (by simp;omega)⟩;have J:at' (D.int 0::ks.map D.int) (i:Int)=a7 (.int u):=gP (l:=0::ks) (f:=D.int) C;have L:at' (D.int 0::ks.map D.int) ((i:Int)+1)=a7 (.int v):=gP (l:=0::ks) (f:=D.int) (k:=i+1) E;have M:=Qa B C E;simp[hs,J,L,M];exact⟨_,rfl,rfl⟩
 rintro _⟨s,rfl,hs⟩;have z:=all_true (l:=dL kvs.length);simp;rw[Lp];generalize((dL kvs.length).map λ_=>bT)=Y at*;simp[z];exact k
inductive aeB(ns:List Int)(_:Nat)(ρ:List Sl):Prop where|mk(cs:List Int)(s:Sl)(q0:ρ=[.val a_ (.lst (ns.map D.int)),.val a_ (.int 6),.own a_ (cs.map D.int),s])(q1:fr s=bT)(q2:cs.length=6)
theorem Bt{ns:List Int}(z:ns.length<=63)(k:∀cs:List Int,cs.length<=6->Q (.own (cs.map D.int)) [.val a_ (.lst (ns.map D.int)),.val a_ (.int 6)]):(run Γ w (n+1) 25 [.val a_ (.lst (ns.map D.int)),.val a_ (.int 6)]).sat Q:=by
 refine bh (d:=f25) rfl rfl (by decide) ?_;refine eZ (λρ=>ρ=[.val a_ (.lst (ns.map D.int)),.val a_ (.int 6),.own a_ ((cp 6 (0:Int)).map D.int),.aM]) ?_ ?_;.simp[f25];decide
 rintro _ rfl;(first|apply ak|apply Hx);simp[show(ns.length:Int)<=1000000000 by omega];refine oA (aeB ns) ?_ ?_ ⟨cp 6 0,.aM,by simp,rfl,by simp⟩;.rintro i _ hi⟨cs,s,rfl,hs,e⟩;obtain⟨j,h,f⟩:∃j:Nat,(i:Int)%6=(j:Int)/\j<cs.length:=⟨i%6,by omega,by omega⟩;have t:at' (cs.map D.int) (j:Int)=a7 (.int cs[j]):=gP (by simp[f]);have u:at' (ns.map D.int) (i:Int)=a7 (.int ns[i]):=gP (by simp[hi]);have y:jm cs.length (j:Int)=a7 j:=WD f;simp[hs];apply ak;simp[h,t,u,y];exact⟨cs.set j (cs[j]*1000003+ns[i]),.val a_ (.int i),by simp[rb],rfl,by simpa using e⟩
 .rintro _⟨cs,s,rfl,hs,e⟩;(first|apply ak|apply Hx);simp[afM,yr];exact k _ (fR Mf (by omega))
theorem Jr:∀{kvs:List (Int×Int)},(kvs.map (·.2)).sum=vs kvs|[]=>rfl|kv::r=>by rw[de,mM,Jr,vs]
noncomputable def reps:List (Int×Int)->List Int|[]=>[]|kv::r=>cp kv.2.toNat kv.1++reps r
theorem Aj{e:Int×Int}:∀{l:List (Int×Int)},reps (l++[e])=reps l++cp e.2.toNat e.1|[]=>by show _++[]=[]++_;simp|x::l=>by show _++reps (l++[e])=(_++reps l)++_;rw[Aj,eF]
theorem Gm{a:Int}:∀{n:Nat},(cp n a).sum=a*n|0=>by simp|n+1=>by rw[fj,mM,Gm,Int.natCast_add,ng];omega
theorem Ek:∀{l:List (Int×Int)}{q:Int},(∀kv∈l,1<=kv.1/\0<kv.2)->0<=q->((reps l).take q.toNat).sum=lh l q|[],_,_,_=>by simp[reps,lh]|kv::r,q,h,f=>by have t:=h kv (by simp);rw[reps,lh,List.take_append,List.sum_append,List.take_replicate,Gm,iP,<-Ek (λx e=>h x (by simp[e])) (show 0<=q-min q kv.2 by omega),show q.toNat-kv.2.toNat=(q-min q kv.2).toNat by omega,show((min q.toNat kv.2.toNat:Nat):Int)=min q kv.2 by omega]
theorem zx:∀{l:List (Int×Int)},(∀kv∈l,1<=kv.1/\0<kv.2)->((reps l).length:Int)=vs l|[],_=>rfl|kv::r,h=>by have f:=h kv (by simp);have:=zx (l:=r) λx e=>h x (by simp[e]);rw[reps,vs,ei,iP];omega
theorem zT{a:Int}:∀{n:Nat},(cp n [D.int a]).flatten=(cp n a).map D.int|0=>rfl|n+1=>by rw[fj,lf,zT,fj];rfl
theorem mulL(h0:0<=k)(h1:k<=10000):j8 (.lst [.int a]) (.int k)=a7 (.own ((cp k.toNat a).map D.int)):=by show(if 0<=k/\0<1/\1*k.toNat<=16777216 then a7 (R.own (cp k.toNat [D.int a]).flatten)else none)=_;rw[if_pos (by omega),zT]
theorem FN:∀{a b:List (Int×Int)},vs (a++b)=vs a+vs b|[],_=>by simp[vs]|x::a,b=>by rw[iN,vs,vs,FN];omega
theorem agp{e:List D}:Oh (.lst e) (part (.con .non) .non) (part (.var j) (.int i))=a7 (.own (cut e none (a7 i))):=rfl
theorem aan{l:List Int}{q:Int}(h:0<=q):cut l none (a7 q)=l.take q.toNat:=by
 have e:dW l.length 0 none=0:=rfl;have f:l.take (dW l.length l.length (a7 q))=l.take q.toNat:=by
  show l.take (if 0<=q then min q.toNat l.length else(q+l.length).toNat)=_;rw[if_pos h];by_cases c:q.toNat<=l.length;.rw[Nat.min_eq_left c]
  .rw[Nat.min_eq_right (by omega),List.take_length,kB (by omega)]
 unfold cut;rw[e,List.drop_zero,Nat.sub_zero,f]
inductive afo(a0 a1 a2 s6 s7:Sl)(kvs:List (Int×Int))(r:List D)(ρ:List Sl):Prop where|mk(dn us:List (Int×Int))(s4 s5:Sl)(q0:ρ=[a0,a1,a2,.own a_ ((reps dn).map D.int),s4,s5,s6,s7])(q1:(fr s4=bT/\fr s5=bT))(q2:r=us.map gO)(q3:dn++us=kvs)
inductive aeS(a0 a1 a2 s4 s5:Sl)(ls:List Int)(_:Nat)(ρ:List Sl):Prop where|mk(s3 s6 s7:Sl)(q0:ρ=[a0,a1,a2,s3,s4,s5,s6,s7])(q1:LO s3 (ls.map D.int))(q2:(fr s6=bT/\fr s7=bT))
inductive F10(a b c d e f g h:Sl)(ρ:List Sl):Prop where|mk(s:Sl)(t:Sl)(q0:ρ=[a,b,c,d,e,f,g,h,s,t])(q1:fr s=bT)(q2:fr t=bT)
theorem Ih(U:13286250<=w)(h:fJ m ws)(h5:ws.length<=5)(h2:∀v∈ws,v.r<=2)(k:Q (.val (.bl bT)) [.val a_ (bC m ws)]):(run Γ w (n+8) 24 [.val a_ (bC m ws)]).sat Q:=by
 obtain⟨B,C,f⟩:=Wd h;refine bh (d:=f24) rfl rfl (by decide) ?_;(first|apply ak|apply Hx);simp[f24];refine P0 h h5 h2 f λhT=>?_;have t0:0<=jC B:=by rw[<-f.vs];exact uG f.b.nn
 have W:∀cs kvs,vD m ws cs kvs->_T.vs kvs=jC B:=λcs kvs y=>by rw[<-f.uniq y,f.vs]
 have J:∀cs,cV m ws cs->jC cs=jC B:=λcs H=>by obtain⟨S,hS,hc⟩:=H.cut;obtain⟨S2,X,ai⟩:=f.e.cut;have:=H.Jf X;have:=f.e.Jf hS;omega
 generalize hA:jC B=A at*;obtain⟨z,Y⟩:∃z:List Int,z=(dL (A+1).toNat).map λ(i:Nat)=>lh C (i:Int):=⟨_,rfl⟩;have am:z.length=(A+1).toNat:=by rw[Y];simp
 have Z:∀i:Nat,i<(A+1).toNat->at' (z.map D.int) (i:Int)=a7 (.int (lh C (i:Int))):=λi hi=>by refine gP ?_;rw[Y,eV,List.getElem?_range hi];rfl
 rw[<-Y];simp;apply ak;simp;refine lR U h λcs fs F d es kvs hl H I L ac=>?_;have y:vD m ws cs kvs:=⟨⟨λv hv=>(h.ok v hv).h0,fs,F,d,es,H⟩,I,L,ac,hl⟩;obtain rfl:=f.uniq y;have M:=W _ _ f;simp;apply ak;simp;refine Dg hl I.nn L ?_;simp[show C.length<=16777216 by omega];refine cX (F10 _ _ _ _ _ _ _ _) ldD ⟨.aM,.aM,rfl,rfl,rfl⟩ ?_ ?_;.rintro d hd _⟨s,t,rfl,hs,ht⟩;obtain⟨kv,ap,rfl⟩:=df.mp hd;simp[hs,ht,gO,ldD];exact⟨_,_,rfl,rfl,rfl⟩
 rintro _⟨s,t,rfl,hs,ht⟩;have e:(C.map gO).map ldD=(C.map (·.2)).map D.int:=by rw[eJ,eJ];rfl
 rw[e];have e2:=Jr (kvs:=C);generalize C.map (·.2)=ls at*;have E:(z.length:Int)=A+1:=by omega
 simp[iH,e2,M,E];apply ak;simp;apply ak;simp;refine bO (afo _ _ _ _ _ C) ?_ ?_ ⟨[],C,.aM,.aM,rfl,⟨rfl,rfl⟩,rfl,rfl⟩;.rintro d r _⟨dn,G,s4,s5,rfl,⟨g4,g5⟩,hr,hd⟩;cases G with|nil=>cases hr|cons u G=>
     obtain⟨rfl,rfl⟩:d=gO u/\r=G.map gO:=by simpa using hr
     have hu:=I.nn u (by rw[<-hd];simp);have ar:=zx (l:=dn) λx O=>I.nn x (by rw[<-hd];simp[O]);have av:=uG (l:=G) λx O=>I.nn x (by rw[<-hd];simp[O]);have ae:=FN (a:=dn) (b:=u::G);rw[hd,M,vs]at ae;have aw:=uG (l:=dn) λx O=>I.nn x (by rw[<-hd];simp[O]);simp[g4,g5,gO];apply ak;simp[DN,mulL (a:=u.1) (k:=u.2) (by omega) (by omega),show(reps dn).length+u.2.toNat<=lim by show _<=16777216;omega];exact⟨dn++[u],G,.val a_ (.int u.1),.val a_ (.int u.2),by rw[Aj,ig];simp,⟨rfl,rfl⟩,rfl,by rw[eF];exact hd⟩
 rintro _⟨dn,G,s4,s5,rfl,⟨g4,g5⟩,hr,hd⟩;have:G=[]:=by cases G with|nil=>rfl|cons _ _=>cases hr
 subst this;rw[e_]at hd;subst hd;simp;apply ak;simp[E];refine⟨by omega,?_⟩;refine oA (aeS _ _ _ s4 s5 (reps dn)) ?_ ?_ ⟨_,.aM,.aM,rfl,.inl rfl,⟨rfl,rfl⟩⟩
 . rintro i _ hi⟨s3,s6,s7,rfl,h3,⟨g6,g7⟩⟩;have af:=Z i hi;have es:(cut (reps dn) none (a7 (i:Int))).sum=lh dn (i:Int):=by rw[aan (by omega),Ek I.nn (by omega)]
   simp[g6];apply ak;simp;refine Bf U h (by omega) (λcs kvs y=>by rw[W cs kvs y];omega) λax ah ag=>?_;obtain rfl:=f.uniq ag;simp[g7];apply ak;simp;refine o9 ?_;generalize hz:cut (reps dn) none (a7 (i:Int))=zs at es;rcases h3 with rfl|rfl;all_goals simp[af,agp,yr,hz,iH,es];exact⟨_,_,_,rfl,by first|exact .inl rfl|exact .inr rfl,⟨rfl,rfl⟩⟩
 .rintro _⟨s3,s6,s7,rfl,h3,⟨g6,g7⟩⟩;(first|apply ak|apply Hx);simp[E];refine Ak U h (λcs kvs f=>by rw[W cs kvs f];omega) (λcs H=>by rw[J cs H];omega) ?_;simp[E];refine Ak U h (λcs kvs f=>by rw[W cs kvs f];omega) (λcs H=>by rw[J cs H];omega) ?_;simp;exact k
inductive J29(v:Sl)(r:List D)(ρ:List Sl):Prop where|mk(s1:Sl)(q0:ρ=[v,s1])(q1:fr s1=bT)(q2:∀d∈r,∃i,d=D.int i)
theorem Ra(ns:List Int)(t:ns.length<=63):∃as,run Γ 100000000 40 26 [.val a_ (.lst (ns.map D.int))]=.ok (.val (.bl bT)) as:=by
 suffices h:(run Γ 100000000 40 26 [.val a_ (.lst (ns.map D.int))]).sat λr _=>r=.val (.bl bT)by obtain⟨a,ρ,e,rfl⟩:=sat_iff.mp h;exact⟨ρ,e⟩
 refine bh (d:=f26) rfl rfl (by decide) ?_;(first|apply ak|apply Hx);simp[f26];refine Bt t λcs u=>?_;simp;refine bO (J29 (.val a_ (.lst (ns.map D.int)))) ?_ ?_ ⟨_,rfl,rfl,λd hd=>?_⟩;.rintro d r _⟨s1,rfl,h1,hd⟩;obtain⟨x,rfl⟩:=hd d (by simp);simp[h1];apply ak;simp;refine LQ λa y c=>?_;simp;refine Qt λx z m ws A B hr=>?_;simp;refine Ih (by decide) A B hr ?_;simp;exact⟨_,rfl,rfl,λd f=>hd d (by simp[f])⟩
 .rintro _⟨s1,rfl,_,hd⟩;(first|apply ak|apply Hx);simp
 .obtain⟨i,_,rfl⟩:=df.mp hd;exact⟨i,rfl⟩
end _T
end
structure PySem.W.Fast:Prop where(tw2817829034413323582 tw12560582136193868141 tw7467690838752619732 tw13903586622343419920 tw5335841206347381933 tw10988177124071840921 tw1948361064659973540 tw8760818080984608212 tw9564744392939083120 tw15833376132624330165 tw7678717082562515419 tw7795171624214056529 tw15282015983805396441 tw11781489978548941170 tw9419288388147660715 tw642458144533014015 tw4790908571322668106 tw17454874795001796773 tw3524130404366726699 tw6065029963286700158 tw12074388876427492193 tw10112889551687692470 tw4431916384440200138 tw13576796452328313858 tw14949106943620448305 tw6010014228363654547 tw11159147616298519603 tw12282750390213605690 tw15528425489968551834 tw3085384835547655885 tw12518790126726431422 tw1679416544989234566 tw11397286646046753508 tw14599519115593408602 tw3194226819401363389 tw3641359814415518769 tw4642140755562922955 tw10918570347219381251 tw10965851609833559090 tw1586192071166879633 tw11991328304609268788 tw2368256151966989357 tw999483269894691855 tw4895725285876484251 tw14499719447780251708 tw15717915334427915859 tw9650119611802838157 tw3515138906137864501 tw2343751347680859358 tw12753029265329237189 tw18146967854787927253 tw3602079596572302718 tw3484502121337520225 tw13633411894899968074 tw5547914160437479402 tw9352361551713334722 tw14012666183944837070 tw7463551006682420028 tw12542476892403111029 tw14443397646398558304 tw11651348374085415255 tw7840321875823135778 tw16174311760036416418 tw1496779453669420492 tw14446777178580337699 tw17331531509312388947 tw9659000557584696738 tw7468169075522086354 tw1609132563570073496 tw14225757254562544543 tw4419372385007168308 tw10660993990264474899 tw13552991889585005210 tw6539837958742160718 tw9441869479373239362 tw14506860766679606163 tw244376500139294253 tw11283400884149951455 tw353104522541031905 tw5157886037387839222 tw8567345784966331210 tw1419119140167442075 tw4365221895471673496 tw15477514174765174022 tw11086395128197052409 tw16897680415747918597 tw5456388312080214080 tw5088737057590994565 tw11877377833958795057 tw4471401098947884191 tw14451269721557189441 tw17810001771664081045 tw10318268682687660778 tw8457210861859399082 tw8557069429565611205 tw16299585561340041411 tw5528475870301100938 tw3743217501261275204 tw1545615485676797403 tw7567976076971055436 tw607865969335874013 tw16278474325594986200 tw4918916352312647581 tw2224973750277061015 tw18408945401883708632 tw6026970008131653282 tw9733675257099851890 tw7603946300105558533 tw14924793208199620531 tw12882588444687707289 tw4436085262055554806 tw6793878916626832307 tw15393076045547457561 tw4199417102366715155 tw10772482316931067099 tw13393028671000484416 tw11095503500362469133 tw6545935163859099468 tw6109028648393683794 tw15356503985308204097 tw8167324709175603680 tw18278847889301117024 tw7206814223674878496 tw13876637354030137314 tw17147060231689198037 tw3044542312868700848 tw2713903213226696787 tw1332858779428028251 tw1791442649422774209 tw12874490838852067662 tw17685445250463941146 tw9956780493084633821 tw8673205470288003110 tw1607043449507256558 tw15509527327218224832 tw3987503863712837165 tw4996516897394421918 tw8063734106984339988 tw2474397259100370281 tw7803160050355221153 tw14045344179507264609 tw2640355640487989836 tw14309581729306918965 tw8179571888809780005 tw10998260858379706286 tw4106718690337363400 tw16947360360340118870 tw16463319594362505143 tw13676800062555961522 tw13477696503262703867 tw11654073491680551559 tw7814721930229148106 tw3728870986231626482 tw3204034689271015268 tw17717536814238403582 tw9791109900055266693 tw18095950273287997030 tw17441463138591391839 tw7685713653923817099 tw4973774476560060586 tw12551877138196230863 tw15779490121905451012 tw6224376371701787177 tw14907829943730948595 tw10611842867572810421 tw9072116398992309828 tw4690238419290136589 tw4532441399699284461 tw12091402590762591148 tw7276038191372199617 tw8264152834269026364 tw1735984404314638338 tw10163132428817000132 tw2884187896146407168 tw4400808742627313927 tw1713978261501179585 tw1642537647928962572 tw14155047886370392648 tw9787922296586312759 tw708361914999692138 tw3787186833040646345 tw3883819873024402685 tw9156432452019207125 tw18055929601666777249 tw4016053459134900857 tw16834040669256623109 tw17509462633975253662 tw8745239690169688380 tw543490266454335360 tw5151595685054815880 tw11705845025655124163 tw10165041467833344549 tw9110681699180121238 tw11642519049498679945 tw7818083076109036827 tw15806391763151949695 tw7404980336975785874 tw3716068149976368811 tw13896099066759280709 tw10707578931228275496 tw3174041651034520011 tw4377840133575403222 tw6896852925599795135 tw18151493753038221897 tw17981504507413525892 tw17738183573638456469 tw7495267950109759536 tw8262978872348273576 tw5746378359321667548 tw12624860932733308447 tw3870095872640112395 tw13927619827729759679 tw7767220558788765880 tw8193012327915155848 tw6744217598433958496 tw14586444920009584240 tw7743650627533906169 tw17179023495833353505 tw14192182083594778800 tw3717399477536961093 tw17446989793273417630 tw14498027778132307667 tw1404847253674735507 tw2109750204191116107 tw379078636032235935 tw8351807245092485713 tw8829905779064613698 tw9839395100510909326 tw15889270570377789293 tw2103844059330236322 tw5260831082903085572 tw8216556177171809262 tw6326705121998256031 tw14803485205171569776 tw4191971081268923230 tw2662551203889970108 tw15250849827943813169 tw13381241139616063142 tw14534549236280555917 tw8147797283719773294 tw2544105905341129962 tw18317661340479709205 tw16429622093452050093 tw3208686858196777320 tw11114392299643639054 tw12899663726167579614 tw15244026734853660283 tw2868740058129355009 tw17652165016754614814 tw11480366243035997946 tw5474285268832830277 tw15904344850368354943 tw12414950499947227321 tw2879867725486408309 tw10141185398796004382 tw15417751376042635719 tw3211336049789141298 tw17586720075720881839 tw11626708497417055919 tw7319228604909203299 tw17912641596417633805 tw16979167820835823654 tw11841424468717071904 tw857478779371617209 tw10628029965731147598 tw14707473194160210704 tw9783614743910786394 tw8771412547586009682 tw8383952280200622459 tw9999161849779013280 tw14536870425966384819 tw883735424506036068 tw7185931394054105407 tw6858047480113554330 tw12398055441334083487 tw15943275141796462935 tw4696451251692710167 tw4397326051830851368 tw3915839220954295988 tw7068885387406764495 tw16157557227880705053 tw16189458323074862205 tw3763700261736197715 tw913954785751741452 tw3326201142972329970 tw2752681417579663274 tw15938316173769294391 tw13475404201266034739 tw4664698961045087177 tw1650964505571302801 tw419351216483177223 tw13737335487869216862 tw3850448229321601548 tw1003427530372890874 tw17927672938053398074 tw1785713443066757144 tw7246755445009168479 tw3057246109608458334 tw3996603887130164660 tw15454177201806732066 tw8847319515128361702 tw18400837698890816795 tw17120419707816433764 tw9599245445213244892 tw4926657752892957928 tw9697409024639840364 tw6444817879212898763 tw5299952602297987144 tw14272929900369571994 tw8690024174203186118 tw7608460521171162407 tw2177577787202804255 tw12708342157188535849 tw2286578181496874693 tw15766955416222250950 tw11957098148620861231 tw18408542043182935967 tw1487899542804496089 tw3847779589139251093 tw15430562673804250240 tw16089011252759145315 tw339582801457544963 tw364806402107376460 tw8018149804917341037 tw1846460040889639304 tw2609353162909069486 tw8577337151699693714 tw1480916810886388095 tw3986745201060950661 tw6048544513054344182 tw17105227633168190383 tw7132141113984469523 tw1704709895227668901 tw8149633184956242307 tw2955873034564997731 tw3438532898240296498 tw13969710990548329323 tw6127900844847571578 tw3882670675461708263 tw14092551156018789794 tw13092219867157844235 tw3519434447094820131:True)
namespace _T
open PySem _L Spec PyProof.Rows _H
theorem lkS{P:List bx → Prop}{n:Nat}(h:∀(a:bx)(b:List bx),b.length=n → P (a::b))(b:List bx)(c:b.length=n+1):P b:=by cases b with|nil=>cases c|cons a b=>exact h a b (Nat.succ.inj c)
theorem lk0{P:List bx → Prop}(h:P [])(b:List bx)(c:b.length=0):P b:=by cases b with|nil=>exact h|cons a b=>cases c
theorem zP{P:List bx → Prop}(h:∀a,P [a]):∀b:List bx,b.length=1 → P b:=lkS λa=>lk0 (h a)
theorem km{P:List bx → Prop}(h:∀a b,P [a,b]):∀c:List bx,c.length=2 → P c:=lkS λa=>zP (h a)
theorem GK{P:List bx → Prop}(h:∀a b c,P [a,b,c]):∀e:List bx,e.length=3 → P e:=lkS λa=>km (h a)
theorem lk4{P:List bx → Prop}(h:∀a b c d,P [a,b,c,d]):∀e:List bx,e.length=4 → P e:=lkS λa=>GK (h a)
theorem lk5{P:List bx → Prop}(h:∀a b c d e,P [a,b,c,d,e]):∀f:List bx,f.length=5 → P f:=lkS λa=>lk4 (h a)
local macro_rules|`(term|‹$p›)=>`(λ_ _ _ _ _ _=>$p)
structure Txt(K:PySem.W.Frag):Prop where
 D0:cg K "step_places" s0
 D1:cg K "step_hours" s1
 D2:cg K "step_room" s2
 D3:cg K "steps_hours" s3
 D4:cg K "open_steps" s4
 D5:cg K "shortest_come" s5
 D6:cg K "steps_to" s6
 D7:cg K "stream_with" s7
 D8:cg K "chains_to_end" s8
 D9:cg K "cut_to_rate" s9
 D10:cg K "bends_of" uM
 D11:cg K "least_hours" ZG
 D12:cg K "found_clocks" s12
 D13:cg K "light_stream" s13
 D14:cg K "_law_pool" s14
 D15:cg K "_law_next" s15
 D16:cg K "_law_wide" s16
 D17:cg K "_law_net" s17
 D18:cg K "_law_whole" s18
 D19:cg K "_law_bends_formed" s19
 D20:cg K "_law_rate" s20
 D21:cg K "_law_hours" s21
 D22:cg K "_law_all_least" s22
 D23:cg K "_law_too_much" s23
 D24:cg K "_law_right" s24
 D25:cg K "_law_folded" s25
 D26:cg K "law" s26
 jT:PySem.W.nsIn K cN "ValueError"=a7 none
 Av:PySem.W.nsIn K cN "all"=a7 none
 Ds:PySem.W.nsIn K cN "bool"=a7 none
 N7:PySem.W.nsIn K cN "int"=a7 none
 aW:PySem.W.nsIn K cN "isinstance"=a7 none
 cj:PySem.W.nsIn K cN "len"=a7 none
 gk:PySem.W.nsIn K cN "list"=a7 none
 oR:PySem.W.nsIn K cN "max"=a7 none
 fG:PySem.W.nsIn K cN "min"=a7 none
 bw:PySem.W.nsIn K cN "range"=a7 none
 m5:PySem.W.nsIn K cN "reversed"=a7 none
 uI:PySem.W.nsIn K cN "sorted"=a7 none
 fC:PySem.W.nsIn K cN "sum"=a7 none
 ie:PySem.W.nsIn K cN "tuple"=a7 none
 wz:PySem.W.nsIn K cN "zip"=a7 none
 jt:∃C,eO K "BadHour" C
 lC:∃C,eO K "BadNet" C
 iM:∃C,eO K "BadTable" C
 lG:∃C,eO K "HaulError" C
 lD:∃C,eO K "NoBack" C
 oV:∃C,eO K "NoRow" C
 lE:∃C,eO K "NoText" C
 lF:∃C,eO K "NoWalk" C
 oW:∃C,eO K "NoWay" C
 ju:∃C,eO K "TooMany" C
 aR:∃C,eO K "TooMuch" C
 lB:∃C,vP K "HaulError" C
 lU:∃C,vP K "TooMuch" C
 pW:∃C C2,eO K "TooMuch" C/\eO K "HaulError" C2/\mroIn K C (.ref C2)=a7 bT
 jr:∃C,eO K "TooMuch" C/\J0 K C
 fP:∃C C2,eO K "TooMuch" C/\eO K "BadHour" C2/\kitOne K (.ref C) (.ref C2)=a7 a_
 gq:∃C C2,eO K "TooMuch" C/\eO K "BadNet" C2/\kitOne K (.ref C) (.ref C2)=a7 a_
 fB:∃C C2,eO K "TooMuch" C/\eO K "BadTable" C2/\kitOne K (.ref C) (.ref C2)=a7 a_
 gw:∃C C2,eO K "TooMuch" C/\eO K "NoBack" C2/\kitOne K (.ref C) (.ref C2)=a7 a_
 gR:∃C C2,eO K "TooMuch" C/\eO K "NoRow" C2/\kitOne K (.ref C) (.ref C2)=a7 a_
 gA:∃C C2,eO K "TooMuch" C/\eO K "NoText" C2/\kitOne K (.ref C) (.ref C2)=a7 a_
 gB:∃C C2,eO K "TooMuch" C/\eO K "NoWalk" C2/\kitOne K (.ref C) (.ref C2)=a7 a_
 gU:∃C C2,eO K "TooMuch" C/\eO K "NoWay" C2/\kitOne K (.ref C) (.ref C2)=a7 a_
 fU:∃C C2,eO K "TooMuch" C/\eO K "TooMany" C2/\kitOne K (.ref C) (.ref C2)=a7 a_
 fV:∃C C2,eO K "TooMuch" C/\eO K "TooMuch" C2/\kitOne K (.ref C) (.ref C2)=a7 bT
 dR:∃C,eO K "TooMuch" C/\kitOne K (.ref C) (.type "ValueError")=a7 bT
noncomputable def lZ{K:PySem.W.Frag}(T:Txt K):Nat->ce:=λk=>if k=8 then T.jt.choose else if k=1 then T.lC.choose else if k=2 then T.iM.choose else if k=0 then T.lG.choose else if k=10 then T.lD.choose else if k=9 then T.oV.choose else if k=3 then T.lE.choose else if k=6 then T.lF.choose else if k=5 then T.oW.choose else if k=4 then T.ju.choose else if k=7 then T.aR.choose else 0
structure Oks(Pg:da)(w:eg)(K:PySem.W.Frag)(mg:Str->Option bx)(base:ej)(cl:Nat->ce)(n:Nat):Prop where
 c0:bu Pg w K mg base n (run Γ 100000000 n) 0 "step_places" 2
 c1:bu Pg w K mg base n (run Γ 100000000 n) 1 "step_hours" 2
 c2:bu Pg w K mg base n (run Γ 100000000 n) 2 "step_room" 3
 c3:bu Pg w K mg base n (run Γ 100000000 n) 3 "steps_hours" 2
 c4:bu Pg w K mg base n (run Γ 100000000 n) 4 "open_steps" 2
 c5:bu Pg w K mg base n (run Γ 100000000 n) 5 "shortest_come" 3
 c6:bu Pg w K mg base n (run Γ 100000000 n) 6 "steps_to" 3
 c7:bu Pg w K mg base n (run Γ 100000000 n) 7 "stream_with" 3
 c8:bu Pg w K mg base n (run Γ 100000000 n) 8 "chains_to_end" 1
 c9:bu Pg w K mg base n (run Γ 100000000 n) 9 "cut_to_rate" 2
 c10:bu Pg w K mg base n (run Γ 100000000 n) 10 "bends_of" 1
 c11:bu Pg w K mg base n (run Γ 100000000 n) 11 "least_hours" 2
 c12:bu Pg w K mg base n (run Γ 100000000 n) 12 "found_clocks" 2
 c13:bu Pg w K mg base n (run Γ 100000000 n) 13 "light_stream" 2
 c14:bu Pg w K mg base n (run Γ 100000000 n) 14 "_law_pool" 1
 c15:bu Pg w K mg base n (run Γ 100000000 n) 15 "_law_next" 2
 c16:bu Pg w K mg base n (run Γ 100000000 n) 16 "_law_wide" 2
 c17:bu Pg w K mg base n (run Γ 100000000 n) 17 "_law_net" 2
 c18:bu Pg w K mg base n (run Γ 100000000 n) 18 "_law_whole" 1
 c19:bu Pg w K mg base n (run Γ 100000000 n) 19 "_law_bends_formed" 1
 c20:bu Pg w K mg base n (run Γ 100000000 n) 20 "_law_rate" 2
 c21:bu Pg w K mg base n (run Γ 100000000 n) 21 "_law_hours" 2
 c22:bu Pg w K mg base n (run Γ 100000000 n) 22 "_law_all_least" 1
 c23:bu Pg w K mg base n (run Γ 100000000 n) 23 "_law_too_much" 3
 c24:bu Pg w K mg base n (run Γ 100000000 n) 24 "_law_right" 1
 c25:bu Pg w K mg base n (run Γ 100000000 n) 25 "_law_folded" 2
 c26:bu Pg w K mg base n (run Γ 100000000 n) 26 "law" 1
 x7:iV Pg w K mg base cl n (run Γ 100000000 n) 7 "stream_with" 3
 x9:iV Pg w K mg base cl n (run Γ 100000000 n) 9 "cut_to_rate" 2
 x11:iV Pg w K mg base cl n (run Γ 100000000 n) 11 "least_hours" 2
 x13:iV Pg w K mg base cl n (run Γ 100000000 n) 13 "light_stream" 2
set_option maxHeartbeats 0 in
theorem JZ{Pg:da}{w:eg}{K:PySem.W.Frag}{mg:Str->Option bx}{base:ej}(T:Txt K)(X:K.In base)(G:base.Ns cN mg):∀n,Oks Pg w K mg base (lZ T) n
 |0=>{
   c0:=cQ (ps:=["net","step"]) X G T.D0 rfl ‹km λ_ _=>rfl›
   c1:=cQ (ps:=["net","step"]) X G T.D1 rfl ‹km λ_ _=>rfl›
   c2:=cQ (ps:=["net","stream","step"]) X G T.D2 rfl ‹GK λ_ _ _=>rfl›
   c3:=cQ (ps:=["net","steps"]) X G T.D3 rfl ‹km λ_ _=>rfl›
   c4:=cQ (ps:=["net","stream"]) X G T.D4 rfl ‹km λ_ _=>rfl›
   c5:=cQ (ps:=["net","stream","begun"]) X G T.D5 rfl ‹GK λ_ _ _=>rfl›
   c6:=cQ (ps:=["net","come","place"]) X G T.D6 rfl ‹GK λ_ _ _=>rfl›
   c7:=cQ (ps:=["stream","steps","loads"]) X G T.D7 rfl ‹GK λ_ _ _=>rfl›
   c8:=cQ (ps:=["net"]) X G T.D8 rfl ‹zP λ_=>rfl›
   c9:=cQ (ps:=["pairs","rate"]) X G T.D9 rfl ‹km λ_ _=>rfl›
   c10:=cQ (ps:=["net"]) X G T.D10 rfl ‹zP λ_=>rfl›
   c11:=cQ (ps:=["net","rate"]) X G T.D11 rfl ‹km λ_ _=>rfl›
   c12:=cQ (ps:=["net","stream"]) X G T.D12 rfl ‹km λ_ _=>rfl›
   c13:=cQ (ps:=["net","rate"]) X G T.D13 rfl ‹km λ_ _=>rfl›
   c14:=cQ (ps:=["cell"]) X G T.D14 rfl ‹zP λ_=>rfl›
   c15:=cQ (ps:=["pool","base"]) X G T.D15 rfl ‹km λ_ _=>rfl›
   c16:=cQ (ps:=["pool","base"]) X G T.D16 rfl ‹km λ_ _=>rfl›
   c17:=cQ (ps:=["pool","most"]) X G T.D17 rfl ‹km λ_ _=>rfl›
   c18:=cQ (ps:=["found"]) X G T.D18 rfl ‹zP λ_=>rfl›
   c19:=cQ (ps:=["bends"]) X G T.D19 rfl ‹zP λ_=>rfl›
   c20:=cQ (ps:=["net","stream"]) X G T.D20 rfl ‹km λ_ _=>rfl›
   c21:=cQ (ps:=["net","stream"]) X G T.D21 rfl ‹km λ_ _=>rfl›
   c22:=cQ (ps:=["net"]) X G T.D22 rfl ‹zP λ_=>rfl›
   c23:=cQ (ps:=["net","rate","way"]) X G T.D23 rfl ‹GK λ_ _ _=>rfl›
   c24:=cQ (ps:=["net"]) X G T.D24 rfl ‹zP λ_=>rfl›
   c25:=cQ (ps:=["script","most"]) X G T.D25 rfl ‹km λ_ _=>rfl›
   c26:=cQ (ps:=["script"]) X G T.D26 rfl ‹zP λ_=>rfl›
   x7:=wG (ps:=["stream","steps","loads"]) X G T.D7 rfl ‹GK λ_ _ _=>rfl›
   x9:=wG (ps:=["pairs","rate"]) X G T.D9 rfl ‹km λ_ _=>rfl›
   x11:=wG (ps:=["net","rate"]) X G T.D11 rfl ‹km λ_ _=>rfl›
   x13:=wG (ps:=["net","rate"]) X G T.D13 rfl ‹km λ_ _=>rfl›}|n+1=>have a:=JZ (Pg:=Pg) (w:=w) (base:=base) T X G n
   {c0:=cT (ps:=["net","step"]) X G T.D0 rfl rfl ‹km λ_ _=>rfl› λ_ _ F=>d0 (cl:=lZ T) F
    c1:=cT (ps:=["net","step"]) X G T.D1 rfl rfl ‹km λ_ _=>rfl› λ_ _ F=>d1 (cl:=lZ T) F
    c2:=cT (ps:=["net","stream","step"]) X G T.D2 rfl rfl ‹GK λ_ _ _=>rfl› λ_ _ F=>d2 (cl:=lZ T) F
    c3:=cT (ps:=["net","steps"]) X G T.D3 rfl rfl ‹km λ_ _=>rfl› λ_ _ F=>d3 (cl:=lZ T) F (mg_none_of X G T.fC) a.c1
    c4:=cT (ps:=["net","stream"]) X G T.D4 rfl rfl ‹km λ_ _=>rfl› λ_ _ F=>d4 (cl:=lZ T) F (mg_none_of X G T.cj) (mg_none_of X G T.bw) a.c0 a.c2
    c5:=cT (ps:=["net","stream","begun"]) X G T.D5 rfl rfl ‹GK λ_ _ _=>rfl› λ_ _ F=>d5 (cl:=lZ T) F (mg_none_of X G T.cj) (mg_none_of X G T.gk) a.c4 a.c1 a.c0
    c6:=cT (ps:=["net","come","place"]) X G T.D6 rfl rfl ‹GK λ_ _ _=>rfl› λ_ _ F=>d6 (cl:=lZ T) F (mg_none_of X G T.m5) (mg_none_of X G T.ie) a.c0
    c7:=cT (ps:=["stream","steps","loads"]) X G T.D7 rfl rfl ‹GK λ_ _ _=>rfl› λ_ _ F=>d7 (cl:=lZ T) F (mg_none_of X G T.gk)
    c8:=cT (ps:=["net"]) X G T.D8 rfl rfl ‹zP λ_=>rfl› λ_ _ F=>d8 (cl:=lZ T) F (mg_none_of X G T.cj) (mg_none_of X G T.fG) a.c5 a.c2 a.c6 a.c7
    c9:=cT (ps:=["pairs","rate"]) X G T.D9 rfl rfl ‹km λ_ _=>rfl› λ_ _ F=>d9 (cl:=lZ T) F (mg_none_of X G T.fG)
    c10:=cT (ps:=["net"]) X G T.D10 rfl rfl ‹zP λ_=>rfl› λ_ _ F=>d10 (cl:=lZ T) F (mg_none_of X G T.uI) a.c8 a.c3
    c11:=cT (ps:=["net","rate"]) X G T.D11 rfl rfl ‹km λ_ _=>rfl› λ_ _ F=>d11 (cl:=lZ T) F (mg_none_of X G T.fC) a.c10 a.c9
    c12:=cT (ps:=["net","stream"]) X G T.D12 rfl rfl ‹km λ_ _=>rfl› λ_ _ F=>d12 (cl:=lZ T) F (mg_none_of X G T.bw) (mg_none_of X G T.fC) a.c5
    c13:=cT (ps:=["net","rate"]) X G T.D13 rfl rfl ‹km λ_ _=>rfl› λ_ _ F=>d13 (cl:=lZ T) F (mg_none_of X G T.cj) a.c8 a.c9 a.c12 a.c7
    c14:=cT (ps:=["cell"]) X G T.D14 rfl rfl ‹zP λ_=>rfl› λ_ _ F=>d14 (cl:=lZ T) F (mg_none_of X G T.oR)
    c15:=cT (ps:=["pool","base"]) X G T.D15 rfl rfl ‹km λ_ _=>rfl› λ_ _ F=>d15 (cl:=lZ T) F
    c16:=cT (ps:=["pool","base"]) X G T.D16 rfl rfl ‹km λ_ _=>rfl› λ_ _ F=>d16 (cl:=lZ T) F a.c15
    c17:=cT (ps:=["pool","most"]) X G T.D17 rfl rfl ‹km λ_ _=>rfl› λ_ _ F=>d17 (cl:=lZ T) F (mg_none_of X G T.oR) (mg_none_of X G T.fG) (mg_none_of X G T.bw) (mg_none_of X G T.ie) a.c15 a.c16
    c18:=cT (ps:=["found"]) X G T.D18 rfl rfl ‹zP λ_=>rfl› λ_ _ F=>d18 (cl:=lZ T) F (mg_none_of X G T.Ds) (mg_none_of X G T.N7) (mg_none_of X G T.aW)
    c19:=cT (ps:=["bends"]) X G T.D19 rfl rfl ‹zP λ_=>rfl› λ_ _ F=>d19 (cl:=lZ T) F (mg_none_of X G T.Av) (mg_none_of X G T.aW) (mg_none_of X G T.cj) (mg_none_of X G T.gk) (mg_none_of X G T.bw) (mg_none_of X G T.ie) a.c18
    c20:=cT (ps:=["net","stream"]) X G T.D20 rfl rfl ‹km λ_ _=>rfl› λ_ _ F=>d20 (cl:=lZ T) F (mg_none_of X G T.wz)
    c21:=cT (ps:=["net","stream"]) X G T.D21 rfl rfl ‹km λ_ _=>rfl› λ_ _ F=>d21 (cl:=lZ T) F (mg_none_of X G T.fC) (mg_none_of X G T.wz)
    c22:=cT (ps:=["net"]) X G T.D22 rfl rfl ‹zP λ_=>rfl› λ_ _ F=>d22 (cl:=lZ T) F (mg_none_of X G T.cj) (mg_none_of X G T.fG) (mg_none_of X G T.bw) a.c21 a.c20
    c23:=cT (ps:=["net","rate","way"]) X G T.D23 rfl rfl ‹GK λ_ _ _=>rfl› λ_ _ F=>d23 (cl:=lZ T) F (mg_none_of X G T.jT) (mg_none_of X G T.aW) a.c11 a.c13 (xX X G (Wc T.lB T.lG.choose_spec)) a.x11 a.x13 (wI X (xX X G (Wc T.lU T.aR.choose_spec)) (af6 T.pW T.aR.choose_spec T.lG.choose_spec)) (ae6 T.jr T.aR.choose_spec) (mg_of X G T.jt.choose_spec) (mg_of X G T.lC.choose_spec) (mg_of X G T.iM.choose_spec) (mg_of X G T.lD.choose_spec) (mg_of X G T.oV.choose_spec) (mg_of X G T.lE.choose_spec) (mg_of X G T.lF.choose_spec) (mg_of X G T.oW.choose_spec) (mg_of X G T.ju.choose_spec) (mg_of X G T.aR.choose_spec) (uY T.fP T.aR.choose_spec T.jt.choose_spec) (uY T.gq T.aR.choose_spec T.lC.choose_spec) (uY T.fB T.aR.choose_spec T.iM.choose_spec) (uY T.gw T.aR.choose_spec T.lD.choose_spec) (uY T.gR T.aR.choose_spec T.oV.choose_spec) (uY T.gA T.aR.choose_spec T.lE.choose_spec) (uY T.gB T.aR.choose_spec T.lF.choose_spec) (uY T.gU T.aR.choose_spec T.oW.choose_spec) (uY T.fU T.aR.choose_spec T.ju.choose_spec) (uY T.fV T.aR.choose_spec T.aR.choose_spec) (agk T.dR T.aR.choose_spec)
    c24:=cT (ps:=["net"]) X G T.D24 rfl rfl ‹zP λ_=>rfl› λ_ _ F=>d24 (cl:=lZ T) F (mg_none_of X G T.cj) (mg_none_of X G T.bw) (mg_none_of X G T.fC) a.c22 a.c19 a.c23 a.c18 a.c10 a.c11
    c25:=cT (ps:=["script","most"]) X G T.D25 rfl rfl ‹km λ_ _=>rfl› λ_ _ F=>d25 (cl:=lZ T) F (mg_none_of X G T.cj) (mg_none_of X G T.oR) (mg_none_of X G T.fG) (mg_none_of X G T.bw)
    c26:=cT (ps:=["script"]) X G T.D26 rfl rfl ‹zP λ_=>rfl› λ_ _ F=>d26 (cl:=lZ T) F a.c25 a.c17 a.c14 a.c24
    x7:=yw (ps:=["stream","steps","loads"]) X G T.D7 rfl rfl ‹GK λ_ _ _=>rfl› λ_ _ F=>dx7 (cl:=lZ T) F (mg_none_of X G T.gk)
    x9:=yw (ps:=["pairs","rate"]) X G T.D9 rfl rfl ‹km λ_ _=>rfl› λ_ _ F=>dx9 (cl:=lZ T) F (mg_none_of X G T.fG) (xX X G (Wc T.lU T.aR.choose_spec))
    x11:=yw (ps:=["net","rate"]) X G T.D11 rfl rfl ‹km λ_ _=>rfl› λ_ _ F=>af0 (cl:=lZ T) F (mg_none_of X G T.fC) a.c10 a.c9 a.x9
    x13:=yw (ps:=["net","rate"]) X G T.D13 rfl rfl ‹km λ_ _=>rfl› λ_ _ F=>aee (cl:=lZ T) F (mg_none_of X G T.cj) a.c8 a.c9 a.c12 a.c7 a.x9 a.x7}
set_option maxHeartbeats 0 in
theorem W4{Pg:da}{w:eg}{K:PySem.W.Frag}{mg:Str->Option bx}{h:ej}{i:ce}(T:Txt K)(X:K.In h)(G:h.Ns cN mg)(g:mg "law"=a7 (.ref i)):∃fd:gX,(∀(s:b_)(u:bx),oB s fd ⟨[u],[]⟩ [("script",u)])/\∀base:ej,K.In base->base.Ns cN mg->jq Pg w K mg base J9 40 i fd ["script"] (Rg K 1 (run Γ 100000000 40 26)):=by
 obtain⟨f,fd,a,F⟩:=T.D26.ex;have e:=g.symm.trans (mg_of X G a);cases e;refine⟨fd,λs u=>?_,λbase j l=>?_⟩;.obtain⟨oc,od,kV,m,q,r,cdv,ct,o,rfl,lk,p⟩:=F.ex;exact .of_eq rfl
 .have b:=JZ (Pg:=Pg) (w:=w) (base:=base) T j l 39;exact d26 (cl:=lZ T) (k:=39) (n:=100000000) (c:=run Γ 100000000 39) F b.c25 b.c17 b.c14 b.c24
end _T
open PySem W PyProof.Rows
set_option maxRecDepth 100000 in
set_option maxHeartbeats 0 in
theorem PySem.Challenge.cw_hourhaul_k29_least_hours_of_all_streams_holds : PySem.Challenge.rw_hourhaul_k29_least_hours_of_all_streams.Holds := by
 w_on;o_law;k_head;(case hw=>w_witness2);k_fill;refine _L.Lk (l:=PySem.Challenge.rw_hourhaul_k29_least_hours_of_all_streams) (n:=63) (k:=40) (x:="script") (CX:=_L.J9) (sp:=λK=>_H.Rg K 1 (_H.run _T.Γ 100000000 40 26)) rfl (by decide) rfl ⟨rfl,by decide,by decide⟩ (λw h Y=>PySem.W.kIn_of Y) ?F ?S ?C;case F=>
  intro w mg q h j G i;refine _T.W4 ?T j G i;constructor;iterate 27(· refine' _H.V8 ?a ?l ?c ?k;case a|l|c|k=>k_is)
  iterate 15(· k_is)
  . (refine' _H.sZ ?a);(case a=>k_is)
  . (refine' _H.sZ ?a);(case a=>k_is)
  . (refine' _H.sZ ?a);(case a=>k_is)
  . (refine' _H.sZ ?a);(case a=>k_is)
  . (refine' _H.sZ ?a);(case a=>k_is)
  . (refine' _H.sZ ?a);(case a=>k_is)
  . (refine' _H.sZ ?a);(case a=>k_is)
  . (refine' _H.sZ ?a);(case a=>k_is)
  . (refine' _H.sZ ?a);(case a=>k_is)
  . (refine' _H.sZ ?a);(case a=>k_is)
  . (refine' _H.sZ ?a);(case a=>k_is)
  . (refine' _H.KZ ?ca ?cq);(case ca=>k_is);(case cq=>k_exc)
  . (refine' _H.KZ ?ca ?cq);(case ca=>k_is);(case cq=>k_exc)
  . (refine' _H.afm ?a ?c ?m);(case a=>k_is);(case c=>k_is);(case m=>k_is)
  . (refine' _H.afk ?a ?g ?h ?b ?f ?n ?t ?m);(case a=>k_is);(case g=>k_is);(case h=>k_is);(case b=>k_is);(case f=>k_is);(case n=>k_is);(case t=>k_is);(case m=>k_is)
  . (refine' _H.uT ?a ?c ?m);(case a=>k_is);(case c=>k_is);(case m=>kit_is)
  . (refine' _H.uT ?a ?c ?m);(case a=>k_is);(case c=>k_is);(case m=>kit_is)
  . (refine' _H.uT ?a ?c ?m);(case a=>k_is);(case c=>k_is);(case m=>kit_is)
  . (refine' _H.uT ?a ?c ?m);(case a=>k_is);(case c=>k_is);(case m=>kit_is)
  . (refine' _H.uT ?a ?c ?m);(case a=>k_is);(case c=>k_is);(case m=>kit_is)
  . (refine' _H.uT ?a ?c ?m);(case a=>k_is);(case c=>k_is);(case m=>kit_is)
  . (refine' _H.uT ?a ?c ?m);(case a=>k_is);(case c=>k_is);(case m=>kit_is)
  . (refine' _H.uT ?a ?c ?m);(case a=>k_is);(case c=>k_is);(case m=>kit_is)
  . (refine' _H.uT ?a ?c ?m);(case a=>k_is);(case c=>k_is);(case m=>kit_is)
  . (refine' _H.uT ?a ?c ?m);(case a=>k_is);(case c=>k_is);(case m=>kit_is)
  . (refine' _H.afw ?a ?m);(case a=>k_is);(case m=>kit_is)
 case S=>intro K H a ns o r p;obtain⟨as,e⟩:=_T.Ra ns o;exact _H.Hb p e
 case C=>exact λH s e u z=>z
